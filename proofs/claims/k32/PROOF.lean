import PyProof.Rows.All
import Wide.All
import OpenK.AllK
import Wide.FinOn
import KE.KStateDown
import HandS.Base
import HandS.Call
import HandS.Ends
import HandS.More
import HandS.Words
import HandS.WordsExc
import HandS.Defaults
import HandS.Exc
import HandS.Head0
import HandS.Head1
import HandS.Head2
import HandS.HeadEnd
import HandS.HeadHook1
import HandS.HeadHook2
import HandS.HeadHook3
import KE.KExcInit
import PySem.Challenge.RW_windpoints_k32_lesser_runs
import HandS.ForMost
import HandS.Wide
import HandS.Zip
import HandS.TupAny
import HandS.Conv
import HandS.Dict
import PyProof.DictUpdate
import PyProof.P3Eq
import HandS.Style
import HandS.Walk
import HandS.Star
import HandS.WrittenGet
import HandS.Text
import HandS.ForExc
import HandS.ExcInit
import HandS.ExcField
import HandS.ExcIs
import KE.KTryMore
import PyProof.ExcBaseAll.RuntimeError
import HandS.IsInst
import KE.KExcIs
import KE.KIsAll
import PyProof.DictDisplay
import HandS.CallLocal
import PyProof.StrLaws
import HandS.WideMore
import HandS.List
import HandS.Comp
set_option Elab.async false
set_option linter.all false
set_option maxRecDepth 100000
set_option maxHeartbeats 2000000
/-! a head by facts of one's own: any truths of the written part -/
namespace Hb
open PySem PySem.Spec PyProof.Rows L2
abbrev Bf : Type := PySem.W.Frag → Bool
/-- what stands by a name in the namespace at D, if it is an object -/
def na (K : PySem.W.Frag) (D : Addr) (x : Str) : Addr := match PySem.W.nsIn K D x with
  | some (some (.ref a)) => a
  | _ => 0
def tk (K : PySem.W.Frag) (D : Addr) (x : Str) : Tok := match PySem.W.nsIn K D x with
  | some (some (.int _ t)) => t
  | some (some (.str _ t)) => t
  | _ => 0
def ob (K : PySem.W.Frag) (a : Addr) : Obj := (K.lookup a).getD { cls := .none, data := .freed }
theorem ob_ok {K : PySem.W.Frag} {a : Addr} (h : (K.lookup a).isSome = true) : K.lookup a = some (ob K a) := by
  unfold ob
  cases e : K.lookup a with
  | none => rw [e] at h; cases h
  | some o => rfl
theorem dec {p : Prop} [Decidable p] (h : decide p = true) : p := of_decide_eq_true h
/-! ### what is looked at: levels of what names reach -/
def next (g : Addr → Option Obj) (as : List Addr) : List Addr := as.flatMap fun a => match g a with
  | some o => He.refsD o
  | none => []
def lev (g : Addr → Option Obj) : Nat → List Addr → List Addr
  | 0, as => as
  | n + 1, as => as ++ lev g n (next g as)
def asB (g : Addr → Option Obj) (n : Nat) : List Addr := lev g n [mainGlobals]
abbrev AlB : Type := (Bool × List He.FnW) × List (Option (List (Option (Str × Int))))
def obsB (bs : List Bf) (fn : List He.DefD) (ts : List He.Tab) (K : PySem.W.Frag) : AlB := (((bs.all fun b => b K) && fn.all fun d => d.ok K, fn.map fun d => He.fnW K d.at_), ts.map fun t => He.dicW K (t.1 K))
def valB (fn : List He.DefD) (ts : List He.Tab) (w : World) : AlB := ((true, fn.map He.DefD.val), ts.map fun t => some (He.keysIn w.params t.2))
def obsBG (n : Nat) (bs : List Bf) (fn : List He.DefD) (ts : List He.Tab) (g : Addr → Option Obj) : AlB := obsB bs fn ts (He.frG g (asB g n))
def Says (bs : List Bf) (fn : List He.DefD) (ts : List He.Tab) (w : World) (K : PySem.W.Frag) : Prop := obsB bs fn ts K = valB fn ts w
def hookB (n : Nat) (bs : List Bf) (fn : List He.DefD) (ts : List He.Tab) : PySem.W.Hook where
  α := AlB
  obs := fun s => obsBG n bs fn ts s.heap.get?
  val := fun w => valB fn ts w
  says := fun w h => ∃ K : PySem.W.Frag, K.In h ∧ Says bs fn ts w K
  of := fun _ _ e => ⟨_, He.frG_in, e⟩
  keeps := fun _ _ _ ⟨K, hK, c⟩ k => ⟨K, PySem.W.Frag.In.keeps hK k, c⟩
theorem obsBG_eq {n : Nat} {bs : List Bf} {fn : List He.DefD} {ts : List He.Tab} {g : Addr → Option Obj} {s : Shared} (h : ∀ a, g a = s.heap.get? a) : obsBG n bs fn ts g = (hookB n bs fn ts).obs s := by
  have e : g = s.heap.get? := funext h
  rw [e] <;> rfl
section
variable {bs : List Bf} {fn : List He.DefD} {ts : List He.Tab} {w : World} {K : PySem.W.Frag}
theorem Says.all (c : Says bs fn ts w K) : (bs.all fun b => b K) = true := (He.ba (show ((bs.all fun b => b K) && fn.all fun d => d.ok K) = true from congrArg (fun z : AlB => z.1.1) c)).1
theorem Says.fact (c : Says bs fn ts w K) (i : Nat) {b : Bf} (h : bs[i]? = some b) : b K = true := List.all_eq_true.mp c.all b (List.mem_of_getElem? h)
theorem Says.def_ (c : Says bs fn ts w K) (i : Nat) {d : He.DefD} (h : fn[i]? = some d) : ∃ fd, FunD K d.name d.qual d.params d.body d.scope (d.dvs K) (d.kws K) (He.fAd K d.at_) fd := by
  have c2 := (He.ba (show ((bs.all fun b => b K) && fn.all fun d => d.ok K) = true from congrArg (fun z : AlB => z.1.1) c)).2
  have e : fn.map (fun d => He.fnW K d.at_) = fn.map He.DefD.val := congrArg (fun z : AlB => z.1.2) c
  have e2 : (fn.map fun d => He.fnW K d.at_)[i]? = (fn.map He.DefD.val)[i]? := by rw [e]
  rw [List.getElem?_map, List.getElem?_map, h] at e2
  exact He.DefD.funD (Option.some.inj e2) (List.all_eq_true.mp c2 d (List.mem_of_getElem? h))
theorem Says.tab (c : Says bs fn ts w K) (i : Nat) {t : He.Tab} (h : ts[i]? = some t) : ∃ es n, KDict K w (t.1 K) es n := by
  have e : ts.map (fun t => He.dicW K (t.1 K)) = ts.map fun t => some (He.keysIn w.params t.2) := congrArg (fun z : AlB => z.2) c
  have e2 : (ts.map fun t => He.dicW K (t.1 K))[i]? = (ts.map fun t => some (He.keysIn w.params t.2))[i]? := by rw [e]
  rw [List.getElem?_map, List.getElem?_map, h] at e2
  exact He.dicW_ok (Option.some.inj e2)
end
/-- a def without defaults -/
theorem fun_of {K : PySem.W.Frag} {x qual : Str} {st : Stmt} {f : Addr} {fd : FuncData} {kws : List (Str × V)} (F : FunD K x qual (defArgs st) (defBody st) (defScope st) [] kws f fd) : L2.Fun K x qual st f fd := by
  obtain ⟨oc, od, dV, kV, doc, pm, an, cdv, ct, osl, e, l, c, d, _⟩ := F.ex
  have ed : dV = .none := by
    rcases d with ⟨_, h⟩ | ⟨h, _⟩
    · exact h
    · exact absurd rfl h
  subst ed
  exact ⟨⟨oc, od, kV, doc, pm, an, cdv, ct, osl, e, l, c⟩, F.kp⟩
/-- an attribute of a class that is a built-in -/
def cvB (K : PySem.W.Frag) (C mc : Value) (f : Str) (n : String) : Bool := match PySem.W.findCls K C mc f with
  | some (.val (.builtin m)) => m == n
  | _ => false
theorem cvB_ok {K : PySem.W.Frag} {C mc : Value} {f : Str} {n : String} (h : cvB K C mc f n = true) : PySem.W.findCls K C mc f = some (.val (.builtin n)) := by
  unfold cvB at h
  split at h
  · rename_i m e
    rw [e, beq_iff_eq.mp h]
  · cases h
/-! ### classes of errors -/
def excB (K : PySem.W.Frag) (C : Addr) (T : List Value → Bool) (newId : String) : Bool := match K.lookup C with
  | some ⟨.type "type", _, .cls cd, sl⟩ => (match cd.mro, sl.toList with
    | .ref C' :: bm, [_, _, _, _, some (.builtin n), _] => C' == C && n == newId && !cd.hasDel && cd.hasDict && T bm
    | _, _ => false)
  | _ => false
theorem excB_ok {K : PySem.W.Frag} {C : Addr} {T : List Value → Bool} {newId : String} (q : excB K C T newId = true) : ∃ nm qn N bs bm sn sub ab col dd k0 k1 k2 k3 k5, K.lookup C = some (excClassObj nm qn C N bs bm true sn sub ab col dd k0 k1 k2 k3 k5 newId) ∧ T bm = true := by
  unfold excB at q
  split at q
  · rename_i dd cd sl ho
    split at q
    · rename_i C' bm k0 k1 k2 k3 n k5 hm hs
      simp only [Bool.and_eq_true, beq_iff_eq, Bool.not_eq_true'] at q
      obtain ⟨⟨⟨⟨rfl, rfl⟩, hdel⟩, hdc⟩, ht⟩ := q
      obtain ⟨nm, bs, mro, ns, qn, hd, sn, sub, ab, col, del⟩ := cd
      dsimp only at hm hdel hdc
      subst hm hdel hdc
      have hsl : sl = #[k0, k1, k2, k3, some (.builtin n), k5] := by
        obtain ⟨l⟩ := sl
        simp only at hs
        rw [hs]
      subst hsl
      exact ⟨nm, qn, ns, bs, bm, sn, sub, ab, col, dd, k0, k1, k2, k3, k5, ho, ht⟩
    · cases q
  · cases q
end Hb
namespace Wp
open PySem PySem.Spec PyProof.Rows L2
def strV : Value → Option Str
  | .str x _ => some x
  | _ => none
def strsV : List Value → Option (List Str)
  | [] => some []
  | v :: vs => match strV v, strsV vs with
    | some x, some xs => some (x :: xs)
    | _, _ => none
/-- a tuple of texts in the written part -/
def tupS (o : Obj) : Option (List Str) := match o.cls, o.data with
  | .type n, .seq its _ => if n = "tuple" ∧ its.size ≤ 100 then strsV its.toList else none
  | _, _ => none
def mroO (o : Obj) : Option (List Value) := match o.data with | .cls cd => some cd.mro | _ => none
end Wp
set_option Elab.async false
set_option linter.all false
set_option maxRecDepth 100000
set_option maxHeartbeats 0
namespace Hx
open PySem PySem.Spec PyProof.Rows L2 Wp
def topR (i : Nat) : Stmt := PySem.Challenge.pw_windpoints_k32_lesser_runs.main.body.getD i (.Pass ⟨0, 0, 0, 0⟩)
def bs0 : List Hb.Bf := [
  fun K => decide (PySem.W.nsIn K mainGlobals "_law_next" = some (some (.ref (He.ga K "_law_next")))),
  fun K => decide (PySem.W.nsIn K mainGlobals "_law_draws" = some (some (.ref (He.ga K "_law_draws")))),
  fun K => decide (PySem.W.nsIn K mainGlobals "_law_pair" = some (some (.ref (He.ga K "_law_pair")))),
  fun K => decide (PySem.W.nsIn K mainGlobals "_law_end" = some (some (.ref (He.ga K "_law_end")))),
  fun K => decide (PySem.W.nsIn K mainGlobals "_law_num" = some (some (.ref (He.ga K "_law_num")))),
  fun K => decide (PySem.W.nsIn K mainGlobals "_law_good" = some (some (.ref (He.ga K "_law_good")))),
  fun K => decide (PySem.W.nsIn K mainGlobals "_law_stuck" = some (some (.ref (He.ga K "_law_stuck")))),
  fun K => decide (PySem.W.nsIn K mainGlobals "_law_asked" = some (some (.ref (He.ga K "_law_asked")))),
  fun K => decide (PySem.W.nsIn K mainGlobals "_law_is" = some (some (.ref (He.ga K "_law_is")))),
  fun K => decide (PySem.W.nsIn K mainGlobals "_law_loop" = some (some (.ref (He.ga K "_law_loop")))),
  fun K => decide (PySem.W.nsIn K mainGlobals "law" = some (some (.ref (He.ga K "law")))),
  fun K => decide (PySem.W.nsIn K mainGlobals "is_whole" = some (some (.ref (He.ga K "is_whole")))),
  fun K => decide (PySem.W.nsIn K mainGlobals "kind_of" = some (some (.ref (He.ga K "kind_of")))),
  fun K => decide (PySem.W.nsIn K mainGlobals "shown_alone" = some (some (.ref (He.ga K "shown_alone")))),
  fun K => decide (PySem.W.nsIn K mainGlobals "shown" = some (some (.ref (He.ga K "shown")))),
  fun K => decide (PySem.W.nsIn K mainGlobals "unchained" = some (some (.ref (He.ga K "unchained")))),
  fun K => decide (PySem.W.nsIn K mainGlobals "are_whole" = some (some (.ref (He.ga K "are_whole")))),
  fun K => decide (PySem.W.nsIn K mainGlobals "bounded_number" = some (some (.ref (He.ga K "bounded_number")))),
  fun K => decide (PySem.W.nsIn K mainGlobals "bounded_text" = some (some (.ref (He.ga K "bounded_text")))),
  fun K => decide (PySem.W.nsIn K mainGlobals "plus_worth" = some (some (.ref (He.ga K "plus_worth")))),
  fun K => decide (PySem.W.nsIn K mainGlobals "minus_worth" = some (some (.ref (He.ga K "minus_worth")))),
  fun K => decide (PySem.W.nsIn K mainGlobals "times_worth" = some (some (.ref (He.ga K "times_worth")))),
  fun K => decide (PySem.W.nsIn K mainGlobals "less_worth" = some (some (.ref (He.ga K "less_worth")))),
  fun K => decide (PySem.W.nsIn K mainGlobals "joined_worth" = some (some (.ref (He.ga K "joined_worth")))),
  fun K => decide (PySem.W.nsIn K mainGlobals "first_worth" = some (some (.ref (He.ga K "first_worth")))),
  fun K => decide (PySem.W.nsIn K mainGlobals "kind_worth" = some (some (.ref (He.ga K "kind_worth")))),
  fun K => decide (PySem.W.nsIn K mainGlobals "op_worth" = some (some (.ref (He.ga K "op_worth")))),
  fun K => decide (PySem.W.nsIn K mainGlobals "parts_of" = some (some (.ref (He.ga K "parts_of")))),
  fun K => decide (PySem.W.nsIn K mainGlobals "placed_parts" = some (some (.ref (He.ga K "placed_parts")))),
  fun K => decide (PySem.W.nsIn K mainGlobals "waits_for" = some (some (.ref (He.ga K "waits_for"))))]
def bs1 : List Hb.Bf := [
  fun K => decide (PySem.W.nsIn K mainGlobals "all_places" = some (some (.ref (He.ga K "all_places")))),
  fun K => decide (PySem.W.nsIn K mainGlobals "placed" = some (some (.ref (He.ga K "placed")))),
  fun K => decide (PySem.W.nsIn K mainGlobals "work_out" = some (some (.ref (He.ga K "work_out")))),
  fun K => decide (PySem.W.nsIn K mainGlobals "take_step" = some (some (.ref (He.ga K "take_step")))),
  fun K => decide (PySem.W.nsIn K mainGlobals "act" = some (some (.ref (He.ga K "act")))),
  fun K => decide (PySem.W.nsIn K mainGlobals "go_back" = some (some (.ref (He.ga K "go_back")))),
  fun K => decide (PySem.W.nsIn K mainGlobals "advance" = some (some (.ref (He.ga K "advance")))),
  fun K => decide (PySem.W.nsIn K mainGlobals "result_of" = some (some (.ref (He.ga K "result_of")))),
  fun K => decide (PySem.W.nsIn K mainGlobals "act_literal" = some (some (.ref (He.ga K "act_literal")))),
  fun K => decide (PySem.W.nsIn K mainGlobals "act_yes" = some (some (.ref (He.ga K "act_yes")))),
  fun K => decide (PySem.W.nsIn K mainGlobals "act_no" = some (some (.ref (He.ga K "act_no")))),
  fun K => decide (PySem.W.nsIn K mainGlobals "act_none" = some (some (.ref (He.ga K "act_none")))),
  fun K => decide (PySem.W.nsIn K mainGlobals "act_name" = some (some (.ref (He.ga K "act_name")))),
  fun K => decide (PySem.W.nsIn K mainGlobals "act_fun" = some (some (.ref (He.ga K "act_fun")))),
  fun K => decide (PySem.W.nsIn K mainGlobals "names_of" = some (some (.ref (He.ga K "names_of")))),
  fun K => decide (PySem.W.nsIn K mainGlobals "called_env" = some (some (.ref (He.ga K "called_env")))),
  fun K => decide (PySem.W.nsIn K mainGlobals "act_call" = some (some (.ref (He.ga K "act_call")))),
  fun K => decide (PySem.W.nsIn K mainGlobals "act_let" = some (some (.ref (He.ga K "act_let")))),
  fun K => decide (PySem.W.nsIn K mainGlobals "act_if" = some (some (.ref (He.ga K "act_if")))),
  fun K => decide (PySem.W.nsIn K mainGlobals "act_op" = some (some (.ref (He.ga K "act_op")))),
  fun K => decide (PySem.W.nsIn K mainGlobals "act_cell" = some (some (.ref (He.ga K "act_cell")))),
  fun K => decide (PySem.W.nsIn K mainGlobals "act_get" = some (some (.ref (He.ga K "act_get")))),
  fun K => decide (PySem.W.nsIn K mainGlobals "act_set" = some (some (.ref (He.ga K "act_set")))),
  fun K => decide (PySem.W.nsIn K mainGlobals "act_say" = some (some (.ref (He.ga K "act_say")))),
  fun K => decide (PySem.W.nsIn K mainGlobals "pair_told" = some (some (.ref (He.ga K "pair_told")))),
  fun K => decide (PySem.W.nsIn K mainGlobals "tried_told" = some (some (.ref (He.ga K "tried_told")))),
  fun K => decide (PySem.W.nsIn K mainGlobals "wound_told" = some (some (.ref (He.ga K "wound_told")))),
  fun K => decide (PySem.W.nsIn K mainGlobals "point_told" = some (some (.ref (He.ga K "point_told")))),
  fun K => decide (PySem.W.nsIn K mainGlobals "part_told" = some (some (.ref (He.ga K "part_told")))),
  fun K => decide (PySem.W.nsIn K mainGlobals "inside_told" = some (some (.ref (He.ga K "inside_told"))))]
def bs2 : List Hb.Bf := [
  fun K => decide (PySem.W.nsIn K mainGlobals "is_end" = some (some (.ref (He.ga K "is_end")))),
  fun K => decide (PySem.W.nsIn K mainGlobals "len" = some none),
  fun K => decide (PySem.W.nsIn K mainGlobals "range" = some none),
  fun K => decide (PySem.W.nsIn K mainGlobals "list" = some none),
  fun K => decide (PySem.W.nsIn K mainGlobals "isinstance" = some none),
  fun K => decide (PySem.W.nsIn K mainGlobals "enumerate" = some none),
  fun K => decide (PySem.W.nsIn K mainGlobals "zip" = some none),
  fun K => decide (PySem.W.nsIn K mainGlobals "str" = some none),
  fun K => decide (PySem.W.nsIn K mainGlobals "int" = some none),
  fun K => decide (PySem.W.nsIn K mainGlobals "bool" = some none),
  fun K => decide (PySem.W.nsIn K mainGlobals "abs" = some none),
  fun K => decide (PySem.W.nsIn K mainGlobals "max" = some none),
  fun K => decide (PySem.W.nsIn K mainGlobals "dict" = some none),
  fun K => decide (PySem.W.nsIn K mainGlobals "RuntimeError" = some none),
  fun K => decide (PySem.W.nsIn K mainGlobals "TOO_GREAT" = some (some (.int 1000000000000000000000000000000000000000000000000000000000000 (Hb.tk K mainGlobals "TOO_GREAT")))),
  fun K => decide (PySem.W.nsIn K mainGlobals "TURNED_MOST" = some (some (.int 200000 (Hb.tk K mainGlobals "TURNED_MOST")))),
  fun K => decide (PySem.W.nsIn K mainGlobals "FORMS" = some (some (.ref (He.ga K "FORMS")))),
  fun K => decide (PySem.W.nsIn K mainGlobals "OPS" = some (some (.ref (He.ga K "OPS")))),
  fun K => decide (PySem.W.nsIn K mainGlobals "ACTIONS_worths" = some (some (.ref (He.ga K "ACTIONS_worths")))),
  fun K => decide (PySem.W.nsIn K mainGlobals "ACTIONS_machine" = some (some (.ref (He.ga K "ACTIONS_machine")))),
  fun K => decide (PySem.W.nsIn K mainGlobals "LESSER_ACTIONS" = some (some (.ref (He.ga K "LESSER_ACTIONS")))),
  fun K => decide (PySem.W.nsIn K (He.ga K "FORMS") "num" = some (some (.ref (Hb.na K (He.ga K "FORMS") "num")))),
  fun K => (K.lookup (Hb.na K (He.ga K "FORMS") "num")).isSome,
  fun K => decide (tupS (Hb.ob K (Hb.na K (He.ga K "FORMS") "num")) = some (["number"] : List Str)),
  fun K => decide (PySem.W.nsIn K (He.ga K "FORMS") "text" = some (some (.ref (Hb.na K (He.ga K "FORMS") "text")))),
  fun K => (K.lookup (Hb.na K (He.ga K "FORMS") "text")).isSome,
  fun K => decide (tupS (Hb.ob K (Hb.na K (He.ga K "FORMS") "text")) = some (["text"] : List Str)),
  fun K => decide (PySem.W.nsIn K (He.ga K "FORMS") "yes" = some (some (.ref (Hb.na K (He.ga K "FORMS") "yes")))),
  fun K => (K.lookup (Hb.na K (He.ga K "FORMS") "yes")).isSome,
  fun K => decide (tupS (Hb.ob K (Hb.na K (He.ga K "FORMS") "yes")) = some ([] : List Str))]
def bs3 : List Hb.Bf := [
  fun K => decide (PySem.W.nsIn K (He.ga K "FORMS") "no" = some (some (.ref (Hb.na K (He.ga K "FORMS") "no")))),
  fun K => (K.lookup (Hb.na K (He.ga K "FORMS") "no")).isSome,
  fun K => decide (tupS (Hb.ob K (Hb.na K (He.ga K "FORMS") "no")) = some ([] : List Str)),
  fun K => decide (PySem.W.nsIn K (He.ga K "FORMS") "none" = some (some (.ref (Hb.na K (He.ga K "FORMS") "none")))),
  fun K => (K.lookup (Hb.na K (He.ga K "FORMS") "none")).isSome,
  fun K => decide (tupS (Hb.ob K (Hb.na K (He.ga K "FORMS") "none")) = some ([] : List Str)),
  fun K => decide (PySem.W.nsIn K (He.ga K "FORMS") "name" = some (some (.ref (Hb.na K (He.ga K "FORMS") "name")))),
  fun K => (K.lookup (Hb.na K (He.ga K "FORMS") "name")).isSome,
  fun K => decide (tupS (Hb.ob K (Hb.na K (He.ga K "FORMS") "name")) = some (["name"] : List Str)),
  fun K => decide (PySem.W.nsIn K (He.ga K "FORMS") "fun" = some (some (.ref (Hb.na K (He.ga K "FORMS") "fun")))),
  fun K => (K.lookup (Hb.na K (He.ga K "FORMS") "fun")).isSome,
  fun K => decide (tupS (Hb.ob K (Hb.na K (He.ga K "FORMS") "fun")) = some (["binders", "part"] : List Str)),
  fun K => decide (PySem.W.nsIn K (He.ga K "FORMS") "rec" = some (some (.ref (Hb.na K (He.ga K "FORMS") "rec")))),
  fun K => (K.lookup (Hb.na K (He.ga K "FORMS") "rec")).isSome,
  fun K => decide (tupS (Hb.ob K (Hb.na K (He.ga K "FORMS") "rec")) = some (["binder", "binders", "part"] : List Str)),
  fun K => decide (PySem.W.nsIn K (He.ga K "FORMS") "call" = some (some (.ref (Hb.na K (He.ga K "FORMS") "call")))),
  fun K => (K.lookup (Hb.na K (He.ga K "FORMS") "call")).isSome,
  fun K => decide (tupS (Hb.ob K (Hb.na K (He.ga K "FORMS") "call")) = some (["part", "handed parts"] : List Str)),
  fun K => decide (PySem.W.nsIn K (He.ga K "FORMS") "let" = some (some (.ref (Hb.na K (He.ga K "FORMS") "let")))),
  fun K => (K.lookup (Hb.na K (He.ga K "FORMS") "let")).isSome,
  fun K => decide (tupS (Hb.ob K (Hb.na K (He.ga K "FORMS") "let")) = some (["binder", "part", "part"] : List Str)),
  fun K => decide (PySem.W.nsIn K (He.ga K "FORMS") "if" = some (some (.ref (Hb.na K (He.ga K "FORMS") "if")))),
  fun K => (K.lookup (Hb.na K (He.ga K "FORMS") "if")).isSome,
  fun K => decide (tupS (Hb.ob K (Hb.na K (He.ga K "FORMS") "if")) = some (["part", "part", "part"] : List Str)),
  fun K => decide (PySem.W.nsIn K (He.ga K "FORMS") "do" = some (some (.ref (Hb.na K (He.ga K "FORMS") "do")))),
  fun K => (K.lookup (Hb.na K (He.ga K "FORMS") "do")).isSome,
  fun K => decide (tupS (Hb.ob K (Hb.na K (He.ga K "FORMS") "do")) = some (["row parts"] : List Str)),
  fun K => decide (PySem.W.nsIn K (He.ga K "FORMS") "op" = some (some (.ref (Hb.na K (He.ga K "FORMS") "op")))),
  fun K => (K.lookup (Hb.na K (He.ga K "FORMS") "op")).isSome,
  fun K => decide (tupS (Hb.ob K (Hb.na K (He.ga K "FORMS") "op")) = some (["word", "op parts"] : List Str))]
def bs4 : List Hb.Bf := [
  fun K => decide (PySem.W.nsIn K (He.ga K "FORMS") "cell" = some (some (.ref (Hb.na K (He.ga K "FORMS") "cell")))),
  fun K => (K.lookup (Hb.na K (He.ga K "FORMS") "cell")).isSome,
  fun K => decide (tupS (Hb.ob K (Hb.na K (He.ga K "FORMS") "cell")) = some (["part"] : List Str)),
  fun K => decide (PySem.W.nsIn K (He.ga K "FORMS") "get" = some (some (.ref (Hb.na K (He.ga K "FORMS") "get")))),
  fun K => (K.lookup (Hb.na K (He.ga K "FORMS") "get")).isSome,
  fun K => decide (tupS (Hb.ob K (Hb.na K (He.ga K "FORMS") "get")) = some (["part"] : List Str)),
  fun K => decide (PySem.W.nsIn K (He.ga K "FORMS") "set" = some (some (.ref (Hb.na K (He.ga K "FORMS") "set")))),
  fun K => (K.lookup (Hb.na K (He.ga K "FORMS") "set")).isSome,
  fun K => decide (tupS (Hb.ob K (Hb.na K (He.ga K "FORMS") "set")) = some (["part", "part"] : List Str)),
  fun K => decide (PySem.W.nsIn K (He.ga K "FORMS") "say" = some (some (.ref (Hb.na K (He.ga K "FORMS") "say")))),
  fun K => (K.lookup (Hb.na K (He.ga K "FORMS") "say")).isSome,
  fun K => decide (tupS (Hb.ob K (Hb.na K (He.ga K "FORMS") "say")) = some (["part"] : List Str)),
  fun K => decide (PySem.W.nsIn K (He.ga K "FORMS") "fault" = some (some (.ref (Hb.na K (He.ga K "FORMS") "fault")))),
  fun K => (K.lookup (Hb.na K (He.ga K "FORMS") "fault")).isSome,
  fun K => decide (tupS (Hb.ob K (Hb.na K (He.ga K "FORMS") "fault")) = some (["part"] : List Str)),
  fun K => decide (PySem.W.nsIn K (He.ga K "FORMS") "guard" = some (some (.ref (Hb.na K (He.ga K "FORMS") "guard")))),
  fun K => (K.lookup (Hb.na K (He.ga K "FORMS") "guard")).isSome,
  fun K => decide (tupS (Hb.ob K (Hb.na K (He.ga K "FORMS") "guard")) = some (["part", "binder", "part"] : List Str)),
  fun K => decide (PySem.W.nsIn K (He.ga K "FORMS") "wind" = some (some (.ref (Hb.na K (He.ga K "FORMS") "wind")))),
  fun K => (K.lookup (Hb.na K (He.ga K "FORMS") "wind")).isSome,
  fun K => decide (tupS (Hb.ob K (Hb.na K (He.ga K "FORMS") "wind")) = some (["part", "part", "part"] : List Str)),
  fun K => decide (PySem.W.nsIn K (He.ga K "FORMS") "catch" = some (some (.ref (Hb.na K (He.ga K "FORMS") "catch")))),
  fun K => (K.lookup (Hb.na K (He.ga K "FORMS") "catch")).isSome,
  fun K => decide (tupS (Hb.ob K (Hb.na K (He.ga K "FORMS") "catch")) = some (["binder", "part"] : List Str)),
  fun K => decide (PySem.W.nsIn K (He.ga K "FORMS") "go" = some (some (.ref (Hb.na K (He.ga K "FORMS") "go")))),
  fun K => (K.lookup (Hb.na K (He.ga K "FORMS") "go")).isSome,
  fun K => decide (tupS (Hb.ob K (Hb.na K (He.ga K "FORMS") "go")) = some (["part", "part"] : List Str)),
  fun K => decide (PySem.W.nsIn K (He.ga K "FORMS") "mark" = some (some (.ref (Hb.na K (He.ga K "FORMS") "mark")))),
  fun K => (K.lookup (Hb.na K (He.ga K "FORMS") "mark")).isSome,
  fun K => decide (tupS (Hb.ob K (Hb.na K (He.ga K "FORMS") "mark")) = some (["tag", "part"] : List Str))]
def bs5 : List Hb.Bf := [
  fun K => decide (PySem.W.nsIn K (He.ga K "FORMS") "take" = some (some (.ref (Hb.na K (He.ga K "FORMS") "take")))),
  fun K => (K.lookup (Hb.na K (He.ga K "FORMS") "take")).isSome,
  fun K => decide (tupS (Hb.ob K (Hb.na K (He.ga K "FORMS") "take")) = some (["tag", "binder", "part"] : List Str)),
  fun K => decide (PySem.W.nsIn K (He.ga K "FORMS") "use" = some (some (.ref (Hb.na K (He.ga K "FORMS") "use")))),
  fun K => (K.lookup (Hb.na K (He.ga K "FORMS") "use")).isSome,
  fun K => decide (tupS (Hb.ob K (Hb.na K (He.ga K "FORMS") "use")) = some (["part", "part"] : List Str)),
  fun K => decide (PySem.W.nsIn K (He.ga K "OPS") "plus" = some (some (.int 2 (Hb.tk K (He.ga K "OPS") "plus")))),
  fun K => decide (PySem.W.nsIn K (He.ga K "OPS") "minus" = some (some (.int 2 (Hb.tk K (He.ga K "OPS") "minus")))),
  fun K => decide (PySem.W.nsIn K (He.ga K "OPS") "times" = some (some (.int 2 (Hb.tk K (He.ga K "OPS") "times")))),
  fun K => decide (PySem.W.nsIn K (He.ga K "OPS") "joined" = some (some (.int 2 (Hb.tk K (He.ga K "OPS") "joined")))),
  fun K => decide (PySem.W.nsIn K (He.ga K "ACTIONS_worths") "plus" = some (some (.ref (He.ga K "plus_worth")))),
  fun K => decide (PySem.W.nsIn K (He.ga K "ACTIONS_worths") "minus" = some (some (.ref (He.ga K "minus_worth")))),
  fun K => decide (PySem.W.nsIn K (He.ga K "ACTIONS_worths") "times" = some (some (.ref (He.ga K "times_worth")))),
  fun K => decide (PySem.W.nsIn K (He.ga K "ACTIONS_worths") "less" = some (some (.ref (He.ga K "less_worth")))),
  fun K => decide (PySem.W.nsIn K (He.ga K "ACTIONS_worths") "joined" = some (some (.ref (He.ga K "joined_worth")))),
  fun K => decide (PySem.W.nsIn K (He.ga K "ACTIONS_worths") "first" = some (some (.ref (He.ga K "first_worth")))),
  fun K => decide (PySem.W.nsIn K (He.ga K "ACTIONS_worths") "kind" = some (some (.ref (He.ga K "kind_worth")))),
  fun K => decide (PySem.W.nsIn K (He.ga K "ACTIONS_machine") "num" = some (some (.ref (He.ga K "act_literal")))),
  fun K => decide (PySem.W.nsIn K (He.ga K "ACTIONS_machine") "text" = some (some (.ref (He.ga K "act_literal")))),
  fun K => decide (PySem.W.nsIn K (He.ga K "ACTIONS_machine") "yes" = some (some (.ref (He.ga K "act_yes")))),
  fun K => decide (PySem.W.nsIn K (He.ga K "ACTIONS_machine") "no" = some (some (.ref (He.ga K "act_no")))),
  fun K => decide (PySem.W.nsIn K (He.ga K "ACTIONS_machine") "none" = some (some (.ref (He.ga K "act_none")))),
  fun K => decide (PySem.W.nsIn K (He.ga K "ACTIONS_machine") "name" = some (some (.ref (He.ga K "act_name")))),
  fun K => decide (PySem.W.nsIn K (He.ga K "ACTIONS_machine") "fun" = some (some (.ref (He.ga K "act_fun")))),
  fun K => decide (PySem.W.nsIn K (He.ga K "ACTIONS_machine") "rec" = some (some (.ref (He.ga K "act_fun")))),
  fun K => decide (PySem.W.nsIn K (He.ga K "ACTIONS_machine") "call" = some (some (.ref (He.ga K "act_call")))),
  fun K => decide (PySem.W.nsIn K (He.ga K "ACTIONS_machine") "let" = some (some (.ref (He.ga K "act_let")))),
  fun K => decide (PySem.W.nsIn K (He.ga K "ACTIONS_machine") "if" = some (some (.ref (He.ga K "act_if")))),
  fun K => decide (PySem.W.nsIn K (He.ga K "ACTIONS_machine") "op" = some (some (.ref (He.ga K "act_op")))),
  fun K => decide (PySem.W.nsIn K (He.ga K "ACTIONS_machine") "cell" = some (some (.ref (He.ga K "act_cell"))))]
def bs6 : List Hb.Bf := [
  fun K => decide (PySem.W.nsIn K (He.ga K "ACTIONS_machine") "get" = some (some (.ref (He.ga K "act_get")))),
  fun K => decide (PySem.W.nsIn K (He.ga K "ACTIONS_machine") "set" = some (some (.ref (He.ga K "act_set")))),
  fun K => decide (PySem.W.nsIn K (He.ga K "ACTIONS_machine") "say" = some (some (.ref (He.ga K "act_say")))),
  fun K => decide (PySem.W.nsIn K (He.ga K "LESSER_ACTIONS") "pair" = some (some (.ref (He.ga K "pair_told")))),
  fun K => decide (PySem.W.nsIn K (He.ga K "LESSER_ACTIONS") "tried" = some (some (.ref (He.ga K "tried_told")))),
  fun K => decide (PySem.W.nsIn K (He.ga K "LESSER_ACTIONS") "wound" = some (some (.ref (He.ga K "wound_told")))),
  fun K => decide (PySem.W.nsIn K (He.ga K "LESSER_ACTIONS") "point" = some (some (.ref (He.ga K "point_told")))),
  fun K => decide (PySem.W.nsIn K (He.ga K "LESSER_ACTIONS") "part" = some (some (.ref (He.ga K "part_told")))),
  fun K => decide (PySem.W.nsIn K (He.ga K "LESSER_ACTIONS") "inside" = some (some (.ref (He.ga K "inside_told")))),
  fun K => decide (PySem.W.nsIn K (He.ga K "LESSER_ACTIONS") "plus" = some none),
  fun K => decide (PySem.W.nsIn K (He.ga K "LESSER_ACTIONS") "minus" = some none),
  fun K => decide (PySem.W.nsIn K (He.ga K "LESSER_ACTIONS") "times" = some none),
  fun K => decide (PySem.W.nsIn K (He.ga K "LESSER_ACTIONS") "less" = some none),
  fun K => decide (PySem.W.nsIn K (He.ga K "LESSER_ACTIONS") "joined" = some none),
  fun K => decide (PySem.W.nsIn K (He.ga K "LESSER_ACTIONS") "first" = some none),
  fun K => decide (PySem.W.nsIn K (He.ga K "LESSER_ACTIONS") "kind" = some none),
  fun K => decide (PySem.W.nsIn K mainGlobals "WAITS_FOR_FIRST" = some (some (.ref (He.ga K "WAITS_FOR_FIRST")))),
  fun K => (K.lookup (He.ga K "WAITS_FOR_FIRST")).isSome,
  fun K => decide (tupS (Hb.ob K (He.ga K "WAITS_FOR_FIRST")) = some (["let", "if", "guard", "wind"] : List Str)),
  fun K => decide (PySem.W.nsIn K mainGlobals "WAITS_FOR_NONE" = some (some (.ref (He.ga K "WAITS_FOR_NONE")))),
  fun K => (K.lookup (He.ga K "WAITS_FOR_NONE")).isSome,
  fun K => decide (tupS (Hb.ob K (He.ga K "WAITS_FOR_NONE")) = some (["fun", "rec", "catch", "mark", "take"] : List Str)),
  fun K => decide (PySem.W.specialIn K (.builtin "object.__class__") "__get__" = some (some (.builtin "getset_descriptor.__get__"))),
  fun K => decide (PySem.W.takesIn K (.builtin "object.__class__") = some true),
  fun K => decide (PySem.W.nsIn K mainGlobals "Place" = some (some (.ref (He.ga K "Place")))),
  fun K => decide (PySem.W.plainGet K (He.ga K "Place") Str.empty = true),
  fun K => decide (PySem.W.hasDictIn K (He.ga K "Place") = true),
  fun K => decide (PySem.W.plainOver K (He.ga K "Place") = true),
  fun K => decide (PySem.W.findIn K (.ref (He.ga K "Place")) "__setattr__" = some (some (.builtin "object.__setattr__"))),
  fun K => decide (PySem.W.findIn K (.ref (He.ga K "Place")) "path" = some none)]
def bs7 : List Hb.Bf := [
  fun K => decide (PySem.W.findIn K (.ref (He.ga K "Place")) "term" = some none),
  fun K => decide (PySem.W.findIn K (.ref (He.ga K "Place")) "word" = some none),
  fun K => decide (PySem.W.findIn K (.ref (He.ga K "Place")) "parts" = some none),
  fun K => decide (PySem.W.findIn K (.ref (He.ga K "Place")) "waits" = some none),
  fun K => decide (PySem.W.makesIn K (He.ga K "Place") = true),
  fun K => decide (PySem.W.keepIn K (.ref (He.ga K "Place")) = true),
  fun K => decide (PySem.W.nsIn K mainGlobals "Pair" = some (some (.ref (He.ga K "Pair")))),
  fun K => decide (PySem.W.plainGet K (He.ga K "Pair") Str.empty = true),
  fun K => decide (PySem.W.hasDictIn K (He.ga K "Pair") = true),
  fun K => decide (PySem.W.plainOver K (He.ga K "Pair") = true),
  fun K => decide (PySem.W.findIn K (.ref (He.ga K "Pair")) "__setattr__" = some (some (.builtin "object.__setattr__"))),
  fun K => decide (PySem.W.findIn K (.ref (He.ga K "Pair")) "first" = some none),
  fun K => decide (PySem.W.findIn K (.ref (He.ga K "Pair")) "rest" = some none),
  fun K => decide (PySem.W.makesIn K (He.ga K "Pair") = true),
  fun K => decide (PySem.W.keepIn K (.ref (He.ga K "Pair")) = true),
  fun K => decide (PySem.W.nsIn K mainGlobals "Fun" = some (some (.ref (He.ga K "Fun")))),
  fun K => decide (PySem.W.plainGet K (He.ga K "Fun") Str.empty = true),
  fun K => decide (PySem.W.hasDictIn K (He.ga K "Fun") = true),
  fun K => decide (PySem.W.plainOver K (He.ga K "Fun") = true),
  fun K => decide (PySem.W.findIn K (.ref (He.ga K "Fun")) "__setattr__" = some (some (.builtin "object.__setattr__"))),
  fun K => decide (PySem.W.findIn K (.ref (He.ga K "Fun")) "place" = some none),
  fun K => decide (PySem.W.findIn K (.ref (He.ga K "Fun")) "env" = some none),
  fun K => decide (PySem.W.makesIn K (He.ga K "Fun") = true),
  fun K => decide (PySem.W.keepIn K (.ref (He.ga K "Fun")) = true),
  fun K => decide (PySem.W.nsIn K mainGlobals "Cell" = some (some (.ref (He.ga K "Cell")))),
  fun K => decide (PySem.W.plainGet K (He.ga K "Cell") Str.empty = true),
  fun K => decide (PySem.W.hasDictIn K (He.ga K "Cell") = true),
  fun K => decide (PySem.W.plainOver K (He.ga K "Cell") = true),
  fun K => decide (PySem.W.findIn K (.ref (He.ga K "Cell")) "__setattr__" = some (some (.builtin "object.__setattr__"))),
  fun K => decide (PySem.W.findIn K (.ref (He.ga K "Cell")) "held" = some none)]
def bs8 : List Hb.Bf := [
  fun K => decide (PySem.W.makesIn K (He.ga K "Cell") = true),
  fun K => decide (PySem.W.keepIn K (.ref (He.ga K "Cell")) = true),
  fun K => decide (PySem.W.nsIn K mainGlobals "Point" = some (some (.ref (He.ga K "Point")))),
  fun K => decide (PySem.W.plainGet K (He.ga K "Point") Str.empty = true),
  fun K => decide (PySem.W.hasDictIn K (He.ga K "Point") = true),
  fun K => decide (PySem.W.plainOver K (He.ga K "Point") = true),
  fun K => decide (PySem.W.findIn K (.ref (He.ga K "Point")) "__setattr__" = some (some (.builtin "object.__setattr__"))),
  fun K => decide (PySem.W.findIn K (.ref (He.ga K "Point")) "held" = some none),
  fun K => decide (PySem.W.makesIn K (He.ga K "Point") = true),
  fun K => decide (PySem.W.keepIn K (.ref (He.ga K "Point")) = true),
  fun K => decide (PySem.W.nsIn K mainGlobals "Part" = some (some (.ref (He.ga K "Part")))),
  fun K => decide (PySem.W.plainGet K (He.ga K "Part") Str.empty = true),
  fun K => decide (PySem.W.hasDictIn K (He.ga K "Part") = true),
  fun K => decide (PySem.W.plainOver K (He.ga K "Part") = true),
  fun K => decide (PySem.W.findIn K (.ref (He.ga K "Part")) "__setattr__" = some (some (.builtin "object.__setattr__"))),
  fun K => decide (PySem.W.findIn K (.ref (He.ga K "Part")) "held" = some none),
  fun K => decide (PySem.W.makesIn K (He.ga K "Part") = true),
  fun K => decide (PySem.W.keepIn K (.ref (He.ga K "Part")) = true),
  fun K => decide (PySem.W.nsIn K mainGlobals "Node" = some (some (.ref (He.ga K "Node")))),
  fun K => decide (PySem.W.plainGet K (He.ga K "Node") Str.empty = true),
  fun K => decide (PySem.W.hasDictIn K (He.ga K "Node") = true),
  fun K => decide (PySem.W.plainOver K (He.ga K "Node") = true),
  fun K => decide (PySem.W.findIn K (.ref (He.ga K "Node")) "__setattr__" = some (some (.builtin "object.__setattr__"))),
  fun K => decide (PySem.W.findIn K (.ref (He.ga K "Node")) "frame" = some none),
  fun K => decide (PySem.W.findIn K (.ref (He.ga K "Node")) "outer" = some none),
  fun K => decide (PySem.W.findIn K (.ref (He.ga K "Node")) "height" = some none),
  fun K => decide (PySem.W.findIn K (.ref (He.ga K "Node")) "wind" = some none),
  fun K => decide (PySem.W.makesIn K (He.ga K "Node") = true),
  fun K => decide (PySem.W.keepIn K (.ref (He.ga K "Node")) = true),
  fun K => decide (PySem.W.nsIn K mainGlobals "HeapFrames" = some (some (.ref (He.ga K "HeapFrames"))))]
def bs9 : List Hb.Bf := [
  fun K => decide (PySem.W.plainGet K (He.ga K "HeapFrames") Str.empty = true),
  fun K => decide (PySem.W.hasDictIn K (He.ga K "HeapFrames") = true),
  fun K => decide (PySem.W.plainOver K (He.ga K "HeapFrames") = true),
  fun K => decide (PySem.W.findIn K (.ref (He.ga K "HeapFrames")) "__setattr__" = some (some (.builtin "object.__setattr__"))),
  fun K => decide (PySem.W.findIn K (.ref (He.ga K "HeapFrames")) "top" = some none),
  fun K => decide (PySem.W.makesIn K (He.ga K "HeapFrames") = true),
  fun K => decide (PySem.W.keepIn K (.ref (He.ga K "HeapFrames")) = true),
  fun K => decide (PySem.W.nsIn K mainGlobals "LesserMachine" = some (some (.ref (He.ga K "LesserMachine")))),
  fun K => decide (PySem.W.plainGet K (He.ga K "LesserMachine") Str.empty = true),
  fun K => decide (PySem.W.hasDictIn K (He.ga K "LesserMachine") = true),
  fun K => decide (PySem.W.plainOver K (He.ga K "LesserMachine") = true),
  fun K => decide (PySem.W.findIn K (.ref (He.ga K "LesserMachine")) "__setattr__" = some (some (.builtin "object.__setattr__"))),
  fun K => decide (PySem.W.findIn K (.ref (He.ga K "LesserMachine")) "frames" = some none),
  fun K => decide (PySem.W.findIn K (.ref (He.ga K "LesserMachine")) "stage" = some none),
  fun K => decide (PySem.W.findIn K (.ref (He.ga K "LesserMachine")) "place" = some none),
  fun K => decide (PySem.W.findIn K (.ref (He.ga K "LesserMachine")) "env" = some none),
  fun K => decide (PySem.W.findIn K (.ref (He.ga K "LesserMachine")) "kind" = some none),
  fun K => decide (PySem.W.findIn K (.ref (He.ga K "LesserMachine")) "worth" = some none),
  fun K => decide (PySem.W.findIn K (.ref (He.ga K "LesserMachine")) "output" = some none),
  fun K => decide (PySem.W.findIn K (.ref (He.ga K "LesserMachine")) "winds" = some none),
  fun K => decide (PySem.W.findIn K (.ref (He.ga K "LesserMachine")) "steps" = some none),
  fun K => decide (PySem.W.findIn K (.ref (He.ga K "LesserMachine")) "height" = some none),
  fun K => decide (PySem.W.makesIn K (He.ga K "LesserMachine") = true),
  fun K => decide (PySem.W.keepIn K (.ref (He.ga K "LesserMachine")) = true),
  fun K => decide (PySem.W.nsIn K mainGlobals "Result" = some (some (.ref (He.ga K "Result")))),
  fun K => decide (PySem.W.plainGet K (He.ga K "Result") Str.empty = true),
  fun K => decide (PySem.W.hasDictIn K (He.ga K "Result") = true),
  fun K => decide (PySem.W.plainOver K (He.ga K "Result") = true),
  fun K => decide (PySem.W.findIn K (.ref (He.ga K "Result")) "__setattr__" = some (some (.builtin "object.__setattr__"))),
  fun K => decide (PySem.W.findIn K (.ref (He.ga K "Result")) "kind" = some none)]
def bs10 : List Hb.Bf := [
  fun K => decide (PySem.W.findIn K (.ref (He.ga K "Result")) "worth" = some none),
  fun K => decide (PySem.W.findIn K (.ref (He.ga K "Result")) "output" = some none),
  fun K => decide (PySem.W.findIn K (.ref (He.ga K "Result")) "winds" = some none),
  fun K => decide (PySem.W.findIn K (.ref (He.ga K "Result")) "steps" = some none),
  fun K => decide (PySem.W.findIn K (.ref (He.ga K "Result")) "height" = some none),
  fun K => decide (PySem.W.makesIn K (He.ga K "Result") = true),
  fun K => decide (PySem.W.keepIn K (.ref (He.ga K "Result")) = true),
  fun K => decide (PySem.W.findIn K (.ref (He.ga K "Pair")) "__class__" = some (some (.builtin "object.__class__"))),
  fun K => (K.lookup (He.ga K "Pair")).isSome,
  fun K => decide (mroO (Hb.ob K (He.ga K "Pair")) = some [.ref (He.ga K "Pair"), .type "object"]),
  fun K => decide (PySem.W.typeIn K (.ref (He.ga K "Pair")) = some (.type "type")),
  fun K => decide (PySem.W.findIn K (.ref (He.ga K "Fun")) "__class__" = some (some (.builtin "object.__class__"))),
  fun K => (K.lookup (He.ga K "Fun")).isSome,
  fun K => decide (mroO (Hb.ob K (He.ga K "Fun")) = some [.ref (He.ga K "Fun"), .type "object"]),
  fun K => decide (PySem.W.typeIn K (.ref (He.ga K "Fun")) = some (.type "type")),
  fun K => decide (PySem.W.findIn K (.ref (He.ga K "Cell")) "__class__" = some (some (.builtin "object.__class__"))),
  fun K => (K.lookup (He.ga K "Cell")).isSome,
  fun K => decide (mroO (Hb.ob K (He.ga K "Cell")) = some [.ref (He.ga K "Cell"), .type "object"]),
  fun K => decide (PySem.W.typeIn K (.ref (He.ga K "Cell")) = some (.type "type")),
  fun K => decide (PySem.W.findIn K (.ref (He.ga K "Point")) "__class__" = some (some (.builtin "object.__class__"))),
  fun K => (K.lookup (He.ga K "Point")).isSome,
  fun K => decide (mroO (Hb.ob K (He.ga K "Point")) = some [.ref (He.ga K "Point"), .type "object"]),
  fun K => decide (PySem.W.typeIn K (.ref (He.ga K "Point")) = some (.type "type")),
  fun K => decide (PySem.W.findIn K (.ref (He.ga K "Part")) "__class__" = some (some (.builtin "object.__class__"))),
  fun K => (K.lookup (He.ga K "Part")).isSome,
  fun K => decide (mroO (Hb.ob K (He.ga K "Part")) = some [.ref (He.ga K "Part"), .type "object"]),
  fun K => decide (PySem.W.typeIn K (.ref (He.ga K "Part")) = some (.type "type")),
  fun K => decide ([(He.ga K "Place"), (He.ga K "Pair"), (He.ga K "Fun"), (He.ga K "Cell"), (He.ga K "Point"), (He.ga K "Part"), (He.ga K "Node"), (He.ga K "HeapFrames"), (He.ga K "LesserMachine")].Nodup),
  fun K => decide (PySem.W.findIn K (.ref (He.ga K "Place")) "__init__" = some (some (.ref (He.ma K (He.ga K "Place") "__init__")))),
  fun K => decide (PySem.W.isFn K (.ref (He.ma K (He.ga K "Place") "__init__")) = true)]
def bs11 : List Hb.Bf := [
  fun K => decide (PySem.W.findIn K (.ref (He.ga K "Pair")) "__init__" = some (some (.ref (He.ma K (He.ga K "Pair") "__init__")))),
  fun K => decide (PySem.W.isFn K (.ref (He.ma K (He.ga K "Pair") "__init__")) = true),
  fun K => decide (PySem.W.findIn K (.ref (He.ga K "Node")) "__init__" = some (some (.ref (He.ma K (He.ga K "Node") "__init__")))),
  fun K => decide (PySem.W.isFn K (.ref (He.ma K (He.ga K "Node") "__init__")) = true),
  fun K => decide (PySem.W.findIn K (.ref (He.ga K "HeapFrames")) "__init__" = some (some (.ref (He.ma K (He.ga K "HeapFrames") "__init__")))),
  fun K => decide (PySem.W.isFn K (.ref (He.ma K (He.ga K "HeapFrames") "__init__")) = true),
  fun K => decide (PySem.W.findIn K (.ref (He.ga K "LesserMachine")) "__init__" = some (some (.ref (He.ma K (He.ga K "LesserMachine") "__init__")))),
  fun K => decide (PySem.W.isFn K (.ref (He.ma K (He.ga K "LesserMachine") "__init__")) = true),
  fun K => decide (PySem.W.findIn K (.ref (He.ga K "Result")) "__init__" = some (some (.ref (He.ma K (He.ga K "Result") "__init__")))),
  fun K => decide (PySem.W.isFn K (.ref (He.ma K (He.ga K "Result") "__init__")) = true),
  fun K => decide (PySem.W.findIn K (.ref (He.ga K "HeapFrames")) "push" = some (some (.ref (He.ma K (He.ga K "HeapFrames") "push")))),
  fun K => decide (PySem.W.isFn K (.ref (He.ma K (He.ga K "HeapFrames") "push")) = true),
  fun K => decide (PySem.W.findIn K (.ref (He.ga K "HeapFrames")) "pull" = some (some (.ref (He.ma K (He.ga K "HeapFrames") "pull")))),
  fun K => decide (PySem.W.isFn K (.ref (He.ma K (He.ga K "HeapFrames") "pull")) = true),
  fun K => decide (PySem.W.findIn K (.ref (He.ga K "HeapFrames")) "many" = some (some (.ref (He.ma K (He.ga K "HeapFrames") "many")))),
  fun K => decide (PySem.W.isFn K (.ref (He.ma K (He.ga K "HeapFrames") "many")) = true),
  fun K => decide (PySem.W.findIn K (.ref (He.ga K "LesserMachine")) "begin" = some (some (.ref (He.ma K (He.ga K "LesserMachine") "begin")))),
  fun K => decide (PySem.W.isFn K (.ref (He.ma K (He.ga K "LesserMachine") "begin")) = true),
  fun K => decide (PySem.W.findIn K (.ref (He.ga K "LesserMachine")) "give" = some (some (.ref (He.ma K (He.ga K "LesserMachine") "give")))),
  fun K => decide (PySem.W.isFn K (.ref (He.ma K (He.ga K "LesserMachine") "give")) = true),
  fun K => decide (PySem.W.findIn K (.ref (He.ga K "LesserMachine")) "end" = some (some (.ref (He.ma K (He.ga K "LesserMachine") "end")))),
  fun K => decide (PySem.W.isFn K (.ref (He.ma K (He.ga K "LesserMachine") "end")) = true),
  fun K => decide (PySem.W.findIn K (.ref (He.ga K "LesserMachine")) "faulted" = some (some (.ref (He.ma K (He.ga K "LesserMachine") "faulted")))),
  fun K => decide (PySem.W.isFn K (.ref (He.ma K (He.ga K "LesserMachine") "faulted")) = true),
  fun K => decide (PySem.W.findIn K (.ref (He.ga K "LesserMachine")) "act_more" = some (some (.ref (He.ma K (He.ga K "LesserMachine") "act_more")))),
  fun K => decide (PySem.W.isFn K (.ref (He.ma K (He.ga K "LesserMachine") "act_more")) = true),
  fun K => decide (PySem.W.findIn K (.ref (He.ga K "LesserMachine")) "back_to" = some (some (.ref (He.ma K (He.ga K "LesserMachine") "back_to")))),
  fun K => decide (PySem.W.isFn K (.ref (He.ma K (He.ga K "LesserMachine") "back_to")) = true),
  fun K => decide (PySem.W.findIn K (.ref (He.ga K "LesserMachine")) "op_told" = some (some (.ref (He.ma K (He.ga K "LesserMachine") "op_told")))),
  fun K => decide (PySem.W.isFn K (.ref (He.ma K (He.ga K "LesserMachine") "op_told")) = true)]
def bs12 : List Hb.Bf := [
  fun K => decide (PySem.W.findIn K (.ref (He.ga K "Fun")) "__init__" = some (some (.ref (He.ma K (He.ga K "Fun") "__init__")))),
  fun K => decide (PySem.W.isFn K (.ref (He.ma K (He.ga K "Fun") "__init__")) = true),
  fun K => decide (PySem.W.findIn K (.ref (He.ga K "Cell")) "__init__" = some (some (.ref (He.ma K (He.ga K "Cell") "__init__")))),
  fun K => decide (PySem.W.isFn K (.ref (He.ma K (He.ga K "Cell") "__init__")) = true),
  fun K => decide (PySem.W.findIn K (.ref (He.ga K "Point")) "__init__" = some (some (.ref (He.ma K (He.ga K "Point") "__init__")))),
  fun K => decide (PySem.W.isFn K (.ref (He.ma K (He.ga K "Point") "__init__")) = true),
  fun K => decide (PySem.W.findIn K (.ref (He.ga K "Part")) "__init__" = some (some (.ref (He.ma K (He.ga K "Part") "__init__")))),
  fun K => decide (PySem.W.isFn K (.ref (He.ma K (He.ga K "Part") "__init__")) = true),
  fun K => decide (PySem.W.nsIn K mainGlobals "run_turned" = some (some (.ref (He.ga K "run_turned")))),
  fun K => decide (PySem.W.nsIn K mainGlobals "Stuck" = some (some (.ref (He.ga K "Stuck")))),
  fun K => Hb.excB K (He.ga K "Stuck") (PySem.W.excTail [.type "RuntimeError", .type "Exception", .type "BaseException", .type "object"]) "RuntimeError.__new__",
  fun K => decide (PySem.W.findIn K (.ref (He.ga K "Stuck")) "__setattr__" = some (some (.builtin "object.__setattr__"))),
  fun K => decide (PySem.W.findIn K (.ref (He.ga K "Stuck")) "__getattribute__" = some (some (.builtin "BaseException.__getattribute__"))),
  fun K => decide (PySem.W.findIn K (.ref (He.ga K "Stuck")) "__getattr__" = some none),
  fun K => decide (PySem.W.findIn K (.ref (He.ga K "Stuck")) "word" = some none),
  fun K => decide (PySem.W.findIn K (.ref (He.ga K "Stuck")) "__init__" = some (some (.ref (He.ma K (He.ga K "Stuck") "__init__")))),
  fun K => decide (PySem.W.typeIn K (.ref (He.ma K (He.ga K "Stuck") "__init__")) = some (.type "function")),
  fun K => decide (PySem.W.keepIn K (.ref (He.ga K "Stuck")) = true),
  fun K => decide (PySem.W.subIn K (.ref (He.ga K "Stuck")) (.type "BaseException") = some true),
  fun K => decide (PySem.W.typeIn K (.ref (He.ga K "Stuck")) = some (.type "type")),
  fun K => decide (PySem.W.hasDictIn K (He.ga K "Stuck") = true),
  fun K => decide (PySem.W.isClsIn K (He.ga K "Stuck") = true),
  fun K => decide (PySem.W.subIn K (.ref (He.ga K "Stuck")) (.ref (He.ga K "Stuck")) = some true),
  fun K => decide (PySem.W.subIn K (.ref (He.ga K "Stuck")) (.type "RuntimeError") = some true),
  fun K => decide (PySem.W.findIn K (.ref (He.ga K "Stuck")) "__class__" = some (some (.builtin "object.__class__"))),
  fun K => decide (PySem.W.mroIn K (He.ga K "Stuck") (.type "object") = some true),
  fun K => Hb.cvB K (.type "RuntimeError") (.type "type") "__init__" "RuntimeError.__init__"]
def bs : List Hb.Bf := bs0 ++ bs1 ++ bs2 ++ bs3 ++ bs4 ++ bs5 ++ bs6 ++ bs7 ++ bs8 ++ bs9 ++ bs10 ++ bs11 ++ bs12
def fn0 : List He.DefD := [
  ⟨("_law_next", none), "_law_next", "_law_next", defArgs (topR 95), defBody (topR 95), defScope (topR 95), [], []⟩,
  ⟨("_law_draws", none), "_law_draws", "_law_draws", defArgs (topR 94), defBody (topR 94), defScope (topR 94), [], []⟩,
  ⟨("_law_pair", none), "_law_pair", "_law_pair", defArgs (topR 96), defBody (topR 96), defScope (topR 96), [], []⟩,
  ⟨("_law_end", none), "_law_end", "_law_end", defArgs (topR 97), defBody (topR 97), defScope (topR 97), [], []⟩,
  ⟨("_law_num", none), "_law_num", "_law_num", defArgs (topR 98), defBody (topR 98), defScope (topR 98), [], []⟩,
  ⟨("_law_good", none), "_law_good", "_law_good", defArgs (topR 99), defBody (topR 99), defScope (topR 99), [], []⟩,
  ⟨("_law_stuck", none), "_law_stuck", "_law_stuck", defArgs (topR 100), defBody (topR 100), defScope (topR 100), [], []⟩,
  ⟨("_law_asked", none), "_law_asked", "_law_asked", defArgs (topR 101), defBody (topR 101), defScope (topR 101), [], []⟩,
  ⟨("_law_is", none), "_law_is", "_law_is", defArgs (topR 102), defBody (topR 102), defScope (topR 102), [], []⟩,
  ⟨("_law_loop", none), "_law_loop", "_law_loop", defArgs (topR 103), defBody (topR 103), defScope (topR 103), [], []⟩,
  ⟨("law", none), "law", "law", defArgs (topR 104), defBody (topR 104), defScope (topR 104), [], []⟩,
  ⟨("is_whole", none), "is_whole", "is_whole", defArgs (topR 15), defBody (topR 15), defScope (topR 15), [], []⟩,
  ⟨("kind_of", none), "kind_of", "kind_of", defArgs (topR 16), defBody (topR 16), defScope (topR 16), [], []⟩,
  ⟨("shown_alone", none), "shown_alone", "shown_alone", defArgs (topR 20), defBody (topR 20), defScope (topR 20), [], []⟩,
  ⟨("shown", none), "shown", "shown", defArgs (topR 21), defBody (topR 21), defScope (topR 21), [], []⟩,
  ⟨("unchained", none), "unchained", "unchained", defArgs (topR 22), defBody (topR 22), defScope (topR 22), [], []⟩,
  ⟨("are_whole", none), "are_whole", "are_whole", defArgs (topR 23), defBody (topR 23), defScope (topR 23), [], []⟩,
  ⟨("bounded_number", none), "bounded_number", "bounded_number", defArgs (topR 24), defBody (topR 24), defScope (topR 24), [], []⟩,
  ⟨("bounded_text", none), "bounded_text", "bounded_text", defArgs (topR 25), defBody (topR 25), defScope (topR 25), [], []⟩,
  ⟨("plus_worth", none), "plus_worth", "plus_worth", defArgs (topR 26), defBody (topR 26), defScope (topR 26), [], []⟩,
  ⟨("minus_worth", none), "minus_worth", "minus_worth", defArgs (topR 27), defBody (topR 27), defScope (topR 27), [], []⟩,
  ⟨("times_worth", none), "times_worth", "times_worth", defArgs (topR 28), defBody (topR 28), defScope (topR 28), [], []⟩,
  ⟨("less_worth", none), "less_worth", "less_worth", defArgs (topR 29), defBody (topR 29), defScope (topR 29), [], []⟩,
  ⟨("joined_worth", none), "joined_worth", "joined_worth", defArgs (topR 31), defBody (topR 31), defScope (topR 31), [], []⟩,
  ⟨("first_worth", none), "first_worth", "first_worth", defArgs (topR 33), defBody (topR 33), defScope (topR 33), [], []⟩,
  ⟨("kind_worth", none), "kind_worth", "kind_worth", defArgs (topR 35), defBody (topR 35), defScope (topR 35), [], []⟩,
  ⟨("op_worth", none), "op_worth", "op_worth", defArgs (topR 38), defBody (topR 38), defScope (topR 38), [], []⟩,
  ⟨("parts_of", none), "parts_of", "parts_of", defArgs (topR 41), defBody (topR 41), defScope (topR 41), [], []⟩,
  ⟨("placed_parts", none), "placed_parts", "placed_parts", defArgs (topR 42), defBody (topR 42), defScope (topR 42), [], []⟩,
  ⟨("waits_for", none), "waits_for", "waits_for", defArgs (topR 47), defBody (topR 47), defScope (topR 47), [], []⟩]
def fn1 : List He.DefD := [
  ⟨("all_places", none), "all_places", "all_places", defArgs (topR 48), defBody (topR 48), defScope (topR 48), [], []⟩,
  ⟨("placed", none), "placed", "placed", defArgs (topR 49), defBody (topR 49), defScope (topR 49), [], []⟩,
  ⟨("work_out", none), "work_out", "work_out", defArgs (topR 54), defBody (topR 54), defScope (topR 54), [], []⟩,
  ⟨("take_step", none), "take_step", "take_step", defArgs (topR 55), defBody (topR 55), defScope (topR 55), [], []⟩,
  ⟨("act", none), "act", "act", defArgs (topR 56), defBody (topR 56), defScope (topR 56), [], []⟩,
  ⟨("go_back", none), "go_back", "go_back", defArgs (topR 57), defBody (topR 57), defScope (topR 57), [], []⟩,
  ⟨("advance", none), "advance", "advance", defArgs (topR 58), defBody (topR 58), defScope (topR 58), [], []⟩,
  ⟨("result_of", none), "result_of", "result_of", defArgs (topR 59), defBody (topR 59), defScope (topR 59), [], []⟩,
  ⟨("act_literal", none), "act_literal", "act_literal", defArgs (topR 60), defBody (topR 60), defScope (topR 60), [], []⟩,
  ⟨("act_yes", none), "act_yes", "act_yes", defArgs (topR 61), defBody (topR 61), defScope (topR 61), [], []⟩,
  ⟨("act_no", none), "act_no", "act_no", defArgs (topR 62), defBody (topR 62), defScope (topR 62), [], []⟩,
  ⟨("act_none", none), "act_none", "act_none", defArgs (topR 63), defBody (topR 63), defScope (topR 63), [], []⟩,
  ⟨("act_name", none), "act_name", "act_name", defArgs (topR 64), defBody (topR 64), defScope (topR 64), [], []⟩,
  ⟨("act_fun", none), "act_fun", "act_fun", defArgs (topR 65), defBody (topR 65), defScope (topR 65), [], []⟩,
  ⟨("names_of", none), "names_of", "names_of", defArgs (topR 66), defBody (topR 66), defScope (topR 66), [], []⟩,
  ⟨("called_env", none), "called_env", "called_env", defArgs (topR 67), defBody (topR 67), defScope (topR 67), [], []⟩,
  ⟨("act_call", none), "act_call", "act_call", defArgs (topR 68), defBody (topR 68), defScope (topR 68), [], []⟩,
  ⟨("act_let", none), "act_let", "act_let", defArgs (topR 69), defBody (topR 69), defScope (topR 69), [], []⟩,
  ⟨("act_if", none), "act_if", "act_if", defArgs (topR 70), defBody (topR 70), defScope (topR 70), [], []⟩,
  ⟨("act_op", none), "act_op", "act_op", defArgs (topR 72), defBody (topR 72), defScope (topR 72), [], []⟩,
  ⟨("act_cell", none), "act_cell", "act_cell", defArgs (topR 73), defBody (topR 73), defScope (topR 73), [], []⟩,
  ⟨("act_get", none), "act_get", "act_get", defArgs (topR 74), defBody (topR 74), defScope (topR 74), [], []⟩,
  ⟨("act_set", none), "act_set", "act_set", defArgs (topR 75), defBody (topR 75), defScope (topR 75), [], []⟩,
  ⟨("act_say", none), "act_say", "act_say", defArgs (topR 76), defBody (topR 76), defScope (topR 76), [], []⟩,
  ⟨("pair_told", none), "pair_told", "pair_told", defArgs (topR 84), defBody (topR 84), defScope (topR 84), [], []⟩,
  ⟨("tried_told", none), "tried_told", "tried_told", defArgs (topR 85), defBody (topR 85), defScope (topR 85), [], []⟩,
  ⟨("wound_told", none), "wound_told", "wound_told", defArgs (topR 86), defBody (topR 86), defScope (topR 86), [], []⟩,
  ⟨("point_told", none), "point_told", "point_told", defArgs (topR 87), defBody (topR 87), defScope (topR 87), [], []⟩,
  ⟨("part_told", none), "part_told", "part_told", defArgs (topR 88), defBody (topR 88), defScope (topR 88), [], []⟩,
  ⟨("inside_told", none), "inside_told", "inside_told", defArgs (topR 89), defBody (topR 89), defScope (topR 89), [], []⟩]
def fn2 : List He.DefD := [
  ⟨("is_end", none), "is_end", "is_end", defArgs (topR 91), defBody (topR 91), defScope (topR 91), [], []⟩,
  ⟨("Place", some "__init__"), "__init__", "Place.__init__", defArgs (inClass (topR 46) 0), defBody (inClass (topR 46) 0), defScope (inClass (topR 46) 0), [], []⟩,
  ⟨("Pair", some "__init__"), "__init__", "Pair.__init__", defArgs (inClass (topR 10) 0), defBody (inClass (topR 10) 0), defScope (inClass (topR 10) 0), [], []⟩,
  ⟨("Node", some "__init__"), "__init__", "Node.__init__", defArgs (inClass (topR 79) 0), defBody (inClass (topR 79) 0), defScope (inClass (topR 79) 0), [], []⟩,
  ⟨("HeapFrames", some "__init__"), "__init__", "HeapFrames.__init__", defArgs (inClass (topR 80) 0), defBody (inClass (topR 80) 0), defScope (inClass (topR 80) 0), [], []⟩,
  ⟨("LesserMachine", some "__init__"), "__init__", "Machine.__init__", defArgs (inClass (topR 53) 0), defBody (inClass (topR 53) 0), defScope (inClass (topR 53) 0), [], []⟩,
  ⟨("Result", some "__init__"), "__init__", "Result.__init__", defArgs (inClass (topR 51) 0), defBody (inClass (topR 51) 0), defScope (inClass (topR 51) 0), [], []⟩,
  ⟨("HeapFrames", some "push"), "push", "HeapFrames.push", defArgs (inClass (topR 80) 1), defBody (inClass (topR 80) 1), defScope (inClass (topR 80) 1), [], []⟩,
  ⟨("HeapFrames", some "pull"), "pull", "HeapFrames.pull", defArgs (inClass (topR 80) 2), defBody (inClass (topR 80) 2), defScope (inClass (topR 80) 2), [], []⟩,
  ⟨("HeapFrames", some "many"), "many", "HeapFrames.many", defArgs (inClass (topR 80) 3), defBody (inClass (topR 80) 3), defScope (inClass (topR 80) 3), [], []⟩,
  ⟨("LesserMachine", some "begin"), "begin", "Machine.begin", defArgs (inClass (topR 53) 1), defBody (inClass (topR 53) 1), defScope (inClass (topR 53) 1), [], []⟩,
  ⟨("LesserMachine", some "give"), "give", "Machine.give", defArgs (inClass (topR 53) 2), defBody (inClass (topR 53) 2), defScope (inClass (topR 53) 2), [], []⟩,
  ⟨("LesserMachine", some "end"), "end", "Machine.end", defArgs (inClass (topR 53) 3), defBody (inClass (topR 53) 3), defScope (inClass (topR 53) 3), [], []⟩,
  ⟨("LesserMachine", some "faulted"), "faulted", "Machine.faulted", defArgs (inClass (topR 53) 4), defBody (inClass (topR 53) 4), defScope (inClass (topR 53) 4), [], []⟩,
  ⟨("LesserMachine", some "act_more"), "act_more", "Machine.act_more", defArgs (inClass (topR 53) 6), defBody (inClass (topR 53) 6), defScope (inClass (topR 53) 6), [], []⟩,
  ⟨("LesserMachine", some "back_to"), "back_to", "Machine.back_to", defArgs (inClass (topR 53) 7), defBody (inClass (topR 53) 7), defScope (inClass (topR 53) 7), [], []⟩,
  ⟨("LesserMachine", some "op_told"), "op_told", "LesserMachine.op_told", defArgs (inClass (topR 83) 0), defBody (inClass (topR 83) 0), defScope (inClass (topR 83) 0), [], []⟩,
  ⟨("Stuck", some "__init__"), "__init__", "Stuck.__init__", defArgs (inClass (topR 3) 0), defBody (inClass (topR 3) 0), defScope (inClass (topR 3) 0), [], []⟩,
  ⟨("Fun", some "__init__"), "__init__", "Fun.__init__", defArgs (inClass (topR 11) 0), defBody (inClass (topR 11) 0), defScope (inClass (topR 11) 0), [.non, .non], []⟩,
  ⟨("Cell", some "__init__"), "__init__", "Cell.__init__", defArgs (inClass (topR 12) 0), defBody (inClass (topR 12) 0), defScope (inClass (topR 12) 0), [.non], []⟩,
  ⟨("Point", some "__init__"), "__init__", "Point.__init__", defArgs (inClass (topR 13) 0), defBody (inClass (topR 13) 0), defScope (inClass (topR 13) 0), [.non], []⟩,
  ⟨("Part", some "__init__"), "__init__", "Part.__init__", defArgs (inClass (topR 14) 0), defBody (inClass (topR 14) 0), defScope (inClass (topR 14) 0), [.non], []⟩,
  ⟨("run_turned", none), "run_turned", "run_turned", defArgs (topR 92), defBody (topR 92), defScope (topR 92), [], [("most", .int 200000)]⟩]
def fn : List He.DefD := fn0 ++ fn1 ++ fn2
def ts : List He.Tab := [(fun K => (He.ga K "FORMS"), ["num", "text", "yes", "no", "none", "name", "fun", "rec", "call", "let", "if", "do", "op", "cell", "get", "set", "say", "fault", "guard", "wind", "catch", "go", "mark", "take", "use"]), (fun K => (He.ga K "OPS"), ["plus", "minus", "times", "less", "same", "joined", "pair", "first", "rest", "kind", "written"]), (fun K => (He.ga K "ACTIONS_worths"), ["plus", "minus", "times", "less", "same", "joined", "pair", "first", "rest", "kind", "written"]), (fun K => (He.ga K "ACTIONS_machine"), ["num", "text", "yes", "no", "none", "name", "fun", "rec", "call", "let", "if", "do", "op", "cell", "get", "set", "say"]), (fun K => (He.ga K "LESSER_ACTIONS"), ["pair", "tried", "wound", "point", "part", "inside"])]
def ln0 : List PySem.Str := ["_wall", "NoChain", "Stuck", "MOST_SIGNS", "MOST_PAIRS", "TOO_GREAT", "OPS", "SAME_KINDS", "Pair", "Fun", "Cell", "Point", "Part", "is_whole", "kind_of", "are_same_alone", "are_same", "has_too_many_pairs", "shown_alone", "shown", "unchained", "are_whole", "bounded_number", "bounded_text", "plus_worth", "minus_worth", "times_worth", "less_worth", "same_worth", "joined_worth"]
def ln1 : List PySem.Str := ["pair_worth", "first_worth", "rest_worth", "kind_worth", "written_worth", "ACTIONS_worths", "op_worth", "FORMS", "parts_of", "placed_parts", "WAITS_FOR_FIRST", "WAITS_FOR_NONE", "Place", "waits_for", "all_places", "placed", "Result", "Machine", "work_out", "take_step", "act", "go_back", "advance", "result_of", "act_literal", "act_yes", "act_no", "act_none", "act_name", "act_fun"]
def ln2 : List PySem.Str := ["names_of", "called_env", "act_call", "act_let", "act_if", "act_do", "act_op", "act_cell", "act_get", "act_set", "act_say", "ACTIONS_machine", "Node", "HeapFrames", "TURNED_MOST", "LesserMachine", "pair_told", "tried_told", "wound_told", "point_told", "part_told", "inside_told", "LESSER_ACTIONS", "is_end", "run_turned", "_law_draws", "_law_next", "_law_pair", "_law_end", "_law_num"]
def ln3 : List PySem.Str := ["_law_good", "_law_stuck", "_law_asked", "_law_is", "_law_loop"]
def loose : List PySem.Str := ln0 ++ ln1 ++ ln2 ++ ln3
abbrev R : PySem.W.OpenRow := PySem.W.OpenLaw.row PySem.Challenge.rw_windpoints_k32_lesser_runs
abbrev hk : PySem.W.Hook := Hb.hookB 4 bs fn ts
def ob (s : PySem.W.SharedT) : Hb.AlB := Hb.obsBG 4 bs fn ts (HandSHeadRun.getT s)
theorem ob_eq (s : PySem.W.SharedT) : ob s = hk.obs s.abs := Hb.obsBG_eq (HandSHeadRun.getT_eq s)

theorem run0 (w : World) : HandSHeadRun.RunEq R (PySem.W.view R.prog [104]) hk ob 20000 loose (w.withFollow "special-get-raises" false) := fun os => by kernel_rfl
theorem run1 (w : World) : HandSHeadRun.RunEq R (PySem.W.view R.prog [104]) hk ob 20000 loose (w.withFollow "special-get-raises" true) := fun os => by kernel_rfl
theorem run (w : World) : HandSHeadRun.RunEq R (PySem.W.view R.prog [104]) hk ob 20000 loose w :=
  PySem.W.byRow2 "special-get-raises" (P := fun w => HandSHeadRun.RunEq R (PySem.W.view R.prog [104]) hk ob 20000 loose w) run0 run1 w
end Hx
set_option Elab.async false
set_option linter.all false
set_option maxRecDepth 100000
namespace Wp
open PySem L2

/-! ### heaps that stay but for the draws -/
def Gx (a : Addr) (H H' : Hp) : Prop := ∀ b o, b ≠ a → H b = some o → H' b = some o
theorem Gx.refl (a : Addr) (H : Hp) : Gx a H H := fun _ _ _ h => h
theorem Gx.trans {a : Addr} {H H1 H2 : Hp} (x : Gx a H H1) (y : Gx a H1 H2) : Gx a H H2 := fun b o n h => y b o n (x b o n h)
theorem Gx.new {a p : Addr} {H : Hp} {o : HO} (h : H p = none) : Gx a H (upd H p o) := fun b u _ e => by
  rw [upd_ne (ne_of_none e h)]
  exact e
theorem Gx.grow {a p : Addr} {H H' : Hp} {o : HO} (g : Gx a H H') (h : H p = none) : Gx a H (upd H' p o) := fun b u n e => by
  rw [upd_ne (ne_of_none e h)]
  exact g b u n e
/-- the draws at a, at most n of them taken -/
def Dr (H : Hp) (a : Addr) (n : Nat) : Prop := ∃ (x c : Int) (b : Bool), H a = some (.lst [.int x, .int c, .bl b]) ∧ 0 ≤ x ∧ 0 ≤ c ∧ c ≤ (n : Int)
theorem Dr.mono {H : Hp} {a : Addr} {n m : Nat} (d : Dr H a n) (h : n ≤ m) : Dr H a m := by
  obtain ⟨x, c, b, e, h0, h1, h2⟩ := d
  exact ⟨x, c, b, e, h0, h1, by omega⟩
theorem Dr.ne {H : Hp} {a p : Addr} {n : Nat} (d : Dr H a n) (h : H p = none) : p ≠ a := by
  obtain ⟨x, c, b, e, _⟩ := d
  exact fun z => by rw [z, e] at h; cases h
theorem Dr.upd {H : Hp} {a p : Addr} {n : Nat} {o : HO} (d : Dr H a n) (h : p ≠ a) : Dr (upd H p o) a n := by
  obtain ⟨x, c, b, e, q⟩ := d
  exact ⟨x, c, b, by rw [upd_ne (Ne.symm h)]; exact e, q⟩
def big : Nat := 1000000000000

/-! ### types: what is known of a value, whatever the draws do -/
structure Ty (a : Addr) where
  p : V → Hp → Prop
  st : ∀ v H H', Gx a H H' → p v H → p v H'
def tyI (a : Addr) (f : Int → Prop) : Ty a := ⟨fun v _ => ∃ i, v = .int i ∧ f i, fun _ _ _ _ h => h⟩
def tyB (a : Addr) : Ty a := ⟨fun v _ => ∃ b, v = .bl b, fun _ _ _ _ h => h⟩
def tyS (a : Addr) (f : Str → Prop) : Ty a := ⟨fun v _ => ∃ z, v = .str z ∧ f z, fun _ _ _ _ h => h⟩
def tyIs (a : Addr) (x : V) : Ty a := ⟨fun v _ => v = x, fun _ _ _ _ h => h⟩
/-- a list of so many things of a type -/
def tyL (a : Addr) (k : Nat) (R : Ty a) : Ty a := ⟨fun v H => ∃ p xs, v = .ref p ∧ p ≠ a ∧ H p = some (.lst xs) ∧ xs.length = k ∧ ∀ x ∈ xs, R.p x H,
  fun v H H' g h => by
    obtain ⟨p, xs, e, n, q, l, t⟩ := h
    exact ⟨p, xs, e, n, g p _ n q, l, fun x hx => R.st x H H' g (t x hx)⟩⟩
/-- a tuple of so many things of a type -/
def tyU (a : Addr) (f : Nat → Prop) (R : Ty a) : Ty a := ⟨fun v H => ∃ p xs, v = .ref p ∧ p ≠ a ∧ H p = some (.tup xs) ∧ f xs.length ∧ ∀ x ∈ xs, R.p x H,
  fun v H H' g h => by
    obtain ⟨p, xs, e, n, q, l, t⟩ := h
    exact ⟨p, xs, e, n, g p _ n q, l, fun x hx => R.st x H H' g (t x hx)⟩⟩
/-- things of types, one by one -/
inductive TAll (a : Addr) (H : Hp) : List (Ty a) → List V → Prop
  | nil : TAll a H [] []
  | cons {P : Ty a} {Ps : List (Ty a)} {v : V} {vs : List V} : P.p v H → TAll a H Ps vs → TAll a H (P :: Ps) (v :: vs)
theorem TAll.st {a : Addr} {H H' : Hp} {Ps : List (Ty a)} {vs : List V} (h : TAll a H Ps vs) (g : Gx a H H') : TAll a H' Ps vs := by
  induction h with
  | nil => exact .nil
  | cons p _ ih => exact .cons (Ty.st _ _ _ _ g p) ih
theorem TAll.len {a : Addr} {H : Hp} {Ps : List (Ty a)} {vs : List V} (h : TAll a H Ps vs) : vs.length = Ps.length := by
  induction h with
  | nil => rfl
  | cons _ _ ih => rw [List.length_cons, List.length_cons, ih]
theorem TAll.rep {a : Addr} {H : Hp} {R : Ty a} : ∀ {k : Nat} {vs : List V}, TAll a H (List.replicate k R) vs → ∀ x ∈ vs, R.p x H
  | 0, _, h, x, hx => by
    cases h
    cases hx
  | k + 1, _, h, x, hx => by
    cases h with
    | cons p r =>
      rcases List.mem_cons.mp hx with e | e
      · rw [e]; exact p
      · exact TAll.rep r x e
/-- the slots and their types -/
structure Cty (a : Addr) (G : List (Option (Ty a))) (σ : L2.St) (H : Hp) : Prop where
  len : σ.length = G.length
  at_ : ∀ (i : Nat) (P : Ty a), G[i]? = some (some P) → ∃ v, σ[i]? = some (some v) ∧ P.p v H
theorem Cty.st {a : Addr} {G : List (Option (Ty a))} {σ : L2.St} {H H' : Hp} (c : Cty a G σ H) (g : Gx a H H') : Cty a G σ H' := ⟨c.len, fun i P h => by
  obtain ⟨v, e, p⟩ := c.at_ i P h
  exact ⟨v, e, P.st v H H' g p⟩⟩
theorem Cty.set {a : Addr} {G : List (Option (Ty a))} {σ : L2.St} {H : Hp} {i : Nat} {P : Ty a} {v : V} (c : Cty a G σ H) (h : P.p v H) : Cty a (G.set i (some P)) (σ.set i (some v)) H := ⟨by rw [List.length_set, List.length_set, c.len], fun j R e => by
  by_cases hij : i = j
  · subst hij
    by_cases hl : i < G.length
    · rw [List.getElem?_set_self hl] at e
      cases e
      exact ⟨v, List.getElem?_set_self (by rw [c.len]; exact hl), h⟩
    · rw [List.getElem?_eq_none_iff.mpr (by rw [List.length_set]; omega)] at e
      cases e
  · rw [List.getElem?_set_ne hij] at e
    obtain ⟨u, q, p⟩ := c.at_ j R e
    exact ⟨u, by rw [List.getElem?_set_ne hij]; exact q, p⟩⟩
theorem Cty.wipe {a : Addr} {G : List (Option (Ty a))} {σ : L2.St} {H : Hp} (c : Cty a G σ H) : ∀ (vs : List Nat), (∀ j ∈ vs, ∀ P, G[j]? ≠ some (some P)) → Cty a G (wipe σ vs) H
  | [], _ => c
  | j :: vs, h => by
    have ih := c.wipe vs fun k hk => h k (List.mem_cons_of_mem _ hk)
    refine ⟨by rw [wipe_length]; exact c.len, fun i P e => ?_⟩
    obtain ⟨v, q, p⟩ := ih.at_ i P e
    have hij : j ≠ i := fun z => h j List.mem_cons_self P (by rw [z]; exact e)
    exact ⟨v, by unfold L2.wipe; rw [List.getElem?_set_ne hij]; exact q, p⟩
theorem ctx_start {a : Addr} {H : Hp} {N : List Str} {Ps : List (Ty a)} {vs : List V} (h : TAll a H Ps vs) (hl : Ps.length ≤ N.length) : Cty a (Ps.map some ++ List.replicate (N.length - Ps.length) none) (L2.start N vs) H := by
  have e := h.len
  refine ⟨?_, fun i P q => ?_⟩
  · unfold L2.start
    rw [List.length_append, List.length_append, List.length_map, List.length_map, List.length_replicate, List.length_replicate, e]
  · have hi : i < Ps.length := by
      by_cases hi : i < Ps.length
      · exact hi
      · rw [List.getElem?_append_right (by rw [List.length_map]; omega), List.getElem?_replicate] at q
        split at q <;> cases q
    rw [List.getElem?_append_left (by rw [List.length_map]; exact hi), List.getElem?_map] at q
    have key : ∀ {Ps : List (Ty a)} {vs : List V}, TAll a H Ps vs → ∀ (i : Nat) (P : Ty a), (Ps[i]?).map some = some (some P) → ∃ v, vs[i]? = some v ∧ P.p v H := by
      intro Ps vs h
      induction h with
      | nil => intro i P q; simp at q
      | cons p _ ih =>
        intro i P q
        cases i with
        | zero =>
          simp at q
          subst q
          exact ⟨_, rfl, p⟩
        | succ i => exact ih i P (by simpa using q)
    obtain ⟨v, ev, p⟩ := key h i P q
    refine ⟨v, ?_, p⟩
    unfold L2.start
    rw [List.getElem?_append_left (by rw [List.length_map, e]; exact hi), List.getElem?_map, ev] <;> rfl

/-! ### judgements -/
section
variable {a : Addr} {G : List (Option (Ty a))}
/-- te takes at most m draws and comes to a P -/
def GE (a : Addr) (m : Nat) (G : List (Option (Ty a))) (te : TE) (P : Ty a) : Prop :=
  ∀ (n : Nat) (σ : L2.St) (H : Hp), n + m ≤ big → Cty a G σ H → Dr H a n → ∀ Q : VK, (∀ v H', Gx a H H' → Dr H' a (n + m) → P.p v H' → Q v H') → te σ H Q
def GT (a : Addr) (m : Nat) (G : List (Option (Ty a))) (tt : TT) : Prop :=
  ∀ (n : Nat) (σ : L2.St) (H : Hp), n + m ≤ big → Cty a G σ H → Dr H a n → ∀ Q : Bool → Hp → Prop, (∀ b H', Gx a H H' → Dr H' a (n + m) → Q b H') → tt σ H Q
def GA (a : Addr) (m : Nat) (G : List (Option (Ty a))) (ta : TA) (Ps : List (Ty a)) : Prop :=
  ∀ (n : Nat) (σ : L2.St) (H : Hp), n + m ≤ big → Cty a G σ H → Dr H a n → ∀ Q : List V → Hp → Prop, (∀ vs H', Gx a H H' → Dr H' a (n + m) → TAll a H' Ps vs → Q vs H') → ta σ H Q
/-- a statement: it returns an R, or goes on with the slots of G' (none: it never does) -/
def CtyO (a : Addr) : Option (List (Option (Ty a))) → L2.St → Hp → Prop
  | none, _, _ => False
  | some G, σ, H => Cty a G σ H
def GS (a : Addr) (m : Nat) (G : List (Option (Ty a))) (ts : TS) (G' : Option (List (Option (Ty a)))) (R : Ty a) : Prop :=
  ∀ (n : Nat) (σ : L2.St) (H : Hp) (D : Ends), n + m ≤ big → Cty a G σ H → Dr H a n → (∀ v H', Gx a H H' → Dr H' a (n + m) → R.p v H' → D.rt v H') → (∀ σ' H', Gx a H H' → Dr H' a (n + m) → CtyO a G' σ' H' → D.nx σ' H') → ts D σ H

theorem g_var {i : Nat} {P : Ty a} (h : G[i]? = some (some P)) : GE a 0 G (tVar i) P := fun n σ H _ c d Q q => by
  obtain ⟨v, e, p⟩ := c.at_ i P h
  exact ⟨v, e, q v H (Gx.refl a H) d p⟩
theorem g_c (v : V) : GE a 0 G (tC v) (tyIs a v) := fun n σ H _ c d Q q => q v H (Gx.refl a H) d rfl
theorem GE.sub {m : Nat} {te : TE} {P R : Ty a} (h : GE a m G te P) (w : ∀ v H, P.p v H → R.p v H) : GE a m G te R := fun n σ H hb c d Q q => h n σ H hb c d Q fun v H' g d' p => q v H' g d' (w v H' p)
theorem GE.up {m m' : Nat} {te : TE} {P : Ty a} (h : GE a m G te P) (w : m ≤ m') : GE a m' G te P := fun n σ H hb c d Q q => h n σ H (by omega) c d Q fun v H' g d' p => q v H' g (d'.mono (by omega)) p
theorem g_op {m1 m2 : Nat} {r : R2} {ta tb : TE} {P Q R : Ty a} (ha : GE a m1 G ta P) (hb : GE a m2 G tb Q) (hr : ∀ x y H, P.p x H → Q.p y H → ∀ n, Dr H a n → ∀ K : VK, (∀ v H', Gx a H H' → Dr H' a n → R.p v H' → K v H') → r x y H K) : GE a (m1 + m2) G (tOp r ta tb) R :=
  fun n σ H hn c d K q => ha n σ H (by omega) c d _ fun x H1 g1 d1 p1 => hb (n + m1) σ H1 (by omega) (c.st g1) d1 _ fun y H2 g2 d2 p2 =>
    hr x y H2 (P.st x H1 H2 g2 p1) p2 _ d2 K fun v H3 g3 d3 p3 => q v H3 ((g1.trans g2).trans g3) (d3.mono (by omega)) p3
/-- ints -/
theorem g_I0 {m1 m2 : Nat} {ta tb : TE} {f : Int → Int → Int} {p q r : Int → Prop} (ha : GE a m1 G ta (tyI a p)) (hb : GE a m2 G tb (tyI a q)) (hr : ∀ i j, p i → q j → r (f i j)) : GE a (m1 + m2) G (tOp (rI0 fun i j => .int (f i j)) ta tb) (tyI a r) :=
  g_op ha hb fun x y H hx hy n d K k => by
    obtain ⟨i, rfl, pi⟩ := hx
    obtain ⟨j, rfl, pj⟩ := hy
    exact ⟨i, j, rfl, rfl, k _ H (Gx.refl a H) d ⟨_, rfl, hr i j pi pj⟩⟩
theorem g_I {m1 m2 : Nat} {ta tb : TE} {C : Int → Int → Prop} {f : Int → Int → Int} {p q r : Int → Prop} (ha : GE a m1 G ta (tyI a p)) (hb : GE a m2 G tb (tyI a q)) (hc : ∀ i j, p i → q j → C i j) (hr : ∀ i j, p i → q j → r (f i j)) : GE a (m1 + m2) G (tOp (rI C fun i j => .int (f i j)) ta tb) (tyI a r) :=
  g_op ha hb fun x y H hx hy n d K k => by
    obtain ⟨i, rfl, pi⟩ := hx
    obtain ⟨j, rfl, pj⟩ := hy
    exact ⟨i, j, rfl, rfl, hc i j pi pj, k _ H (Gx.refl a H) d ⟨_, rfl, hr i j pi pj⟩⟩
theorem g_int (i : Int) : GE a 0 G (tC (.int i)) (tyI a fun j => j = i) := fun n σ H _ c d Q q => q _ H (Gx.refl a H) d ⟨i, rfl, rfl⟩
theorem g_str (z : Str) : GE a 0 G (tC (.str z)) (tyS a fun y => y = z) := fun n σ H _ c d Q q => q _ H (Gx.refl a H) d ⟨z, rfl, rfl⟩
/-- e % k, k written -/
theorem g_mod {m1 : Nat} {ta : TE} {k : Int} {p : Int → Prop} (ha : GE a m1 G ta (tyI a p)) (hk : 0 < k) : GE a (m1 + 0) G (tOp (rI (fun _ j => 0 < j) fun i j => .int (i % j)) ta (tC (.int k))) (tyI a fun i => 0 ≤ i ∧ i < k) :=
  g_I ha (g_int k) (fun i j _ e => by rw [e]; exact hk) fun i j _ e => by rw [e]; exact ⟨Int.emod_nonneg _ (by omega), Int.emod_lt_of_pos _ hk⟩
theorem g_div {m1 : Nat} {ta : TE} {k : Int} {p r : Int → Prop} (ha : GE a m1 G ta (tyI a p)) (hk : 0 < k ∧ k < 1073741824) (hr : ∀ i, p i → r (i / k)) : GE a (m1 + 0) G (tOp (rI CDiv fun i j => .int (i / j)) ta (tC (.int k))) (tyI a r) :=
  g_I ha (g_int k) (fun i j _ e => by rw [e]; exact hk) fun i j pi e => by rw [e]; exact hr i pi
/-- tests -/
theorem g_cmpI {m1 m2 : Nat} {ta tb : TE} {f : Int → Int → Bool} {p q : Int → Prop} (ha : GE a m1 G ta (tyI a p)) (hb : GE a m2 G tb (tyI a q)) : GT a (m1 + m2) G (tTest (tOp (rI0 fun i j => .bl (f i j)) ta tb)) :=
  fun n σ H hn c d K k => ha n σ H (by omega) c d _ fun x H1 g1 d1 p1 => hb (n + m1) σ H1 (by omega) (c.st g1) d1 _ fun y H2 g2 d2 p2 => by
    obtain ⟨i, rfl, pi⟩ := p1
    obtain ⟨j, rfl, pj⟩ := p2
    exact ⟨i, j, rfl, rfl, _, rfl, k _ H2 (g1.trans g2) (d2.mono (by omega))⟩
theorem g_eqI {m1 m2 : Nat} {ta tb : TE} {p q : Int → Prop} (ha : GE a m1 G ta (tyI a p)) (hb : GE a m2 G tb (tyI a q)) : GE a (m1 + m2) G (tOp rEq ta tb) (tyB a) :=
  g_op ha hb fun x y H hx hy n d K k => by
    obtain ⟨i, rfl, _⟩ := hx
    obtain ⟨j, rfl, _⟩ := hy
    exact ⟨rfl, k _ H (Gx.refl a H) d ⟨_, rfl⟩⟩
theorem g_test {m : Nat} {te : TE} (h : GE a m G te (tyB a)) : GT a m G (tTest te) := fun n σ H hn c d K k => h n σ H hn c d _ fun v H' g d' p => by
  obtain ⟨b, rfl⟩ := p
  exact ⟨b, rfl, k b H' g d'⟩
theorem g_andT {m1 m2 : Nat} {t u : TT} (h1 : GT a m1 G t) (h2 : GT a m2 G u) : GT a (m1 + m2) G (tAnd t u) := fun n σ H hn c d K k => h1 n σ H (by omega) c d _ fun b H1 g1 d1 => by
  cases b with
  | true =>
    show u σ H1 K
    exact h2 (n + m1) σ H1 (by omega) (c.st g1) d1 K fun b H2 g2 d2 => k b H2 (g1.trans g2) (d2.mono (by omega))
  | false =>
    show K false H1
    exact k false H1 g1 (d1.mono (by omega))
theorem g_andV {m1 m2 : Nat} {ta tb : TE} (h1 : GE a m1 G ta (tyB a)) (h2 : GE a m2 G tb (tyB a)) : GE a (m1 + m2) G (tAndV ta tb) (tyB a) := fun n σ H hn c d K k => h1 n σ H (by omega) c d _ fun v H1 g1 d1 p => by
  obtain ⟨b, rfl⟩ := p
  refine ⟨b, rfl, ?_⟩
  cases b with
  | true =>
    show tb σ H1 K
    exact h2 (n + m1) σ H1 (by omega) (c.st g1) d1 K fun b H2 g2 d2 p2 => k b H2 (g1.trans g2) (d2.mono (by omega)) p2
  | false =>
    show K (.bl false) H1
    exact k _ H1 g1 (d1.mono (by omega)) ⟨_, rfl⟩
/-- arguments -/
theorem ga_nil : GA a 0 G tNil [] := fun n σ H _ c d Q q => q [] H (Gx.refl a H) d .nil
theorem ga_cons {m1 m2 : Nat} {te : TE} {ta : TA} {P : Ty a} {Ps : List (Ty a)} (h : GE a m1 G te P) (hr : GA a m2 G ta Ps) : GA a (m1 + m2) G (tCons te ta) (P :: Ps) := fun n σ H hn c d Q q =>
  h n σ H (by omega) c d _ fun v H1 g1 d1 p => hr (n + m1) σ H1 (by omega) (c.st g1) d1 _ fun vs H2 g2 d2 ps => q (v :: vs) H2 (g1.trans g2) (d2.mono (by omega)) (.cons (P.st v H1 H2 g2 p) ps)
/-- (e, ..): R is what a new tuple of these is -/
theorem g_tup {m : Nat} {ta : TA} {Ps : List (Ty a)} {R : Ty a} (h : GA a m G ta Ps) (hR : ∀ vs H p, p ≠ a → H p = some (.tup vs) → TAll a H Ps vs → R.p (.ref p) H) (hl : Ps.length ≤ 1000 := by simp) : GE a m G (tTup ta) R := fun n σ H hn c d Q q =>
  h n σ H hn c d _ fun vs H1 g1 d1 ps => ⟨by rw [ps.len]; exact Nat.le_of_lt (small1000 hl), fun p hp => q _ _ (g1.trans (Gx.new hp)) (d1.upd (d1.ne hp)) (hR vs _ p (d1.ne hp) upd_same (ps.st (Gx.new hp)))⟩
theorem g_lst {m : Nat} {ta : TA} {k : Nat} {R : Ty a} (h : GA a m G ta (List.replicate k R)) (hl : k ≤ 1000) : GE a m G (tLst ta) (tyL a k R) := fun n σ H hn c d Q q =>
  h n σ H hn c d _ fun vs H1 g1 d1 ps => ⟨by rw [ps.len, List.length_replicate]; exact Nat.le_of_lt (small1000 hl), fun p hp => q _ _ (g1.trans (Gx.new hp)) (d1.upd (d1.ne hp)) ⟨p, vs, rfl, d1.ne hp, upd_same, by rw [ps.len, List.length_replicate], fun x hx => R.st x H1 _ (Gx.new hp) (ps.rep x hx)⟩⟩
/-- xs + ys of lists -/
theorem g_cat {m1 m2 k l : Nat} {ta tb : TE} {R : Ty a} (ha : GE a m1 G ta (tyL a k R)) (hb : GE a m2 G tb (tyL a l R)) (hl : k + l ≤ 1000) : GE a (m1 + m2) G (tOp rCat ta tb) (tyL a (k + l) R) :=
  g_op ha hb fun x y H hx hy n d K q => by
    obtain ⟨p, xs, rfl, np, hp, lp, tp⟩ := hx
    obtain ⟨s, ys, rfl, ns, hs, ls, ts⟩ := hy
    refine ⟨p, s, xs, ys, rfl, rfl, hp, hs, by rw [lp, ls]; exact Nat.le_of_lt (small1000 hl), fun t ht => q _ _ (Gx.new ht) (d.upd (d.ne ht)) ⟨t, xs ++ ys, rfl, d.ne ht, upd_same, by rw [List.length_append, lp, ls], fun x hx => R.st x H _ (Gx.new ht) ?_⟩⟩
    rcases List.mem_append.mp hx with z | z
    · exact tp x z
    · exact ts x z
theorem at_in {xs : List V} {i : Int} (h0 : 0 ≤ i) (h1 : i < (xs.length : Int)) : ∃ v, atI xs i = some v ∧ v ∈ xs := by
  have hi : i.toNat < xs.length := by omega
  refine ⟨xs[i.toNat], at_of (j := i.toNat) (by omega) (List.getElem?_eq_getElem hi), List.getElem_mem hi⟩
/-- xs[i] -/
theorem g_ixL {K : PySem.W.Frag} {m1 m2 k : Nat} {ta tb : TE} {R : Ty a} {p : Int → Prop} (ha : GE a m1 G ta (tyL a k R)) (hb : GE a m2 G tb (tyI a p)) (hp : ∀ i, p i → 0 ≤ i ∧ i < (k : Int)) : GE a (m1 + m2) G (tOp (rIxL K) ta tb) R :=
  g_op ha hb fun x y H hx hy n d Kk q => by
    obtain ⟨s, xs, rfl, np, hs, ls, ts⟩ := hx
    obtain ⟨i, rfl, pi⟩ := hy
    have hi := hp i pi
    obtain ⟨v, ev, mv⟩ := at_in (xs := xs) (i := i) hi.1 (by rw [ls]; exact hi.2)
    exact ⟨s, xs, i, v, rfl, rfl, SqL.of hs, ev, q v H (Gx.refl a H) d (ts v mv)⟩
/-- 'abc'[i] -/
theorem g_ixS {m2 : Nat} {tb : TE} {z : Str} {p : Int → Prop} {f : Str → Prop} (hb : GE a m2 G tb (tyI a p)) (hz : z.length ≤ 1000) (hp : ∀ i, p i → 0 ≤ i ∧ i < (z.cps.toList.length : Int)) (hf : ∀ c ∈ z.cps.toList, f ⟨#[c]⟩) : GE a (0 + m2) G (tOp rIxS (tC (.str z)) tb) (tyS a f) :=
  g_op (g_str z) hb fun x y H hx hy n d Kk q => by
    obtain ⟨z', hx1, hx2⟩ := hx
    rw [hx2] at hx1
    subst hx1
    obtain ⟨i, rfl, pi⟩ := hy
    have hi := hp i pi
    have hj : i.toNat < (z.cps.toList).length := by omega
    refine ⟨z, i, z.cps.toList[i.toNat], rfl, rfl, Nat.le_of_lt (small1000 hz), ?_, q _ H (Gx.refl a H) d ⟨_, rfl, hf _ (List.getElem_mem hj)⟩⟩
    have e : i = ((i.toNat : Nat) : Int) := by omega
    have h2 := atI_nat (List.getElem?_eq_getElem hj)
    rw [← e] at h2
    exact h2
/-- s + t of texts -/
theorem g_addS {m1 m2 : Nat} {ta tb : TE} {p q r : Str → Prop} (ha : GE a m1 G ta (tyS a p)) (hb : GE a m2 G tb (tyS a q)) (hl : ∀ i j, p i → q j → i.length + j.length ≤ 1000) (hr : ∀ i j, p i → q j → r (i ++ j)) : GE a (m1 + m2) G (tOp (fun x y H Q => ∃ i j, x = .str i ∧ y = .str j ∧ i.length + j.length ≤ sizeLine ∧ Q (.str (i ++ j)) H) ta tb) (tyS a r) :=
  g_op ha hb fun x y H hx hy n d K k => by
    obtain ⟨i, rfl, pi⟩ := hx
    obtain ⟨j, rfl, pj⟩ := hy
    exact ⟨i, j, rfl, rfl, Nat.le_of_lt (small1000 (hl i j pi pj)), k _ H (Gx.refl a H) d ⟨_, rfl, hr i j pi pj⟩⟩
/-- str(i) -/
theorem g_strI {m1 : Nat} {ta : TE} {p : Int → Prop} {r : Str → Prop} (ha : GE a m1 G ta (tyI a p)) (hb : ∀ i, p i → i.natAbs.log2 < 1920) (hr : ∀ i : Int, p i → r (toString i)) : GE a (m1 + 0) G (tCB (fun xs H Q => ∃ i : Int, xs = [.int i] ∧ i.natAbs.log2 < 1920 ∧ Q (.str (toString i)) H) (tCons ta tNil)) (tyS a r) := fun n σ H hn c d K k =>
  ha n σ H (by omega) c d _ fun v H1 g1 d1 p1 => by
    obtain ⟨i, rfl, pi⟩ := p1
    exact ⟨i, rfl, hb i pi, k _ H1 g1 d1 ⟨_, rfl, hr i pi⟩⟩
/-- int(b) -/
theorem g_intB {m1 : Nat} {ta : TE} (ha : GE a m1 G ta (tyB a)) : GE a (m1 + 0) G (tCB (fun xs H Q => (∃ i, xs = [V.int i] ∧ Q (.int i) H) ∨ ∃ k, xs = [V.bl k] ∧ Q (.int (if k then 1 else 0)) H) (tCons ta tNil)) (tyI a fun i => 0 ≤ i ∧ i < 2) := fun n σ H hn c d K k =>
  ha n σ H (by omega) c d _ fun v H1 g1 d1 p1 => by
    obtain ⟨b, rfl⟩ := p1
    refine .inr ⟨b, rfl, k _ H1 g1 d1 ⟨_, rfl, ?_⟩⟩
    cases b <;> decide
/-- tuple(xs) of a list -/
theorem g_tupOf {K : PySem.W.Frag} {m1 k : Nat} {ta : TE} {f : Nat → Prop} {R : Ty a} (ha : GE a m1 G ta (tyL a k R)) (hf : f k) : GE a (m1 + 0) G (tCB (fun xs H Q => ∃ p ys, xs = [V.ref p] ∧ ((SqL K H p ys ∧ ∀ l, H l = none → Q (.ref l) (upd H l (.tup ys))) ∨ (SqT K H p ys ∧ Q (.ref p) H))) (tCons ta tNil)) (tyU a f R) := fun n σ H hn c d Q q =>
  ha n σ H (by omega) c d _ fun v H1 g1 d1 p1 => by
    obtain ⟨s, xs, rfl, np, hs, ls, ts⟩ := p1
    exact ⟨s, xs, rfl, .inl ⟨SqL.of hs, fun l hl => q _ _ (g1.trans (Gx.new hl)) (d1.upd (d1.ne hl)) ⟨l, xs, rfl, d1.ne hl, upd_same, by rw [ls]; exact hf, fun x hx => R.st x H1 _ (Gx.new hl) (ts x hx)⟩⟩⟩
/-- the promise of a def that draws -/
def spG (m : Nat) (Ps : (a : Addr) → List (Ty a)) (R : (a : Addr) → Ty a) : Sp := fun vs H Q _ => ∃ (a : Addr) (n : Nat), n + m ≤ big ∧ Dr H a n ∧ TAll a H (Ps a) vs ∧ ∀ v H', Gx a H H' → Dr H' a (n + m) → (R a).p v H' → Q v H'
theorem g_call {m m1 : Nat} {Ps : (a : Addr) → List (Ty a)} {R : (a : Addr) → Ty a} {E : XK} {ta : TA} (h : GA a m1 G ta (Ps a)) : GE a (m1 + m) G (tCall (spG m Ps R) [] E ta) (R a) := fun n σ H hn c d Q q =>
  h n σ H (by omega) c d _ fun vs H1 g1 d1 ps => ⟨a, n + m1, by omega, d1, by rw [List.append_nil]; exact ps, fun v H2 g2 d2 p2 => q v H2 (g1.trans g2) (d2.mono (by omega)) p2⟩
/-- tuples stay, whatever else changes -/
def Tp (H H' : Hp) : Prop := ∀ b xs, H b = some (.tup xs) → H' b = some (.tup xs)
theorem Gx.tp {a : Addr} {H H' : Hp} {n : Nat} (d : Dr H a n) (g : Gx a H H') : Tp H H' := fun b xs h => g b _ (fun z => by
  obtain ⟨x, c, k, e, _⟩ := d
  rw [z, e] at h
  cases h) h
theorem wipe_one (σ : L2.St) (j : Nat) (x : V) : wipe ((wipe σ [j]).set j (some x)) [j] = wipe σ [j] := by
  show ((σ.set j none).set j (some x)).set j none = σ.set j none
  rw [List.set_set, List.set_set]
/-- a list of things of a type, by how many they may be -/
def tyLp (a : Addr) (p : Int → Prop) (R : Ty a) : Ty a := ⟨fun v H => ∃ k : Nat, p (k : Int) ∧ (tyL a k R).p v H, fun v H H' g ⟨k, pk, q⟩ => ⟨k, pk, (tyL a k R).st v H H' g q⟩⟩
/-- [e for x in range(k)] -/
theorem g_lcR {m1 m2 : Nat} {ta : TA} {te : TE} {j : Nat} {p : Int → Prop} {R : Ty a} {K : Nat} (h : GA a m1 G ta [tyI a p]) (hk : ∀ i, p i → 0 ≤ i ∧ i ≤ (K : Int)) (hK : K ≤ 1000) (hv : ∀ P, G[j]? ≠ some (some P)) (hT : ∀ v H H', Tp H H' → R.p v H → R.p v H') (he : GE a m2 G te R) :
    GE a (m1 + K * m2) G (tLc (iRng1 ta) (gName j) tYes te [j]) (tyLp a p R) := fun n σ H hn c d Q q =>
  h n σ H (by omega) c d _ fun ws H1 g1 d1 ps => by
    cases ps with
    | cons p1 r =>
      cases r
      obtain ⟨i, rfl, pi⟩ := p1
      have hi := hk i pi
      refine ⟨i, rfl, by omega, by omega, fun D hD => ?_⟩
      have nD : D ≠ a := d1.ne hD
      refine lc_range (lo := 0) (n := i.toNat) (fun t H' => Gx a H1 H' ∧ Dr H' a (n + m1 + t * m2) ∧ ∃ xs, H' D = some (.lst xs) ∧ xs.length = t ∧ ∀ x ∈ xs, R.p x H') ?_ ?_ ?_
      · exact ⟨Gx.new hD, (d1.upd nD).mono (by omega), [], upd_same, rfl, fun x hx => by cases hx⟩
      · rintro t H' ht ⟨g', d', xs, hxs, lxs, txs⟩
        have hm : (t + 1) * m2 ≤ K * m2 := Nat.mul_le_mul_right m2 (by omega)
        have hm' : (t + 1) * m2 = t * m2 + m2 := Nat.succ_mul t m2
        have cw : Cty a G ((wipe σ [j]).set j (some (.int ((0 : Int) + (t : Int))))) H' := by
          have c1 := (c.st (g1.trans g')).wipe [j] (fun i hi P => by rw [List.mem_singleton.mp hi]; exact hv P)
          refine ⟨by rw [List.length_set]; exact c1.len, fun i P e => ?_⟩
          obtain ⟨v, e1, p1⟩ := c1.at_ i P e
          have hij : j ≠ i := fun z => hv P (by rw [z]; exact e)
          exact ⟨v, by rw [List.getElem?_set_ne hij]; exact e1, p1⟩
        refine ⟨wipe_one σ j _, ?_⟩
        refine he (n + m1 + t * m2) ((wipe σ [j]).set j (some (.int ((0 : Int) + (t : Int))))) H' (by omega) cw d' _ fun v H2 g2 d2 p2 => ?_
        have hx2 : H2 D = some (.lst xs) := g2 D _ nD hxs
        have kt : Tp H2 (upd H2 D (.lst (xs ++ [v]))) := fun b ys hb => by
          rw [upd_ne (ne_of hb hx2 (by intro z; cases z))]
          exact hb
        refine ⟨xs, hx2, by rw [lxs]; exact small1000 (by omega), ?_, ?_, xs ++ [v], upd_same, by rw [List.length_append, lxs] <;> rfl, ?_⟩
        · exact (g'.trans g2).grow hD
        · exact (d2.upd nD).mono (by omega)
        · intro x hx
          rcases List.mem_append.mp hx with z | z
          · exact hT x _ _ kt (R.st x H' H2 g2 (txs x z))
          · rw [List.mem_singleton.mp z]
            exact hT v _ _ kt p2
      · rintro H' ⟨g', d', xs, hxs, lxs, txs⟩
        have hm : i.toNat * m2 ≤ K * m2 := Nat.mul_le_mul_right m2 (by omega)
        exact q _ H' (g1.trans g') (d'.mono (by omega)) ⟨i.toNat, by rw [show ((i.toNat : Nat) : Int) = i by omega]; exact pi, D, xs, rfl, nD, hxs, lxs, txs⟩
theorem g_tupOfp {K : PySem.W.Frag} {m1 : Nat} {ta : TE} {p : Int → Prop} {R : Ty a} (ha : GE a m1 G ta (tyLp a p R)) : GE a (m1 + 0) G (tCB (fun xs H Q => ∃ p ys, xs = [V.ref p] ∧ ((SqL K H p ys ∧ ∀ l, H l = none → Q (.ref l) (upd H l (.tup ys))) ∨ (SqT K H p ys ∧ Q (.ref p) H))) (tCons ta tNil)) (tyU a (fun k => p (k : Int)) R) := fun n σ H hn c d Q q =>
  ha n σ H (by omega) c d _ fun v H1 g1 d1 p1 => by
    obtain ⟨k, pk, s, xs, rfl, np, hs, ls, ts⟩ := p1
    exact ⟨s, xs, rfl, .inl ⟨SqL.of hs, fun l hl => q _ _ (g1.trans (Gx.new hl)) (d1.upd (d1.ne hl)) ⟨l, xs, rfl, d1.ne hl, upd_same, by rw [ls]; exact pk, fun x hx => R.st x H1 _ (Gx.new hl) (ts x hx)⟩⟩⟩
/-! ### statements -/
theorem gs_par {m i j : Nat} {ta : TA} {P Q R : Ty a} (h : GA a m G ta [P, Q]) : GS a m G (tPar i j ta) (some ((G.set i (some P)).set j (some Q))) R := fun n σ H D hn c d _ k => h n σ H hn c d _ fun vs H' g d' ps => by
  cases ps with
  | cons p r =>
    cases r with
    | cons q r =>
      cases r
      exact ⟨_, _, rfl, k _ H' g d' (((c.st g).set p).set q)⟩
/-- by what a slot may be -/
theorem gs_split {m i : Nat} {t : TS} {P P1 P2 R : Ty a} {G' : Option (List (Option (Ty a)))} (h : G[i]? = some (some P)) (w : ∀ v H, P.p v H → P1.p v H ∨ P2.p v H) (h1 : GS a m (G.set i (some P1)) t G' R) (h2 : GS a m (G.set i (some P2)) t G' R) : GS a m G t G' R := fun n σ H D hn c d k1 k2 => by
  obtain ⟨v, e, p⟩ := c.at_ i P h
  have e2 : σ.set i (some v) = σ := by
    obtain ⟨hi, e1⟩ := List.getElem?_eq_some_iff.mp e
    rw [← e1]
    exact List.set_getElem_self hi
  rcases w v H p with p1 | p2
  · have c1 := c.set (i := i) p1
    rw [e2] at c1
    exact h1 n σ H D hn c1 d k1 k2
  · have c1 := c.set (i := i) p2
    rw [e2] at c1
    exact h2 n σ H D hn c1 d k1 k2
theorem gs_ret {m : Nat} {te : TE} {R : Ty a} (h : GE a m G te R) : GS a m G (tRet te) none R := fun n σ H D hn c d k _ => h n σ H hn c d _ fun v H' g d' p => k v H' g d' p
theorem gs_set {m i : Nat} {te : TE} {P R : Ty a} (h : GE a m G te P) : GS a m G (tAsg te (gName i)) (some (G.set i (some P))) R := fun n σ H D hn c d _ k => h n σ H hn c d _ fun v H' g d' p => k _ H' g d' ((c.st g).set p)
theorem gs_next {R : Ty a} : GS a 0 G tNext (some G) R := fun n σ H D hn c d _ k => k σ H (Gx.refl a H) d c
theorem gs_seq {m1 m2 : Nat} {t u : TS} {G1 : List (Option (Ty a))} {G2 : Option (List (Option (Ty a)))} {R : Ty a} (h1 : GS a m1 G t (some G1) R) (h2 : GS a m2 G1 u G2 R) : GS a (m1 + m2) G (tSeq t u) G2 R := fun n σ H D hn c d k1 k2 =>
  h1 n σ H _ (by omega) c d (fun v H' g d' p => k1 v H' g (d'.mono (by omega)) p) fun σ' H' g d' c' => h2 (n + m1) σ' H' D (by omega) c' d' (fun v H2 g2 d2 p => k1 v H2 (g.trans g2) (d2.mono (by omega)) p) fun σ2 H2 g2 d2 c2 => k2 σ2 H2 (g.trans g2) (d2.mono (by omega)) c2
/-- if t: suite that returns; then the rest -/
theorem gs_ifr {m1 m2 m3 : Nat} {t : TT} {u r : TS} {G2 : Option (List (Option (Ty a)))} {R : Ty a} (h1 : GT a m1 G t) (h2 : GS a m2 G u none R) (h3 : GS a m3 G r G2 R) : GS a (m1 + (max m2 m3)) G (tSeq (tIfS t u tNext) r) G2 R := fun n σ H D hn c d k1 k2 =>
  h1 n σ H (by omega) c d _ fun b H1 g1 d1 => by
    cases b with
    | true =>
      show u { D with nx := r D } σ H1
      exact h2 (n + m1) σ H1 _ (by omega) (c.st g1) d1 (fun v H2 g2 d2 p => k1 v H2 (g1.trans g2) (d2.mono (by omega)) p) fun σ2 H2 g2 d2 c2 => c2.elim
    | false =>
      show r D σ H1
      exact h3 (n + m1) σ H1 D (by omega) (c.st g1) d1 (fun v H2 g2 d2 p => k1 v H2 (g1.trans g2) (d2.mono (by omega)) p) fun σ2 H2 g2 d2 c2 => k2 σ2 H2 (g1.trans g2) (d2.mono (by omega)) c2
/-- if t: x = e, in both ways the slots are of G1 -/
theorem gs_ifs {m1 m2 : Nat} {t : TT} {u : TS} {R : Ty a} (h1 : GT a m1 G t) (h2 : GS a m2 G u (some G) R) : GS a (m1 + m2) G (tIfS t u tNext) (some G) R := fun n σ H D hn c d k1 k2 =>
  h1 n σ H (by omega) c d _ fun b H1 g1 d1 => by
    cases b with
    | true =>
      show u D σ H1
      exact h2 (n + m1) σ H1 _ (by omega) (c.st g1) d1 (fun v H2 g2 d2 p => k1 v H2 (g1.trans g2) (d2.mono (by omega)) p) fun σ2 H2 g2 d2 c2 => k2 σ2 H2 (g1.trans g2) (d2.mono (by omega)) c2
    | false =>
      show D.nx σ H1
      exact k2 σ H1 g1 (d1.mono (by omega)) (c.st g1)
theorem GS.up {m m' : Nat} {t : TS} {G' : Option (List (Option (Ty a)))} {R : Ty a} (h : GS a m G t G' R) (w : m ≤ m') : GS a m' G t G' R := fun n σ H D hn c d k1 k2 => h n σ H D (by omega) c d (fun v H' g d' p => k1 v H' g (d'.mono (by omega)) p) fun σ' H' g d' c' => k2 σ' H' g (d'.mono (by omega)) c'
end
/-- a def that draws: from its body -/
theorem fun_G {P : Program} {w : World} {K : PySem.W.Frag} {mg : Str → Option Value} {base : Heap} {x qual : Str} {st : Stmt} {f : Addr} {fd : FuncData} {N ps : List Str} {k m : Nat} {Ps : (a : Addr) → List (Ty a)} {R : (a : Addr) → Ty a}
    (F : Fun K x qual st f fd) (S : FnScope N ps (defScope st)) (hl : ∀ a, (Ps a).length = ps.length) (hN : ps.length ≤ N.length)
    (hb : ∀ (cdv : Value) (A : Around) (outer : List Env) (s : Shared) (H : Hp) (E : XK), Room k (A.deeper (PyProof.Rows.envOfC qual (defScope st) s.heap.objs.size f cdv)) →
      ∃ t, PSs (cxOf CX0 P w K mg base N qual (defScope st) f cdv A outer s H E).nox (defBody st) t ∧ ∀ a, GS a m ((Ps a).map some ++ List.replicate (N.length - (Ps a).length) none) t none (R a)) :
    FnOk P w K mg base CX0 (k + 1) f fd ps (spG m Ps R) := by
  refine F.ok S (fun vs H Q E h => ?_) (fun cdv A outer s H vs Q E hr h => ?_)
  · obtain ⟨a, n, _, _, ps', _⟩ := h
    rw [ps'.len, hl a]
  · obtain ⟨a, n, hn, d, ps', q⟩ := h
    obtain ⟨t, ht, g⟩ := hb cdv A outer s H E hr
    exact ⟨t, ht, g a n _ H _ hn (ctx_start ps' (by rw [hl a]; exact hN)) d q fun σ' H' _ _ c => c.elim⟩
end Wp
set_option Elab.async false
set_option linter.all false
set_option maxRecDepth 100000
namespace Wp
open PySem L2

/-! ### data made of tuples: what stands at a value, the draws' place left out -/
mutual
inductive Dq (a : Addr) (H : Hp) : V → PyData → Prop
  | non : Dq a H .non .none
  | bl (b : Bool) : Dq a H (.bl b) (.bool b)
  | int (i : Int) : Dq a H (.int i) (.int i)
  | str (z : Str) : Dq a H (.str z) (.str z)
  | tup {p : Addr} {xs : List V} {ds : List PyData} : p ≠ a → H p = some (.tup xs) → DqL a H xs ds → Dq a H (.ref p) (.tuple ds)
inductive DqL (a : Addr) (H : Hp) : List V → List PyData → Prop
  | nil : DqL a H [] []
  | cons {v : V} {vs : List V} {d : PyData} {ds : List PyData} : Dq a H v d → DqL a H vs ds → DqL a H (v :: vs) (d :: ds)
end
mutual
theorem Dq.st {a : Addr} {H H' : Hp} (k : ∀ p xs, p ≠ a → H p = some (.tup xs) → H' p = some (.tup xs)) : ∀ {v : V} {d : PyData}, Dq a H v d → Dq a H' v d
  | _, _, .non => .non
  | _, _, .bl b => .bl b
  | _, _, .int i => .int i
  | _, _, .str z => .str z
  | _, _, .tup n h t => .tup n (k _ _ n h) (DqL.st k t)
theorem DqL.st {a : Addr} {H H' : Hp} (k : ∀ p xs, p ≠ a → H p = some (.tup xs) → H' p = some (.tup xs)) : ∀ {vs : List V} {ds : List PyData}, DqL a H vs ds → DqL a H' vs ds
  | _, _, .nil => .nil
  | _, _, .cons h t => .cons (Dq.st k h) (DqL.st k t)
end
theorem Dq.gx {a : Addr} {H H' : Hp} {v : V} {d : PyData} (h : Dq a H v d) (g : Gx a H H') : Dq a H' v d := h.st fun p xs n e => g p _ n e
theorem Dq.tp {a : Addr} {H H' : Hp} {v : V} {d : PyData} (h : Dq a H v d) (g : Tp H H') : Dq a H' v d := h.st fun p xs _ e => g p xs e
mutual
theorem Dq.dp {K : PySem.W.Frag} {a : Addr} {H : Hp} : ∀ {v : V} {d : PyData}, Dq a H v d → Dp K H v d
  | _, _, .non => .non
  | _, _, .bl b => .bl b
  | _, _, .int i => .int i
  | _, _, .str z => .str z
  | _, _, .tup _ h t => .tup (.inl (.inl h)) (DqL.dp t)
theorem DqL.dp {K : PySem.W.Frag} {a : Addr} {H : Hp} : ∀ {vs : List V} {ds : List PyData}, DqL a H vs ds → DpAll K H vs ds
  | _, _, .nil => .nil
  | _, _, .cons h t => .cons (Dq.dp h) (DqL.dp t)
end
theorem dql_all {a : Addr} {H : Hp} {f : PyData → Prop} : ∀ {xs : List V}, (∀ x ∈ xs, ∃ d, Dq a H x d ∧ f d) → ∃ ds, DqL a H xs ds ∧ ds.length = xs.length ∧ ∀ d ∈ ds, f d
  | [], _ => ⟨[], .nil, rfl, fun _ h => by cases h⟩
  | x :: xs, h => by
    obtain ⟨d, q, t⟩ := h x List.mem_cons_self
    obtain ⟨ds, qs, l, ts⟩ := dql_all (xs := xs) fun y hy => h y (List.mem_cons_of_mem _ hy)
    refine ⟨d :: ds, .cons q qs, by rw [List.length_cons, List.length_cons, l], fun e he => ?_⟩
    rcases List.mem_cons.mp he with z | z
    · rw [z]; exact t
    · exact ts e z

/-! ### terms, by their depth -/
def newNames : List Str := ["x0", "x1", "x2"]
def termNames : List Str := ["input", "loose", "b9", "x0", "x1", "x2", "fx0", "fx1", "fx2"]
def kindNames : List Str := ["any", "point", "part", "cell", "fun"]
def termTags : List Str := ["m", "n"]
def termTexts : List Str := ["a", "b", "c", "i", "o"]
def opMany (w : Str) : Option Nat :=
  if w ∈ (["plus", "minus", "times", "less", "same", "joined", "pair"] : List Str) then some 2 else if w ∈ (["first", "rest", "kind", "written"] : List Str) then some 1 else none
inductive Tm : Nat → PyData → Prop
  | num {n : Nat} (i : Int) : Tm n (.tuple [.str "num", .int i])
  | text {n : Nat} {z : Str} : z ∈ termTexts → Tm n (.tuple [.str "text", .str z])
  | yes {n : Nat} : Tm n (.tuple [.str "yes"])
  | no {n : Nat} : Tm n (.tuple [.str "no"])
  | none {n : Nat} : Tm n (.tuple [.str "none"])
  | name {n : Nat} {z : Str} : z ∈ termNames → Tm n (.tuple [.str "name", .str z])
  | func {n : Nat} {xs : List Str} {e : PyData} : (∀ x ∈ xs, x ∈ termNames) → xs.Nodup → xs.length ≤ 6 → Tm n e → Tm (n + 1) (.tuple [.str "fun", .tuple (xs.map .str), e])
  | recu {n : Nat} {f : Str} {xs : List Str} {e : PyData} : f ∈ termNames → (∀ x ∈ xs, x ∈ termNames) → (f :: xs).Nodup → xs.length ≤ 6 → Tm n e → Tm (n + 1) (.tuple [.str "rec", .str f, .tuple (xs.map .str), e])
  | call {n : Nat} {f : PyData} {ds : List PyData} : Tm n f → (∀ d ∈ ds, Tm n d) → ds.length ≤ 6 → Tm (n + 1) (.tuple [.str "call", f, .tuple ds])
  | lett {n : Nat} {z : Str} {d e : PyData} : z ∈ termNames → Tm n d → Tm n e → Tm (n + 1) (.tuple [.str "let", .str z, d, e])
  | iff {n : Nat} {c d e : PyData} : Tm n c → Tm n d → Tm n e → Tm (n + 1) (.tuple [.str "if", c, d, e])
  | doo {n : Nat} {ds : List PyData} : (∀ d ∈ ds, Tm n d) → 1 ≤ ds.length → ds.length ≤ 12 → Tm (n + 1) (.tuple [.str "do", .tuple ds])
  | op {n k : Nat} {w : Str} {ds : List PyData} : opMany w = some k → (∀ d ∈ ds, Tm n d) → ds.length = k → Tm (n + 1) (.tuple [.str "op", .str w, .tuple ds])
  | cell {n : Nat} {d : PyData} : Tm n d → Tm (n + 1) (.tuple [.str "cell", d])
  | get {n : Nat} {d : PyData} : Tm n d → Tm (n + 1) (.tuple [.str "get", d])
  | sett {n : Nat} {d e : PyData} : Tm n d → Tm n e → Tm (n + 1) (.tuple [.str "set", d, e])
  | say {n : Nat} {d : PyData} : Tm n d → Tm (n + 1) (.tuple [.str "say", d])
  | fault {n : Nat} {d : PyData} : Tm n d → Tm (n + 1) (.tuple [.str "fault", d])
  | guard {n : Nat} {z : Str} {d e : PyData} : Tm n d → z ∈ termNames → Tm n e → Tm (n + 1) (.tuple [.str "guard", d, .str z, e])
  | wind {n : Nat} {c d e : PyData} : Tm n c → Tm n d → Tm n e → Tm (n + 1) (.tuple [.str "wind", c, d, e])
  | catc {n : Nat} {z : Str} {d : PyData} : z ∈ termNames → Tm n d → Tm (n + 1) (.tuple [.str "catch", .str z, d])
  | go {n : Nat} {d e : PyData} : Tm n d → Tm n e → Tm (n + 1) (.tuple [.str "go", d, e])
  | mark {n : Nat} {z : Str} {d : PyData} : z ∈ termTags → Tm n d → Tm (n + 1) (.tuple [.str "mark", .str z, d])
  | take {n : Nat} {z y : Str} {d : PyData} : z ∈ termTags → y ∈ termNames → Tm n d → Tm (n + 1) (.tuple [.str "take", .str z, .str y, d])
  | use {n : Nat} {d e : PyData} : Tm n d → Tm n e → Tm (n + 1) (.tuple [.str "use", d, e])
theorem Tm.up {n : Nat} {d : PyData} (h : Tm n d) : Tm (n + 1) d := by
  induction h with
  | num i => exact .num i
  | text h => exact .text h
  | yes => exact .yes
  | no => exact .no
  | none => exact .none
  | name h => exact .name h
  | func h1 h2 h3 _ i1 => exact .func h1 h2 h3 i1
  | recu h0 h1 h2 h3 _ i1 => exact .recu h0 h1 h2 h3 i1
  | call _ _ h3 i1 i2 => exact .call i1 i2 h3
  | lett h _ _ i1 i2 => exact .lett h i1 i2
  | iff _ _ _ i1 i2 i3 => exact .iff i1 i2 i3
  | doo _ h1 h2 i1 => exact .doo i1 h1 h2
  | op h0 _ h1 i1 => exact .op h0 i1 h1
  | cell _ i1 => exact .cell i1
  | get _ i1 => exact .get i1
  | sett _ _ i1 i2 => exact .sett i1 i2
  | say _ i1 => exact .say i1
  | fault _ i1 => exact .fault i1
  | guard _ h _ i1 i2 => exact .guard i1 h i2
  | wind _ _ _ i1 i2 i3 => exact .wind i1 i2 i3
  | catc h _ i1 => exact .catc h i1
  | go _ _ i1 i2 => exact .go i1 i2
  | mark h _ i1 => exact .mark h i1
  | take h h1 _ i1 => exact .take h h1 i1
  | use _ _ i1 i2 => exact .use i1 i2
theorem Tm.le {n m : Nat} {d : PyData} (h : Tm n d) (l : n ≤ m) : Tm m d := by
  induction l with
  | refl => exact h
  | step _ ih => exact ih.up

/-! ### types of the drawn terms -/
def tyT (a : Addr) (n : Nat) : Ty a := ⟨fun v H => ∃ d, Dq a H v d ∧ Tm n d, fun v H H' g h => by
  obtain ⟨d, q, t⟩ := h
  exact ⟨d, q.gx g, t⟩⟩
theorem tyT_tp {a : Addr} {n : Nat} : ∀ v H H', Tp H H' → (tyT a n).p v H → (tyT a n).p v H' := fun v H H' g h => by
  obtain ⟨d, q, t⟩ := h
  exact ⟨d, q.tp g, t⟩
theorem tyT_le {a : Addr} {n m : Nat} (l : n ≤ m) : ∀ v H, (tyT a n).p v H → (tyT a m).p v H := fun v H h => by
  obtain ⟨d, q, t⟩ := h
  exact ⟨d, q, t.le l⟩
/-- a row of names: a name, its kind -/
def RowAt (a : Addr) (H : Hp) (r : V) : Prop := ∃ (q : Addr) (x k : Str), r = .ref q ∧ q ≠ a ∧ H q = some (.tup [.str x, .str k]) ∧ x ∈ termNames ∧ k ∈ kindNames
theorem RowAt.st {a : Addr} {H H' : Hp} {r : V} (h : RowAt a H r) (k : ∀ p xs, p ≠ a → H p = some (.tup xs) → H' p = some (.tup xs)) : RowAt a H' r := by
  obtain ⟨q, x, z, e, n, t, l⟩ := h
  exact ⟨q, x, z, e, n, k _ _ n t, l⟩
def tyNs (a : Addr) (L : Nat) : Ty a := ⟨fun v H => ∃ p rs, v = .ref p ∧ p ≠ a ∧ H p = some (.lst rs) ∧ rs.length ≤ L ∧ ∀ r ∈ rs, RowAt a H r, fun v H H' g h => by
  obtain ⟨p, rs, e, n, q, l, t⟩ := h
  exact ⟨p, rs, e, n, g p _ n q, l, fun r hr => (t r hr).st fun p xs n e => g p _ n e⟩⟩
theorem ns_dp {K : PySem.W.Frag} {a : Addr} {H : Hp} : ∀ {rs : List V}, (∀ r ∈ rs, RowAt a H r) → ∃ ds, DpAll K H rs ds ∧ PyData.canLayAll0 ds = true ∧ PyData.depthAll ds ≤ 1 ∧ ds.length = rs.length
  | [], _ => ⟨[], .nil, by simp [PyData.canLayAll0], by simp [PyData.depthAll], rfl⟩
  | r :: rs, h => by
    obtain ⟨ds, q, c, d, l⟩ := ns_dp (K := K) (rs := rs) fun y hy => h y (List.mem_cons_of_mem _ hy)
    obtain ⟨p, x, k, rfl, np, hp, hx, hk⟩ := h r List.mem_cons_self
    have sx : ∀ x ∈ termNames, PyData.strOk x = true := by decide +kernel
    have sk : ∀ x ∈ kindNames, PyData.strOk x = true := by decide +kernel
    refine ⟨.tuple [.str x, .str k] :: ds, .cons (.tup (.inl (.inl hp)) (.cons (.str _) (.cons (.str _) .nil))) q, ?_, ?_, by rw [List.length_cons, List.length_cons, l]⟩
    · simp [PyData.canLayAll0, PyData.canLay0, sx x hx, sk k hk, c]
    · simp only [PyData.depthAll, PyData.depth]
      omega
theorem shaped_list {ds : List PyData} (c : PyData.canLayAll0 ds = true) (d : PyData.depthAll ds ≤ 60) : SeqAt.shaped (.list ds) = true := by
  unfold SeqAt.shaped
  rw [Bool.and_eq_true]
  refine ⟨by simp only [PyData.canLay0]; exact c, decide_eq_true ?_⟩
  simp only [PyData.depth]
  omega
theorem all0 {a : Addr} {H : Hp} {vs : List V} (h : TAll a H [] vs) : vs = [] := by cases h; rfl
theorem all1 {a : Addr} {H : Hp} {P : Ty a} {vs : List V} (h : TAll a H [P] vs) : ∃ x, vs = [x] ∧ P.p x H := by
  cases h with
  | cons p r => cases r; exact ⟨_, rfl, p⟩
theorem all2 {a : Addr} {H : Hp} {P Q : Ty a} {vs : List V} (h : TAll a H [P, Q] vs) : ∃ x y, vs = [x, y] ∧ P.p x H ∧ Q.p y H := by
  cases h with
  | cons p r =>
    obtain ⟨y, rfl, q⟩ := all1 r
    exact ⟨_, _, rfl, p, q⟩
theorem all3 {a : Addr} {H : Hp} {P Q R : Ty a} {vs : List V} (h : TAll a H [P, Q, R] vs) : ∃ x y z, vs = [x, y, z] ∧ P.p x H ∧ Q.p y H ∧ R.p z H := by
  cases h with
  | cons p r =>
    obtain ⟨y, z, rfl, q⟩ := all2 r
    exact ⟨_, _, _, rfl, p, q⟩
theorem all4 {a : Addr} {H : Hp} {P Q R S : Ty a} {vs : List V} (h : TAll a H [P, Q, R, S] vs) : ∃ x y z w, vs = [x, y, z, w] ∧ P.p x H ∧ Q.p y H ∧ R.p z H ∧ S.p w H := by
  cases h with
  | cons p r =>
    obtain ⟨y, z, w, rfl, q⟩ := all3 r
    exact ⟨_, _, _, _, rfl, p, q⟩
/-- what a written text, a name, a tag is -/
abbrev tyW (a : Addr) (z : Str) : Ty a := tyS a fun y => y = z
abbrev tyNm (a : Addr) : Ty a := tyS a fun y => y ∈ termNames
abbrev tyNew (a : Addr) : Ty a := tyS a fun y => y ∈ newNames
theorem new_term {z : Str} (h : z ∈ newNames) : z ∈ termNames := by
  unfold newNames at h
  unfold termNames
  simp only [List.mem_cons, List.not_mem_nil, or_false] at h ⊢
  rcases h with h | h | h <;> simp [h]
section
variable {a : Addr} {n : Nat} {vs : List V} {H : Hp} {p : Addr}
theorem mk_num {f : Int → Prop} (np : p ≠ a) (hp : H p = some (.tup vs)) (h : TAll a H [tyW a "num", tyI a f] vs) : (tyT a n).p (.ref p) H := by
  obtain ⟨_, _, rfl, ⟨_, rfl, rfl⟩, ⟨i, rfl, _⟩⟩ := all2 h
  exact ⟨_, .tup np hp (.cons (.str _) (.cons (.int _) .nil)), .num i⟩
theorem mk_text (np : p ≠ a) (hp : H p = some (.tup vs)) (h : TAll a H [tyW a "text", tyS a fun z => z ∈ termTexts] vs) : (tyT a n).p (.ref p) H := by
  obtain ⟨_, _, rfl, ⟨_, rfl, rfl⟩, ⟨z, rfl, hz⟩⟩ := all2 h
  exact ⟨_, .tup np hp (.cons (.str _) (.cons (.str _) .nil)), .text hz⟩
theorem mk_yes (np : p ≠ a) (hp : H p = some (.tup vs)) (h : TAll a H [tyW a "yes"] vs) : (tyT a n).p (.ref p) H := by
  obtain ⟨_, rfl, ⟨_, rfl, rfl⟩⟩ := all1 h
  exact ⟨_, .tup np hp (.cons (.str _) .nil), .yes⟩
theorem mk_no (np : p ≠ a) (hp : H p = some (.tup vs)) (h : TAll a H [tyW a "no"] vs) : (tyT a n).p (.ref p) H := by
  obtain ⟨_, rfl, ⟨_, rfl, rfl⟩⟩ := all1 h
  exact ⟨_, .tup np hp (.cons (.str _) .nil), .no⟩
theorem mk_none (np : p ≠ a) (hp : H p = some (.tup vs)) (h : TAll a H [tyW a "none"] vs) : (tyT a n).p (.ref p) H := by
  obtain ⟨_, rfl, ⟨_, rfl, rfl⟩⟩ := all1 h
  exact ⟨_, .tup np hp (.cons (.str _) .nil), .none⟩
theorem mk_name {f : Str → Prop} (hf : ∀ z, f z → z ∈ termNames) (np : p ≠ a) (hp : H p = some (.tup vs)) (h : TAll a H [tyW a "name", tyS a f] vs) : (tyT a n).p (.ref p) H := by
  obtain ⟨_, _, rfl, ⟨_, rfl, rfl⟩, ⟨z, rfl, hz⟩⟩ := all2 h
  exact ⟨_, .tup np hp (.cons (.str _) (.cons (.str _) .nil)), .name (hf z hz)⟩
/-- one part behind the word -/
theorem mk_1 {w : Str} (hw : ∀ d, Tm n d → Tm (n + 1) (.tuple [.str w, d])) (np : p ≠ a) (hp : H p = some (.tup vs)) (h : TAll a H [tyW a w, tyT a n] vs) : (tyT a (n + 1)).p (.ref p) H := by
  obtain ⟨_, _, rfl, ⟨_, rfl, rfl⟩, ⟨d, q, t⟩⟩ := all2 h
  exact ⟨_, .tup np hp (.cons (.str _) (.cons q .nil)), hw d t⟩
theorem mk_2 {w : Str} (hw : ∀ d e, Tm n d → Tm n e → Tm (n + 1) (.tuple [.str w, d, e])) (np : p ≠ a) (hp : H p = some (.tup vs)) (h : TAll a H [tyW a w, tyT a n, tyT a n] vs) : (tyT a (n + 1)).p (.ref p) H := by
  obtain ⟨_, _, _, rfl, ⟨_, rfl, rfl⟩, ⟨d, q, t⟩, ⟨e, q2, t2⟩⟩ := all3 h
  exact ⟨_, .tup np hp (.cons (.str _) (.cons q (.cons q2 .nil))), hw d e t t2⟩
theorem mk_3 {w : Str} (hw : ∀ c d e, Tm n c → Tm n d → Tm n e → Tm (n + 1) (.tuple [.str w, c, d, e])) (np : p ≠ a) (hp : H p = some (.tup vs)) (h : TAll a H [tyW a w, tyT a n, tyT a n, tyT a n] vs) : (tyT a (n + 1)).p (.ref p) H := by
  obtain ⟨_, _, _, _, rfl, ⟨_, rfl, rfl⟩, ⟨c, q0, t0⟩, ⟨d, q, t⟩, ⟨e, q2, t2⟩⟩ := all4 h
  exact ⟨_, .tup np hp (.cons (.str _) (.cons q0 (.cons q (.cons q2 .nil)))), hw c d e t0 t t2⟩
/-- a text, then a part -/
theorem mk_s1 {w : Str} {f : Str → Prop} (hw : ∀ z d, f z → Tm n d → Tm (n + 1) (.tuple [.str w, .str z, d])) (np : p ≠ a) (hp : H p = some (.tup vs)) (h : TAll a H [tyW a w, tyS a f, tyT a n] vs) : (tyT a (n + 1)).p (.ref p) H := by
  obtain ⟨_, _, _, rfl, ⟨_, rfl, rfl⟩, ⟨z, rfl, hz⟩, ⟨d, q, t⟩⟩ := all3 h
  exact ⟨_, .tup np hp (.cons (.str _) (.cons (.str _) (.cons q .nil))), hw z d hz t⟩
theorem mk_ss1 {w : Str} {f g : Str → Prop} (hw : ∀ z y d, f z → g y → Tm n d → Tm (n + 1) (.tuple [.str w, .str z, .str y, d])) (np : p ≠ a) (hp : H p = some (.tup vs)) (h : TAll a H [tyW a w, tyS a f, tyS a g, tyT a n] vs) : (tyT a (n + 1)).p (.ref p) H := by
  obtain ⟨_, _, _, _, rfl, ⟨_, rfl, rfl⟩, ⟨z, rfl, hz⟩, ⟨y, rfl, hy⟩, ⟨d, q, t⟩⟩ := all4 h
  exact ⟨_, .tup np hp (.cons (.str _) (.cons (.str _) (.cons (.str _) (.cons q .nil)))), hw z y d hz hy t⟩
theorem mk_s2 {w : Str} {f : Str → Prop} (hw : ∀ z d e, f z → Tm n d → Tm n e → Tm (n + 1) (.tuple [.str w, .str z, d, e])) (np : p ≠ a) (hp : H p = some (.tup vs)) (h : TAll a H [tyW a w, tyS a f, tyT a n, tyT a n] vs) : (tyT a (n + 1)).p (.ref p) H := by
  obtain ⟨_, _, _, _, rfl, ⟨_, rfl, rfl⟩, ⟨z, rfl, hz⟩, ⟨d, q, t⟩, ⟨e, q2, t2⟩⟩ := all4 h
  exact ⟨_, .tup np hp (.cons (.str _) (.cons (.str _) (.cons q (.cons q2 .nil)))), hw z d e hz t t2⟩
theorem mk_1s1 {w : Str} {f : Str → Prop} (hw : ∀ z d e, f z → Tm n d → Tm n e → Tm (n + 1) (.tuple [.str w, d, .str z, e])) (np : p ≠ a) (hp : H p = some (.tup vs)) (h : TAll a H [tyW a w, tyT a n, tyS a f, tyT a n] vs) : (tyT a (n + 1)).p (.ref p) H := by
  obtain ⟨_, _, _, _, rfl, ⟨_, rfl, rfl⟩, ⟨d, q, t⟩, ⟨z, rfl, hz⟩, ⟨e, q2, t2⟩⟩ := all4 h
  exact ⟨_, .tup np hp (.cons (.str _) (.cons q (.cons (.str _) (.cons q2 .nil)))), hw z d e hz t t2⟩
/-- a tuple of parts -/
theorem tup_of {f : Nat → Prop} {v : V} (h : (tyU a f (tyT a n)).p v H) : ∃ ds, Dq a H v (.tuple ds) ∧ f ds.length ∧ ∀ d ∈ ds, Tm n d := by
  obtain ⟨q, xs, rfl, nq, hq, l, t⟩ := h
  obtain ⟨ds, qs, ld, ts⟩ := dql_all (f := Tm n) t
  exact ⟨ds, .tup nq hq qs, by rw [ld]; exact l, ts⟩
theorem mk_call {f : Nat → Prop} (hf : ∀ k, f k → k ≤ 6) (np : p ≠ a) (hp : H p = some (.tup vs)) (h : TAll a H [tyW a "call", tyT a n, tyU a f (tyT a n)] vs) : (tyT a (n + 1)).p (.ref p) H := by
  obtain ⟨_, _, _, rfl, ⟨_, rfl, rfl⟩, ⟨d, q, t⟩, hu⟩ := all3 h
  obtain ⟨ds, qu, l, ts⟩ := tup_of hu
  exact ⟨_, .tup np hp (.cons (.str _) (.cons q (.cons qu .nil))), .call t ts (hf _ l)⟩
theorem mk_do {f : Nat → Prop} (hf : ∀ k, f k → 1 ≤ k ∧ k ≤ 12) (np : p ≠ a) (hp : H p = some (.tup vs)) (h : TAll a H [tyW a "do", tyU a f (tyT a n)] vs) : (tyT a (n + 1)).p (.ref p) H := by
  obtain ⟨_, _, rfl, ⟨_, rfl, rfl⟩, hu⟩ := all2 h
  obtain ⟨ds, qu, l, ts⟩ := tup_of hu
  exact ⟨_, .tup np hp (.cons (.str _) (.cons qu .nil)), .doo ts (hf _ l).1 (hf _ l).2⟩
theorem mk_op {g : Str → Prop} {f : Nat → Prop} {k : Nat} (hg : ∀ z, g z → opMany z = some k) (hf : ∀ j, f j → j = k) (np : p ≠ a) (hp : H p = some (.tup vs)) (h : TAll a H [tyW a "op", tyS a g, tyU a f (tyT a n)] vs) : (tyT a (n + 1)).p (.ref p) H := by
  obtain ⟨_, _, _, rfl, ⟨_, rfl, rfl⟩, ⟨z, rfl, hz⟩, hu⟩ := all3 h
  obtain ⟨ds, qu, l, ts⟩ := tup_of hu
  exact ⟨_, .tup np hp (.cons (.str _) (.cons (.str _) (.cons qu .nil))), .op (hg z hz) ts (hf _ l)⟩
/-- a tuple of one, two parts made on the way -/
theorem mk_u1 {R : Ty a} (np : p ≠ a) (hp : H p = some (.tup vs)) (h : TAll a H [R] vs) : (tyU a (fun k => k = 1) R).p (.ref p) H := by
  obtain ⟨x, rfl, q⟩ := all1 h
  exact ⟨p, _, rfl, np, hp, rfl, fun y hy => by rw [List.mem_singleton.mp hy]; exact q⟩
theorem mk_u2 {R : Ty a} (np : p ≠ a) (hp : H p = some (.tup vs)) (h : TAll a H [R, R] vs) : (tyU a (fun k => k = 2) R).p (.ref p) H := by
  obtain ⟨x, y, rfl, q, r⟩ := all2 h
  refine ⟨p, _, rfl, np, hp, rfl, fun z hz => ?_⟩
  rcases List.mem_cons.mp hz with e | e
  · rw [e]; exact q
  · rw [List.mem_singleton.mp e]; exact r
theorem mk_u0 {R : Ty a} (np : p ≠ a) (hp : H p = some (.tup vs)) (h : TAll a H [] vs) : (tyU a (fun k => k = 0) R).p (.ref p) H := by
  cases all0 h
  exact ⟨p, _, rfl, np, hp, rfl, fun y hy => by cases hy⟩
end

/-! ### a def of the module, by its promise -/
def Has (P : Program) (w : World) (K : PySem.W.Frag) (mg : Str → Option Value) (base : Heap) (x : Str) (ps : List Str) (k : Nat) (sp : Sp) : Prop :=
  ∃ (f : Addr) (fd : FuncData), FnOk P w K mg base CX0 k f fd ps sp ∧ mg x = some (.ref f) ∧ PySem.W.keepIn K (.ref f) = true ∧ Binds K fd ps []
theorem pe_has {X : Cx} {x : Str} {ps : List Str} {k : Nat} {sp : Sp} {e : Expr} {es : List Expr} {t : TA} {p pos : Pos} (h : Has X.prog X.w X.K X.mg X.base x ps k sp) (hr : Room k X.A) (ha : PA X (e :: es) t) (hg : Gl X x := by rfl)
    (hdb : (x == ("__debug__" : Str)) = false := by decide) (he : starEach (e :: es) X.env = (false, eval e X.env) :: starEach es X.env := by rfl) (hpl : (backTo pos (starEach es X.env)).any (·.1) = false := by rfl) :
    PE X (.Call (.Name x p) (e :: es) [] pos) (tCall sp [] E0 t) := by
  obtain ⟨f, fd, F, m, kp, b⟩ := h
  exact pe_call F hr hg m kp b .nil pass0 ha hdb he hpl
end Wp
set_option Elab.async false
set_option linter.all false
set_option maxRecDepth 100000
set_option maxHeartbeats 4000000
namespace Wp
open PySem PySem.Spec PyProof.Rows L2
theorem same_new {H : Hp} {p : Addr} {o : HO} (h : H p = none) : Same H (upd H p o) := fun b u q => by rw [upd_ne (ne_of_none q h)]; exact q
/-! ### how much a term is -/
mutual
def cw : PyData → Nat
  | .tuple ds => 1 + cwL ds
  | .none => 1
  | .bool _ => 1
  | .int _ => 1
  | .str _ => 1
  | .list _ => 1
  | .dict _ => 1
def cwL : List PyData → Nat
  | [] => 0
  | d :: ds => cw d + cwL ds
end
theorem cwL_le {s : Nat} : ∀ {ds : List PyData}, (∀ d ∈ ds, cw d ≤ s) → cwL ds ≤ ds.length * s
  | [], _ => Nat.zero_le _
  | d :: ds, h => by
    have h1 := h d List.mem_cons_self
    have h2 := cwL_le (ds := ds) fun e he => h e (List.mem_cons_of_mem _ he)
    rw [List.length_cons, Nat.succ_mul]
    show cw d + cwL ds ≤ _
    omega
theorem cwL_strs : ∀ (zs : List Str), cwL (zs.map .str) = zs.length
  | [] => rfl
  | z :: zs => by
    show 1 + cwL (zs.map .str) = zs.length + 1
    rw [cwL_strs zs]
    omega

theorem opMany_le {w : Str} {k : Nat} (h : opMany w = some k) : k ≤ 2 := by
  unfold opMany at h
  split at h
  · cases h; decide
  · split at h
    · cases h; decide
    · cases h
theorem DqL.get {a : Addr} {H : Hp} : ∀ {vs : List V} {ds : List PyData}, DqL a H vs ds → ∀ {i : Nat} {v : V}, vs[i]? = some v → ∃ d, ds[i]? = some d ∧ Dq a H v d
  | _, _, .nil, _, _, h => by simp at h
  | _, _, .cons q t, 0, _, h => by
    simp at h
    subst h
    exact ⟨_, rfl, q⟩
  | _, _, .cons q t, i + 1, v, h => by
    obtain ⟨d, e, q2⟩ := DqL.get t (i := i) (v := v) (by simpa using h)
    exact ⟨d, by simpa using e, q2⟩
theorem DqL.len {a : Addr} {H : Hp} : ∀ {vs : List V} {ds : List PyData}, DqL a H vs ds → vs.length = ds.length
  | _, _, .nil => rfl
  | _, _, .cons _ t => by rw [List.length_cons, List.length_cons, DqL.len t]
theorem same_grow {H H' : Hp} {p : Addr} {o : HO} (s : Same H H') (h : H p = none) : Same H (upd H' p o) := fun b u q => by rw [upd_ne (ne_of_none q h)]; exact s b u q
/-! ### two methods more: d.update(a dict), l.extend(a tuple) -/
def rUpd : V → List V → Hp → VK → Prop := fun x vs H Q => ∃ (a b : Addr) (kvs more : List (Key × V)), x = .ref a ∧ vs = [.ref b] ∧ a ≠ b ∧ H a = some (.dK kvs) ∧ H b = some (.dK more) ∧ kvs.length + more.length ≤ 1000 ∧ Q .non (upd H a (.dK (mergeK kvs more)))
theorem mt_upd {X : Cx} : MtR X "dict.update" rUpd := by
  intro pins s σ H x vs v us Q I rx rv h
  obtain ⟨a, b, kvs, more, rfl, rfl, hab, ea, eb, hl, q⟩ := h
  cases rx
  obtain ⟨u, rfl, ru⟩ := rv.one
  cases ru
  obtain ⟨z, hd, ws, rel, dd⟩ := dk_of I.hok ea
  obtain ⟨z2, hd2, ws2, rel2, dd2⟩ := dk_of I.hok eb
  have l1 := rel.length
  have l2 := rel2.length
  refine call_meetsIn PySem.F.slot_dict_update dd.typeIs PySem.F.entry_dict_update (PySem.F.args_dict_update_2 _ _) (meets_dict_update (mixKind X.prog X.w) a b hab hd2) ⟨ws, ws2, dd, dd2, ?_, fun h' da db hs => ?_⟩
  · rw [← l1, ← l2]
    exact Nat.le_of_lt (small1000 hl)
  · have he : ∃ o, h'.get? a = some o := let ⟨o, _, _, ho, _⟩ := da; ⟨o, ho⟩
    have hz : (mergeK kvs more).length ≤ sizeLine := Nat.le_trans (length_mergeK more kvs) (Nat.le_of_lt (small1000 (by omega)))
    exact ⟨.non, _, d_write (t' := s.toks) I (by rw [ea]; exact True.intro) hs he (dk_new hz hd (KV.merge rel2 rel) da), rfl, q⟩
theorem ext_tup (l : Addr) (its : Array Value) (n : Nat) (b : Addr) (more : Array Value) (m : Nat) (od : Option Addr) (sl : Array (Option Value)) (c0 : ¬(!its.isEmpty && Builtin.List.listTooLong (its.size + more.size)) = true) (c1 : its.size ≤ sizeLine) (c2 : its.size + more.size ≤ sizeLine + 1) :
    Meets (Builtin.«list.extend» ⟨[.ref l, .ref b], []⟩) (fun _ R s => s.heap.get? l = some { cls := .type "list", dict := none, data := .seq its n, slots := #[] } ∧ s.heap.get? b = some { cls := .type "tuple", dict := od, data := .seq more m, slots := sl } ∧ R (.ok (.ret Value.none)) { s with heap := s.heap.update l (Obj.mapSeq fun x => x ++ more), toks := s.toks }) :=
  .of_wp fun prog w A R s hh => by
    obtain ⟨hp, g, d, tk, os⟩ := s
    obtain ⟨hl, hb, h⟩ := hh
    have i1 := PySem.AutoSeq1.idx_int
    have i2 := PySem.AutoSeq1.sub_tuple_tuple
    have i3 := PySem.AutoSeq1.sub_list_list
    have i4 := PySem.AutoSeq1.sub_tuple_list
    have i5 := PySem.AutoSeq1.sub_list_tuple
    have hz : (its ++ more).size ≤ sizeLine + 1 := by rw [Array.size_append]; exact c2
    wp_walk using (wpAny_updateSeq hl rfl (hz := c1) (_hz' := hz)), wpAny_loadPart' hl, wpAny_loadPart' hb
    exact ⟨_, rfl, h⟩
def rExtT : V → List V → Hp → VK → Prop := fun x vs H Q => ∃ (l b : Addr) (xs zs : List V), x = .ref l ∧ vs = [.ref b] ∧ H l = some (.lst xs) ∧ H b = some (.tup zs) ∧ xs.length + zs.length ≤ 1000 ∧ Q .non (upd H l (.lst (xs ++ zs)))
theorem mt_extT {X : Cx} : MtM X "list.extend" rExtT := by
  intro pins s σ H x vs v us Q I rx rv h
  obtain ⟨l, b, xs, zs, rfl, rfl, hH, hB, hl, q⟩ := h
  cases rx
  obtain ⟨u, rfl, ru⟩ := rv.one
  cases ru
  obtain ⟨z, its, n, r, hl1, e⟩ := I.lstM hH
  obtain ⟨z2, its2, r2, ⟨oc, od, dt, sl⟩, e2, hc, n2, hd⟩ := (show ObjOk X.prog X.w H s.heap b (.tup zs) from I.hok b _ hB)
  dsimp only at hc hd
  subst hc hd
  have k1 : its.length = xs.length := r.length.symm
  have k2 : its2.length = zs.length := r2.length.symm
  have lim := small1000 hl
  have hsz : its.toArray.size + its2.toArray.size ≤ sizeLine := by rw [List.size_toArray, List.size_toArray, k1, k2]; exact Nat.le_of_lt lim
  have hlong : ¬ (!its.toArray.isEmpty && Builtin.List.listTooLong (its.toArray.size + its2.toArray.size)) = true := by
    rw [notLongL hsz, Bool.and_false]
    exact Bool.false_ne_true
  refine call_meets F.slot_list_extend ⟨_, e, rfl⟩ F.entry_list_extend (F.args_list_extend_2 _ _) (ext_tup l its.toArray n b its2.toArray n2 od sl hlong (by omega) (by omega)) ⟨e, e2, ?_⟩
  refine ⟨.non, _, I.lset (its' := its ++ its2) hH e (by simp) (r.append r2) ?_, rfl, q⟩
  rw [List.length_append]
  exact Nat.le_of_lt lim

/-! ### the parts of a term -/
def tupItems : PyData → List PyData
  | .tuple ds => ds
  | .none => []
  | .bool _ => []
  | .int _ => []
  | .str _ => []
  | .list _ => []
  | .dict _ => []
/-- by the kinds of things behind the word -/
def partsF : List Str → List PyData → List PyData
  | k :: ks, x :: xs => (if k = "part" then [x] else if k ∈ (["handed parts", "row parts", "op parts"] : List Str) then tupItems x else []) ++ partsF ks xs
  | _, _ => []
def forms : List (Str × List Str) := [("num", ["number"]), ("text", ["text"]), ("yes", []), ("no", []), ("none", []), ("name", ["name"]), ("fun", ["binders", "part"]), ("rec", ["binder", "binders", "part"]), ("call", ["part", "handed parts"]), ("let", ["binder", "part", "part"]), ("if", ["part", "part", "part"]), ("do", ["row parts"]), ("op", ["word", "op parts"]), ("cell", ["part"]), ("get", ["part"]), ("set", ["part", "part"]), ("say", ["part"]), ("fault", ["part"]), ("guard", ["part", "binder", "part"]), ("wind", ["part", "part", "part"]), ("catch", ["binder", "part"]), ("go", ["part", "part"]), ("mark", ["tag", "part"]), ("take", ["tag", "binder", "part"]), ("use", ["part", "part"])]
def formOf (w : Str) : List Str := (forms.lookup w).getD []
/-- the law's own places -/
def places : List (Str × List Int) := [("cell", [1]), ("get", [1]), ("say", [1]), ("fault", [1]), ("fun", [2]), ("rec", [3]), ("catch", [2]), ("mark", [2]), ("let", [2, 3]), ("set", [1, 2]), ("guard", [1, 3]), ("go", [1, 2]), ("use", [1, 2]), ("take", [3]), ("if", [1, 2, 3]), ("wind", [1, 2, 3])]
def partsD : PyData → List PyData
  | .tuple (.str w :: its) => partsF (formOf w) its
  | _ => []
/-- a thing that is to be laid out is a tuple -/
def Fits : List Str → List PyData → Prop
  | k :: ks, x :: xs => (k ∈ (["handed parts", "row parts", "op parts"] : List Str) → ∃ ds, x = .tuple ds ∧ ds.length ≤ 12) ∧ Fits ks xs
  | [], [] => True
  | _, _ => False
theorem fo_num : formOf "num" = (["number"] : List Str) := by decide +kernel
theorem fo_text : formOf "text" = (["text"] : List Str) := by decide +kernel
theorem fo_yes : formOf "yes" = ([] : List Str) := by decide +kernel
theorem fo_no : formOf "no" = ([] : List Str) := by decide +kernel
theorem fo_none : formOf "none" = ([] : List Str) := by decide +kernel
theorem fo_name : formOf "name" = (["name"] : List Str) := by decide +kernel
theorem fo_fun : formOf "fun" = (["binders", "part"] : List Str) := by decide +kernel
theorem fo_rec : formOf "rec" = (["binder", "binders", "part"] : List Str) := by decide +kernel
theorem fo_call : formOf "call" = (["part", "handed parts"] : List Str) := by decide +kernel
theorem fo_let : formOf "let" = (["binder", "part", "part"] : List Str) := by decide +kernel
theorem fo_if : formOf "if" = (["part", "part", "part"] : List Str) := by decide +kernel
theorem fo_do : formOf "do" = (["row parts"] : List Str) := by decide +kernel
theorem fo_op : formOf "op" = (["word", "op parts"] : List Str) := by decide +kernel
theorem fo_cell : formOf "cell" = (["part"] : List Str) := by decide +kernel
theorem fo_get : formOf "get" = (["part"] : List Str) := by decide +kernel
theorem fo_set : formOf "set" = (["part", "part"] : List Str) := by decide +kernel
theorem fo_say : formOf "say" = (["part"] : List Str) := by decide +kernel
theorem fo_fault : formOf "fault" = (["part"] : List Str) := by decide +kernel
theorem fo_guard : formOf "guard" = (["part", "binder", "part"] : List Str) := by decide +kernel
theorem fo_wind : formOf "wind" = (["part", "part", "part"] : List Str) := by decide +kernel
theorem fo_catch : formOf "catch" = (["binder", "part"] : List Str) := by decide +kernel
theorem fo_go : formOf "go" = (["part", "part"] : List Str) := by decide +kernel
theorem fo_mark : formOf "mark" = (["tag", "part"] : List Str) := by decide +kernel
theorem fo_take : formOf "take" = (["tag", "binder", "part"] : List Str) := by decide +kernel
theorem fo_use : formOf "use" = (["part", "part"] : List Str) := by decide +kernel
theorem km_part : (("part" : Str) ∈ (["handed parts", "row parts", "op parts"] : List Str)) = False := eq_false (by decide +kernel)
theorem kp_number : (("number" : Str) = "part") = False := eq_false (by decide +kernel)
theorem km_number : (("number" : Str) ∈ (["handed parts", "row parts", "op parts"] : List Str)) = False := eq_false (by decide +kernel)
theorem kp_text : (("text" : Str) = "part") = False := eq_false (by decide +kernel)
theorem km_text : (("text" : Str) ∈ (["handed parts", "row parts", "op parts"] : List Str)) = False := eq_false (by decide +kernel)
theorem kp_name : (("name" : Str) = "part") = False := eq_false (by decide +kernel)
theorem km_name : (("name" : Str) ∈ (["handed parts", "row parts", "op parts"] : List Str)) = False := eq_false (by decide +kernel)
theorem kp_binders : (("binders" : Str) = "part") = False := eq_false (by decide +kernel)
theorem km_binders : (("binders" : Str) ∈ (["handed parts", "row parts", "op parts"] : List Str)) = False := eq_false (by decide +kernel)
theorem kp_binder : (("binder" : Str) = "part") = False := eq_false (by decide +kernel)
theorem km_binder : (("binder" : Str) ∈ (["handed parts", "row parts", "op parts"] : List Str)) = False := eq_false (by decide +kernel)
theorem kp_handed_parts : (("handed parts" : Str) = "part") = False := eq_false (by decide +kernel)
theorem km_handed_parts : (("handed parts" : Str) ∈ (["handed parts", "row parts", "op parts"] : List Str)) = True := eq_true (by decide +kernel)
theorem kp_row_parts : (("row parts" : Str) = "part") = False := eq_false (by decide +kernel)
theorem km_row_parts : (("row parts" : Str) ∈ (["handed parts", "row parts", "op parts"] : List Str)) = True := eq_true (by decide +kernel)
theorem kp_word : (("word" : Str) = "part") = False := eq_false (by decide +kernel)
theorem km_word : (("word" : Str) ∈ (["handed parts", "row parts", "op parts"] : List Str)) = False := eq_false (by decide +kernel)
theorem kp_op_parts : (("op parts" : Str) = "part") = False := eq_false (by decide +kernel)
theorem km_op_parts : (("op parts" : Str) ∈ (["handed parts", "row parts", "op parts"] : List Str)) = True := eq_true (by decide +kernel)
theorem kp_tag : (("tag" : Str) = "part") = False := eq_false (by decide +kernel)
theorem km_tag : (("tag" : Str) ∈ (["handed parts", "row parts", "op parts"] : List Str)) = False := eq_false (by decide +kernel)
/-- a term by the table of forms alone, whatever its words of ops, its names, numbers and texts are -/
inductive Fm : Nat → PyData → Prop
  | mk {n : Nat} {w : Str} {its : List PyData} : (w, formOf w) ∈ forms → Fits (formOf w) its → (∀ p ∈ partsF (formOf w) its, Fm n p) → Fm (n + 1) (.tuple (.str w :: its))
theorem fm_parts {n : Nat} {d : PyData} (h : Fm n d) : ∃ (w : Str) (its : List PyData), d = .tuple (.str w :: its) ∧ (w, formOf w) ∈ forms ∧ Fits (formOf w) its ∧ ∀ p ∈ partsF (formOf w) its, ∃ m, n = m + 1 ∧ Fm m p := by
  cases h with
  | mk h1 h2 h3 => exact ⟨_, _, rfl, h1, h2, fun p hp => ⟨_, rfl, h3 p hp⟩⟩
end Wp
set_option Elab.async false
set_option linter.all false
set_option maxRecDepth 100000
namespace Wp
open PySem PySem.Spec PyProof.Rows L2
def top (i : Nat) : Stmt := PySem.Challenge.pw_windpoints_k32_lesser_runs.main.body.getD i (.Pass ⟨0, 0, 0, 0⟩)
-- parts_of: slots term 0, parts 1, what 2, thing 3
abbrev sparts_of : Stmt := top 41
theorem scparts_of : FnScope ["term", "parts", "what", "thing"] ["term"] (defScope sparts_of) := ⟨rfl, rfl, rfl, by decide +kernel, rfl, by decide +kernel, by decide +kernel⟩
abbrev slparts_of : List Str := ["term", "parts", "what", "thing"]
/-- the table of the program, as it stands behind the top -/
def FormsOk (K : PySem.W.Frag) (w : World) (fo : Addr) : Prop := ∀ p ∈ forms, ∃ t, KDct K w fo p.1 (.ref t) ∧ ∀ H, SqT K H t (p.2.map V.str)
def spPartsOf : Sp := fun vs H Q _ => ∃ (a : Addr) (v : V) (d : PyData) (n : Nat), vs = [v] ∧ Dq a H v d ∧ Fm n d ∧ ∀ p xs H', Same H H' → H p = none → H' p = some (.lst xs) → DqL a H xs (partsD d) → Q (.ref p) H'
theorem Fits.len : ∀ {ks : List Str} {xs : List PyData}, Fits ks xs → ks.length = xs.length
  | [], [], _ => rfl
  | k :: ks, x :: xs, h => by rw [List.length_cons, List.length_cons, Fits.len h.2]
  | [], x :: xs, h => h.elim
  | k :: ks, [], h => h.elim
theorem Fits.at_ : ∀ {ks : List Str} {xs : List PyData}, Fits ks xs → ∀ {i : Nat} {k : Str} {x : PyData}, ks[i]? = some k → xs[i]? = some x → k ∈ (["handed parts", "row parts", "op parts"] : List Str) → ∃ ds, x = .tuple ds ∧ ds.length ≤ 12
  | k :: ks, x :: xs, h, 0, _, _, e1, e2, hm => by
    simp at e1 e2
    subst e1 e2
    exact h.1 hm
  | k :: ks, x :: xs, h, i + 1, _, _, e1, e2, hm => Fits.at_ h.2 (i := i) (by simpa using e1) (by simpa using e2) hm
  | [], [], h, i, _, _, e1, _, _ => by simp at e1
  | [], x :: xs, h, _, _, _, _, _, _ => h.elim
  | k :: ks, [], h, _, _, _, _, _, _ => h.elim
/-- one thing more -/
theorem partsF_take : ∀ {ks : List Str} {xs : List PyData} {i : Nat} {k : Str} {x : PyData}, ks[i]? = some k → xs[i]? = some x → partsF (ks.take (i + 1)) (xs.take (i + 1)) = partsF (ks.take i) (xs.take i) ++ (if k = "part" then [x] else if k ∈ (["handed parts", "row parts", "op parts"] : List Str) then tupItems x else [])
  | k :: ks, x :: xs, 0, _, _, e1, e2 => by
    simp at e1 e2
    subst e1 e2
    simp only [List.take_succ_cons, List.take_zero, partsF, List.append_nil, List.nil_append]
  | k :: ks, x :: xs, i + 1, _, _, e1, e2 => by
    have ih := partsF_take (ks := ks) (xs := xs) (i := i) (by simpa using e1) (by simpa using e2)
    rw [List.take_succ_cons, List.take_succ_cons, partsF, ih, List.take_succ_cons, List.take_succ_cons, partsF, List.append_assoc]
  | [], _, _, _, _, e1, _ => by simp at e1
  | _ :: _, [], _, _, _, _, e2 => by simp at e2
theorem inV_strs {k : Str} : ∀ {ks : List Str}, inV (.str k) (ks.map V.str) = decide (k ∈ ks)
  | [] => by simp [inV]
  | z :: ks => by
    have ih := inV_strs (k := k) (ks := ks)
    unfold inV at ih ⊢
    rw [List.map_cons, List.any_cons, ih]
    by_cases h : z = k
    · subst h
      simp [eqV]
    · have h' : ¬ k = z := fun e => h e.symm
      simp [eqV, h, h']
theorem DqL.app {a : Addr} {H : Hp} : ∀ {xs ys : List V} {ds es : List PyData}, DqL a H xs ds → DqL a H ys es → DqL a H (xs ++ ys) (ds ++ es)
  | _, _, _, _, .nil, h => h
  | _, _, _, _, .cons q t, h => .cons q (DqL.app t h)
theorem Dq.same {a : Addr} {H H' : Hp} {v : V} {d : PyData} (h : Dq a H v d) (s : Same H H') : Dq a H' v d := h.st fun p xs _ e => s p _ e
theorem DqL.same {a : Addr} {H H' : Hp} {v : List V} {d : List PyData} (h : DqL a H v d) (s : Same H H') : DqL a H' v d := h.st fun p xs _ e => s p _ e
theorem cut1 (x : V) (xs : List V) : cutV (x :: xs) (some 1) none = xs := by
  unfold cutV
  have e : HT.sIx (x :: xs).length 0 (some 1) = 1 := by
    show min 1 (xs.length + 1) = 1
    omega
  rw [e]
  show ((x :: xs).drop 1).take ((x :: xs).length - 1) = xs
  simp
section
variable {P : Program} {w : World} {K : PySem.W.Frag} {mg : Str → Option Value} {base : Heap} {f fo : Addr} {fd : FuncData}
theorem ok_partsOf (F : Fun K "parts_of" "parts_of" sparts_of f fd) (m_zip : mg "zip" = none) (m_FORMS : mg "FORMS" = some (.ref fo)) (hF : FormsOk K w fo) : FnOk P w K mg base CX0 1 f fd ["term"] spPartsOf := by
  refine F.ok scparts_of (fun vs H Q E h => ?_) (fun cdv A outer s H vs Q E hr h => ?_)
  · obtain ⟨a, v, d, n, rfl, _⟩ := h
    rfl
  obtain ⟨a, v, d, n, rfl, hd, ht, q⟩ := h
  obtain ⟨z, its, rfl, hin, hfit, _⟩ := fm_parts ht
  cases hd with
  | @tup p xs _ np hp hx =>
    cases hx with
    | @cons x0 xr _ _ h0 hxr =>
      cases h0
      obtain ⟨t, hk, hsq⟩ := hF _ hin
      refine ⟨_, (pss_cons (ps_set (i := 1) scparts_of.nd rfl (.inl rfl) (pe_lst pa_nil))
  (pss_cons (ps_for PassesOwn.never rfl (RZ.pi_zipA rfl m_zip (pa_cons (pe_ix ix_kdict (pe_glob (v := .ref fo) rfl m_FORMS rfl) (pe_ix ix_tup (pv 0) pe_int (fun _ _ => rfl)) (fun _ _ => rfl)) (pa_cons (pe_slice sl_tupA (pv 0) (po_some pe_int) po_none) pa_nil))) (pg_tup rfl (pgs_cons (pg_name (i := 2) scparts_of.nd rfl (.inl rfl)) (pgs_cons (pg_name (i := 3) scparts_of.nd rfl (.inl rfl)) pgs_nil))) (pss_one (ps_if (pt_cmpR op_eq (pv 2) pe_str (nomark _)) (pss_one (ps_expr (pe_bm PySem.F.plainAttrs_list PySem.F.slot_list_append PySem.F.type_list_append mt_append (pv 1) (pa_cons (pv 3) pa_nil)))) (pss_one (ps_if (pt_cmpR op_in_seq (pv 2) (pe_tup (pa_cons pe_str (pa_cons pe_str (pa_cons pe_str pa_nil)))) rfl) (pss_one (ps_expr (pe_bm PySem.F.plainAttrs_list PySem.F.slot_list_extend PySem.F.type_list_extend mt_extT (pv 1) (pa_cons (pv 3) pa_nil)))) pss_nil)))))
  (pss_one (ps_ret (pv 1))))), ?_⟩
      refine ⟨(by show 0 ≤ sizeLine; decide), fun D hD => ?_⟩
      have s1 : Same H (upd H D (.lst [])) := same_new hD
      have hp1 := s1 _ _ hp
      refine ⟨_, rfl, p, _, _, _, rfl, rfl, SqT.of hp1, atI_nat (j := 0) rfl, fo, z, .ref t, rfl, rfl, hk, _, rfl, 1, rfl, p, _, rfl, SqT.of hp1, ?_, ?_⟩
      · intro c
        have e : HT.sIx (V.str z :: xr).length 0 (some 1) = 1 := by
          show min 1 (xr.length + 1) = 1
          omega
        rw [e] at c
        exact absurd c.1 (by decide)
      intro _ tp htp
      rw [cut1]
      have s2 : Same H (upd (upd H D (.lst [])) tp (.tup xr)) := s1.trans (same_new htp)
      have hl : its.length = (formOf z).length := hfit.len.symm
      have hl2 : xr.length = its.length := hxr.len
      have nDt : D ≠ tp := fun e => by rw [← e, upd_same] at htp; cases htp
      refine ⟨t, tp, (formOf z).map V.str, xr, rfl, .inr ⟨hsq _, SqT.of upd_same, RZ.for_zipT (K := K) (xs := (formOf z).map V.str) (ys := xr) (by rw [List.length_map]; omega)
        (fun i σ H' => Same H H' ∧ H' tp = some (.tup xr) ∧ (∃ t2 t3, σ = [some (.ref p), some (.ref D), t2, t3]) ∧ ∃ ys, H' D = some (.lst ys) ∧ ys.length ≤ 12 * i ∧ DqL a H ys (partsF ((formOf z).take i) (its.take i))) ?_ ?_ ?_ ?_⟩⟩
      · exact ⟨s2, upd_same, ⟨none, none, rfl⟩, [], by rw [upd_ne nDt]; exact upd_same, by decide, by rw [List.take_zero]; exact .nil⟩
      · rintro i σ H' ⟨s3, h3, _⟩
        exact ⟨hsq _, SqT.of h3⟩
      · rintro i x y T σ H' ex ey ⟨s3, h3, ⟨t2, t3, rfl⟩, ys, hys, lys, dys⟩ hT
        rw [List.getElem?_map] at ex
        obtain ⟨k, ek, rfl⟩ := Option.map_eq_some_iff.mp ex
        obtain ⟨e, ee, qe⟩ := hxr.get ey
        have li : i < (formOf z).length := (List.getElem?_eq_some_iff.mp ek).1
        have l3 : (formOf z).length ≤ 3 := by
          have k3 : ∀ p ∈ forms, p.2.length ≤ 3 := by decide +kernel
          exact k3 _ hin
        have pt := partsF_take ek ee
        have sT := s3.trans (same_new (o := .tup [.str k, y]) hT)
        have hT3 : upd H' T (.tup [.str k, y]) tp = some (.tup xr) := same_new hT _ _ h3
        have hTD : upd H' T (.tup [.str k, y]) D = some (.lst ys) := same_new hT _ _ hys
        refine ⟨T, _, rfl, SqT.of upd_same, rfl, _, _, rfl, _, _, rfl, rfl, ?_⟩
        refine ⟨_, rfl, rfl, _, rfl, ?_⟩
        refine ite2 (fun c => ?_) (fun c => ?_)
        · have ck : k = "part" := V.str.inj (of_decide_eq_true c)
          rw [if_pos ck] at pt
          refine ⟨_, rfl, .inl ⟨rfl, _, SqL.of hTD⟩, _, rfl, D, ys, y, rfl, rfl, hTD, small1000 (by omega), ?_⟩
          refine ⟨same_grow sT hD, by rw [upd_ne (Ne.symm nDt)]; exact hT3, ⟨_, _, rfl⟩, ys ++ [y], upd_same, by rw [List.length_append]; show ys.length + 1 ≤ _; omega, ?_⟩
          rw [pt]
          exact dys.app (.cons qe .nil)
        · have ck : ¬ k = "part" := fun e => c (decide_eq_true (by rw [e]))
          rw [if_neg ck] at pt
          refine ⟨_, rfl, (by show 3 ≤ sizeLine; decide), fun u hu => ⟨u, _, rfl, .inr (SqT.of upd_same), rfl, rfl, _, rfl, ?_⟩⟩
          have sU := sT.trans (same_new (o := .tup [.str "handed parts", .str "row parts", .str "op parts"]) hu)
          have hU3 := same_new (o := .tup [.str "handed parts", .str "row parts", .str "op parts"]) hu _ _ hT3
          have hUD := same_new (o := .tup [.str "handed parts", .str "row parts", .str "op parts"]) hu _ _ hTD
          have ei : inV (.str k) [.str "handed parts", .str "row parts", .str "op parts"] = decide (k ∈ (["handed parts", "row parts", "op parts"] : List Str)) := inV_strs (ks := ["handed parts", "row parts", "op parts"])
          refine ite2 (fun c2 => ?_) (fun c2 => ?_)
          · have c3 : inV (.str k) [.str "handed parts", .str "row parts", .str "op parts"] = true := c2
            rw [ei] at c3
            have cm := of_decide_eq_true c3
            rw [if_pos cm] at pt
            obtain ⟨es, rfl, les⟩ := hfit.at_ ek ee cm
            cases qe with
            | @tup r zs _ nr hr' hz =>
              have lz : zs.length = es.length := hz.len
              refine ⟨_, rfl, .inl ⟨rfl, _, SqL.of hUD⟩, _, rfl, D, r, ys, zs, rfl, rfl, hUD, sU _ _ hr', by omega, ?_⟩
              refine ⟨same_grow sU hD, by rw [upd_ne (Ne.symm nDt)]; exact hU3, ⟨_, _, rfl⟩, ys ++ zs, upd_same, by rw [List.length_append]; omega, ?_⟩
              rw [pt]
              exact dys.app hz
          · have c3 : ¬ inV (.str k) [.str "handed parts", .str "row parts", .str "op parts"] = true := c2
            rw [ei] at c3
            have cm : ¬ k ∈ (["handed parts", "row parts", "op parts"] : List Str) := fun e => c3 (decide_eq_true e)
            rw [if_neg cm, List.append_nil] at pt
            exact ⟨sU, hU3, ⟨_, _, rfl⟩, ys, hUD, by omega, by rw [pt]; exact dys⟩
      · rintro σ H' ⟨s3, h3, ⟨t2, t3, rfl⟩, ys, hys, lys, dys⟩
        rw [List.length_map, List.take_length, List.take_of_length_le (by omega)] at dys
        exact ⟨_, rfl, q D ys H' s3 hD hys dys⟩
end
end Wp
set_option Elab.async false
set_option linter.all false
set_option maxRecDepth 100000
namespace Wp
open PySem PySem.Spec PyProof.Rows L2
-- placed_parts: slots path 0, term 1, number 2, part 3
abbrev splaced_parts : Stmt := top 42
theorem scplaced_parts : FnScope ["path", "term", "number", "part"] ["path", "term"] (defScope splaced_parts) := ⟨rfl, rfl, rfl, by decide +kernel, rfl, by decide +kernel, by decide +kernel⟩
abbrev slplaced_parts : List Str := ["path", "term", "number", "part"]
theorem fm_part {n : Nat} {d p : PyData} (h : Fm n d) (hp : p ∈ partsD d) : ∃ m, n = m + 1 ∧ Fm m p := by
  obtain ⟨w, its, rfl, _, _, k⟩ := fm_parts h
  exact k p hp
theorem partsF_few : ∀ {ks : List Str} {xs : List PyData}, Fits ks xs → (partsF ks xs).length ≤ 12 * ks.length
  | [], [], _ => by simp [partsF]
  | k :: ks, x :: xs, h => by
    have ih := partsF_few h.2
    rw [partsF, List.length_append, List.length_cons]
    by_cases h1 : k = "part"
    · rw [if_pos h1]
      show 1 + _ ≤ _
      omega
    · rw [if_neg h1]
      by_cases h2 : k ∈ (["handed parts", "row parts", "op parts"] : List Str)
      · obtain ⟨ds, e, l⟩ := h.1 h2
        rw [if_pos h2, e]
        show ds.length + _ ≤ _
        omega
      · rw [if_neg h2]
        show 0 + _ ≤ _
        omega
  | [], _ :: _, h => h.elim
  | _ :: _, [], h => h.elim
theorem parts_few {n : Nat} {d : PyData} (h : Fm n d) : (partsD d).length ≤ 36 := by
  obtain ⟨w, its, rfl, hin, hfit, _⟩ := fm_parts h
  have l3 : (formOf w).length ≤ 3 := by
    have k3 : ∀ p ∈ forms, p.2.length ≤ 3 := by decide +kernel
    exact k3 _ hin
  have := partsF_few hfit
  show (partsF (formOf w) its).length ≤ 36
  omega
/-- what waits: a path, a term there, its depth -/
def kidsF (js : List Int) (m : Nat) : Nat → List PyData → List (List Int × PyData × Nat)
  | _, [] => []
  | i, p :: ps => (js ++ [((i : Nat) : Int)], p, m) :: kidsF js m (i + 1) ps
theorem kidsF_app (js : List Int) (m : Nat) : ∀ (i : Nat) (ps qs : List PyData), kidsF js m i (ps ++ qs) = kidsF js m i ps ++ kidsF js m (i + ps.length) qs
  | i, [], qs => by simp [kidsF]
  | i, p :: ps, qs => by
    rw [List.cons_append, kidsF, kidsF, kidsF_app js m (i + 1) ps qs, List.length_cons, show i + 1 + ps.length = i + (ps.length + 1) by omega]
    rfl
theorem kidsF_take (js : List Int) (m : Nat) {ps : List PyData} {i : Nat} {p : PyData} (h : ps[i]? = some p) : kidsF js m 0 (ps.take (i + 1)) = kidsF js m 0 (ps.take i) ++ [(js ++ [((i : Nat) : Int)], p, m)] := by
  have hi : i < ps.length := (List.getElem?_eq_some_iff.mp h).1
  rw [List.take_add_one, h, kidsF_app]
  show kidsF js m 0 (ps.take i) ++ [(js ++ [((0 + (ps.take i).length : Nat) : Int)], p, m)] = _
  rw [Nat.zero_add, List.length_take, Nat.min_eq_left (by omega)]
inductive StAt (a : Addr) (H : Hp) : List V → List (List Int × PyData × Nat) → Prop
  | nil : StAt a H [] []
  | cons {t u : Addr} {x : V} {js : List Int} {d : PyData} {n : Nat} {rs : List V} {es : List (List Int × PyData × Nat)} : H t = some (.tup [.ref u, x]) → H u = some (.tup (js.map V.int)) → Dq a H x d → Fm n d → StAt a H rs es → StAt a H (.ref t :: rs) ((js, d, n) :: es)
theorem StAt.tp {a : Addr} {H H' : Hp} {rs : List V} {es : List (List Int × PyData × Nat)} (h : StAt a H rs es) (s : Tp H H') : StAt a H' rs es := by
  induction h with
  | nil => exact .nil
  | cons e1 e2 q t _ ih => exact .cons (s _ _ e1) (s _ _ e2) (q.tp s) t ih
theorem StAt.len {a : Addr} {H : Hp} {rs : List V} {es : List (List Int × PyData × Nat)} (h : StAt a H rs es) : rs.length = es.length := by
  induction h with
  | nil => rfl
  | cons _ _ _ _ _ ih => rw [List.length_cons, List.length_cons, ih]
theorem StAt.app {a : Addr} {H : Hp} {rs rs2 : List V} {es es2 : List (List Int × PyData × Nat)} (h : StAt a H rs es) (h2 : StAt a H rs2 es2) : StAt a H (rs ++ rs2) (es ++ es2) := by
  induction h with
  | nil => exact h2
  | cons e1 e2 q t _ ih => exact .cons e1 e2 q t ih
theorem StAt.rev {a : Addr} {H : Hp} {rs : List V} {es : List (List Int × PyData × Nat)} (h : StAt a H rs es) : StAt a H rs.reverse es.reverse := by
  induction h with
  | nil => exact .nil
  | cons e1 e2 q t _ ih =>
    rw [List.reverse_cons, List.reverse_cons]
    exact ih.app (.cons e1 e2 q t .nil)
theorem same_tp {H H' : Hp} (s : Same H H') : Tp H H' := fun b xs e => s _ _ e
def spPlaced : Sp := fun vs H Q _ => ∃ (a pt : Addr) (js : List Int) (v : V) (d : PyData) (n : Nat), vs = [.ref pt, v] ∧ H pt = some (.tup (js.map V.int)) ∧ js.length ≤ 200 ∧ Dq a H v d ∧ Fm n d ∧ ∀ p rs H', Same H H' → H p = none → H' p = some (.lst rs) → StAt a H' rs (kidsF js (n - 1) 0 (partsD d)) → Q (.ref p) H'
section
variable {P : Program} {w : World} {K : PySem.W.Frag} {mg : Str → Option Value} {base : Heap} {f : Addr} {fd : FuncData}
theorem ok_placed (F : Fun K "placed_parts" "placed_parts" splaced_parts f fd) (Gparts_of : Has P w K mg base "parts_of" ["term"] 1 spPartsOf) (m_enumerate : mg "enumerate" = none) : FnOk P w K mg base CX0 2 f fd ["path", "term"] spPlaced := by
  refine F.ok scplaced_parts (fun vs H Q E h => ?_) (fun cdv A outer s H vs Q E hr h => ?_)
  · obtain ⟨a, pt, js, v, d, n, rfl, _⟩ := h
    rfl
  obtain ⟨a, pt, js, v, d, n, rfl, hpt, ljs, hd, ht, q⟩ := h
  have few := parts_few ht
  refine ⟨_, (pss_one (ps_ret (pe_lc (own := [("number", 2), ("part", 3)]) (g := gTup K 2 (gCons (gName 2) (gCons (gName 3) gNil))) (tt := tYes) (te := (tTup (tCons (tOp (rCatA K) (tVar 0) (tTup (tCons (tVar 2) tNil))) (tCons (tVar 3) tNil)))) rfl scplaced_parts.nd (pi_enum rfl m_enumerate (pa_cons (pe_has Gparts_of (hr.mono (by omega)) (pa_cons (pv 1) pa_nil)) pa_nil)) (blkOk_by (N := slplaced_parts) (sc := defScope splaced_parts) (by decide +kernel)) (fun _ _ _ _ _ => (pg_tup rfl (pgs_cons (pg_name (i := 2) scplaced_parts.nd rfl (.inl rfl)) (pgs_cons (pg_name (i := 3) scplaced_parts.nd rfl (.inl rfl)) pgs_nil)))) (fun _ _ _ _ _ => pts_nil) (fun _ _ _ _ _ => (pe_tup (pa_cons (pe_op op_catA (pv 0) (pe_tup (pa_cons (pv 2) pa_nil))) (pa_cons (pv 3) pa_nil))))))), ?_⟩
  refine ⟨_, rfl, a, v, d, n, rfl, hd, ht, fun lp xs H2 s2 n2 e2 dx => ⟨lp, xs, rfl, SqL.of e2, fun D hD => ?_⟩⟩
  have lx : xs.length = (partsD d).length := dx.len
  have hD0 : H D = none := s2.free hD
  refine lc_it (walk_enum (K := K) (a := lp) (xs := xs)) (fun i H' => Same H2 H' ∧ ∃ acc, H' D = some (.lst acc) ∧ StAt a H' acc (kidsF js (n - 1) 0 ((partsD d).take i))) ?_ ?_ ?_ ?_
  · exact ⟨same_new hD, [], upd_same, by rw [List.take_zero]; exact .nil⟩
  · rintro i H' hi ⟨g, _⟩
    exact SqL.of (g _ _ e2)
  · rintro i x H3 H4 hi ⟨g3, acc, ha, sa⟩ ⟨T, x1, y, rfl, hT, rfl, ex1, ey⟩
    cases ex1
    obtain ⟨p, ep, qp⟩ := dx.get ey
    have mp : p ∈ partsD d := List.mem_of_getElem? ep
    obtain ⟨m, em, tm⟩ := fm_part ht mp
    have lacc : acc.length ≤ 36 := by
      have h1 := sa.len
      have h2 : ∀ (i : Nat) (ps : List PyData), (kidsF js (n - 1) i ps).length = ps.length := by
        intro i ps
        induction ps generalizing i with
        | nil => rfl
        | cons p ps ih => rw [kidsF, List.length_cons, List.length_cons, ih]
      rw [h2, List.length_take] at h1
      omega
    have sT := same_new (o := .tup [.int (i : Nat), y]) hT
    refine ⟨T, _, rfl, SqT.of upd_same, rfl, _, _, rfl, _, _, rfl, rfl, rfl, ?_⟩
    unfold tYes
    dsimp only
    rw [if_pos rfl]
    refine ⟨_, rfl, _, rfl, (by show 1 ≤ sizeLine; decide), fun u hu => ?_⟩
    have done : ∀ (r : Addr) (Hn : Hp), Same (upd H3 T (.tup [.int (i : Nat), y])) Hn → Hn r = some (.tup ((js ++ [((i : Nat) : Int)]).map V.int)) → ∃ v_1, (((wipe (L2.start slplaced_parts [.ref pt, v]) [2, 3]).set 2 (some (.int (i : Nat)))).set 3 (some y))[3]? = some (some v_1) ∧ ([V.ref r, v_1].length ≤ sizeLine ∧ ∀ p, Hn p = none → ∃ acc, upd Hn p (.tup [.ref r, v_1]) D = some (.lst acc) ∧ acc.length < sizeLine ∧ (Same H2 (upd (upd Hn p (.tup [.ref r, v_1])) D (.lst (acc ++ [.ref p]))) ∧ ∃ acc', upd (upd Hn p (.tup [.ref r, v_1])) D (.lst (acc ++ [.ref p])) D = some (.lst acc') ∧ StAt a (upd (upd Hn p (.tup [.ref r, v_1])) D (.lst (acc ++ [.ref p]))) acc' (kidsF js (n - 1) 0 ((partsD d).take (i + 1))))) := by
      intro r Hn sn er
      refine ⟨y, rfl, (by show 2 ≤ sizeLine; decide), fun b hb => ?_⟩
      have sb := (sT.trans sn).trans (same_new (o := .tup [.ref r, y]) hb)
      have hDb := sb _ _ ha
      refine ⟨acc, hDb, small1000 (by omega), same_grow (g3.trans sb) hD, _, upd_same, ?_⟩
      have st : Tp (upd Hn b (.tup [.ref r, y])) (upd (upd Hn b (.tup [.ref r, y])) D (.lst (acc ++ [.ref b]))) := fun t xs e => by
        rw [upd_ne (ne_of e hDb (by intro z; cases z))]
        exact e
      rw [kidsF_take js (n - 1) ep]
      refine ((sa.tp (same_tp sb)).tp st).app (.cons (st _ _ upd_same) (st _ _ (same_new hb _ _ er)) ?_ ?_ .nil)
      · exact (((qp.same s2).same g3).same sb).tp st
      · have e1 : n - 1 = m := by omega
        rw [e1]
        exact tm
    refine ⟨pt, u, js.map V.int, [.int (i : Nat)], rfl, rfl, SqT.of (same_new hu _ _ (sT _ _ (g3 _ _ (s2 _ _ hpt)))), SqT.of upd_same, Nat.le_of_lt (small1000 (by rw [List.length_map]; show js.length + 1 ≤ 1000; omega)), fun z => ?_, fun _ z => (by cases z), fun _ _ r hr' => ?_⟩
    · have zj : js = [] := List.map_eq_nil_iff.mp z
      exact done u _ (same_new hu) (by rw [upd_same, zj]; rfl)
    · exact done r _ ((same_new hu).trans (same_new hr')) (by rw [upd_same, List.map_append]; rfl)
  · rintro H' ⟨g, acc, ha, sa⟩
    rw [lx, List.take_length] at sa
    exact q D acc H' (s2.trans g) hD0 ha sa
end
end Wp
set_option Elab.async false
set_option linter.all false
set_option maxRecDepth 100000
set_option maxHeartbeats 1000000
namespace Wp
open PySem PySem.Spec PyProof.Rows L2
/-! ### the places of a term, in turn -/
def preE : Nat → List Int → PyData → List (List Int × PyData)
  | 0, _, _ => []
  | k + 1, js, d => (js, d) :: (kidsF js 0 0 (partsD d)).flatMap fun e => preE k e.1 e.2.1
def preL (es : List (List Int × PyData × Nat)) : List (List Int × PyData) := es.flatMap fun e => preE (e.2.2 + 1) e.1 e.2.1
theorem preL_cons (e : List Int × PyData × Nat) (es : List (List Int × PyData × Nat)) : preL (e :: es) = preE (e.2.2 + 1) e.1 e.2.1 ++ preL es := by
  unfold preL
  rw [List.flatMap_cons]
theorem preL_app (es gs : List (List Int × PyData × Nat)) : preL (es ++ gs) = preL es ++ preL gs := by
  unfold preL
  rw [List.flatMap_append]
theorem pre_kids {n : Nat} {js : List Int} : ∀ (i : Nat) (ps : List PyData), (∀ p ∈ ps, ∃ m, n = m + 1) → ((kidsF js 0 i ps).flatMap fun e => preE n e.1 e.2.1) = preL (kidsF js (n - 1) i ps)
  | _, [], _ => rfl
  | i, p :: ps, h => by
    obtain ⟨m, e⟩ := h p List.mem_cons_self
    have ih := pre_kids (n := n) (js := js) (i + 1) ps fun q hq => h q (List.mem_cons_of_mem _ hq)
    rw [kidsF, kidsF, preL_cons, List.flatMap_cons, ih]
    have e2 : n - 1 + 1 = n := by omega
    show preE n (js ++ [((i : Nat) : Int)]) p ++ _ = preE (n - 1 + 1) (js ++ [((i : Nat) : Int)]) p ++ _
    rw [e2]
theorem pre_one {n : Nat} {d : PyData} (h : Fm n d) (js : List Int) : preE (n + 1) js d = (js, d) :: preL (kidsF js (n - 1) 0 (partsD d)) := by
  rw [preE, pre_kids 0 (partsD d) fun p hp => by
    obtain ⟨m, e, _⟩ := fm_part h hp
    exact ⟨m, e⟩]
theorem cwL_app : ∀ (xs ys : List PyData), cwL (xs ++ ys) = cwL xs + cwL ys
  | [], ys => by show cwL ys = 0 + cwL ys; omega
  | x :: xs, ys => by
    show cw x + cwL (xs ++ ys) = cw x + cwL xs + cwL ys
    rw [cwL_app xs ys]
    omega
theorem cw_partsF : ∀ (ks : List Str) (xs : List PyData), cwL (partsF ks xs) ≤ cwL xs
  | [], _ => by simp [partsF, cwL]
  | _ :: _, [] => by simp [partsF, cwL]
  | k :: ks, x :: xs => by
    have ih := cw_partsF ks xs
    rw [partsF, cwL_app]
    show _ ≤ cw x + cwL xs
    by_cases h1 : k = "part"
    · rw [if_pos h1]
      show (cw x + 0) + _ ≤ _
      omega
    · rw [if_neg h1]
      by_cases h2 : k ∈ (["handed parts", "row parts", "op parts"] : List Str)
      · rw [if_pos h2]
        have h3 : cwL (tupItems x) ≤ cw x := by
          cases x with
          | tuple ds => show cwL ds ≤ 1 + cwL ds; omega
          | _ => exact Nat.zero_le _
        omega
      · rw [if_neg h2]
        show 0 + _ ≤ _
        omega
theorem cw_parts {n : Nat} {d : PyData} (h : Fm n d) : cwL (partsD d) + 2 ≤ cw d := by
  obtain ⟨w, its, rfl, _⟩ := fm_parts h
  have q := cw_partsF (formOf w) its
  show cwL (partsF (formOf w) its) + 2 ≤ 1 + (1 + cwL its)
  omega
theorem preL_len {n : Nat} {js : List Int} : ∀ (i : Nat) (ps : List PyData), (∀ p ∈ ps, ∀ js, (preE (n + 1) js p).length ≤ cw p) → (preL (kidsF js n i ps)).length ≤ cwL ps
  | _, [], _ => by simp [kidsF, preL, cwL]
  | i, p :: ps, h => by
    have ih := preL_len (n := n) (js := js) (i + 1) ps fun q hq => h q (List.mem_cons_of_mem _ hq)
    have h1 := h p List.mem_cons_self (js ++ [((i : Nat) : Int)])
    rw [kidsF, preL_cons, List.length_append]
    show (preE (n + 1) (js ++ [((i : Nat) : Int)]) p).length + _ ≤ cw p + cwL ps
    omega
theorem pre_len : ∀ {n : Nat} {d : PyData} {js : List Int}, Fm n d → (preE (n + 1) js d).length ≤ cw d
  | n, d, js, h => by
    have c := cw_parts h
    have k : (preL (kidsF js (n - 1) 0 (partsD d))).length ≤ cwL (partsD d) := preL_len 0 _ fun p hp js => by
      obtain ⟨m, e, t⟩ := fm_part h hp
      subst e
      exact pre_len t
    rw [pre_one h, List.length_cons]
    omega
/-! ### classes by their promises -/
def HasC (P : Program) (w : World) (K : PySem.W.Frag) (mg : Str → Option Value) (base : Heap) (x : Str) (C : Addr) (ps : List Str) (k : Nat) (sp : Sp) : Prop :=
  ∃ (f : Addr) (fd : FuncData), FnOk P w K mg base CX0 k f fd ps sp ∧ Mk K C f ∧ mg x = some (.ref C) ∧ Binds K fd ps []
section
variable {X : Cx} {x m : Str} {C : Addr} {ps : List Str} {k : Nat} {sp : Sp} {o e : Expr} {es : List Expr} {ta : TE} {t : TA} {p pos apos : Pos}
theorem pe_hasC (h : HasC X.prog X.w X.K X.mg X.base x C ps k sp) (hr : Room (k + 1) X.A) (ha : PA X (e :: es) t) (hg : Gl X x := by rfl)
    (hdb : (x == ("__debug__" : Str)) = false := by decide) (he : starEach (e :: es) X.env = (false, eval e X.env) :: starEach es X.env := by rfl) (hpl : (backTo pos (starEach es X.env)).any (·.1) = false := by rfl) :
    PE X (.Call (.Name x p) (e :: es) [] pos) (tMake C sp [] E0 t) := by
  obtain ⟨f, fd, F, M, mC, b⟩ := h
  exact pe_make M F hr hg mC b .nil pass0 ha hdb he hpl
end
/-! ### d.get(k, x) of a written dict -/
def tKGet (K : PySem.W.Frag) (w : World) (td ty tx : TE) : TE := fun σ H Q => td σ H fun x H1 => ∃ a, x = .ref a ∧ (∃ es n, K.lookup a = some ⟨.type "dict", none, .dict es n, #[]⟩) ∧ ty σ H1 fun y H2 => tx σ H2 fun z H3 => ∃ s : Str, y = .str s ∧
  ((∃ v, KDct K w a s v ∧ (a == sysModules) = false ∧ Q v H3) ∨ (KMiss K w a s ∧ Q z H3))
theorem pe_kget2 {X : Cx} {o e f : Expr} {apos cpos : Pos} {td ty tx : TE} (ho : PE X o td) (he : PE X e ty) (hf : PE X f tx) (m : M2 X o "get" apos e f cpos) : PE X (.Call (.Attribute o "get" apos) [e, f] [] cpos) (tKGet X.K X.w td ty tx) := by
  refine ⟨fun pins s σ H Q I h => ?_⟩
  refine wpAny_Call_method m.base m.few m.line PySem.F.plainAttrs_dict PySem.F.slot_dict_get PySem.F.type_dict_get (thn (ho.run pins s σ H _ I h) fun u s1 ⟨x, H1, I1, rx, a, ex, ⟨es, n, hl⟩, q1⟩ => ?_)
  subst ex
  obtain rfl : u = Value.ref a := rx
  have at1 := I1.kIn _ _ hl
  refine ⟨⟨_, at1, rfl⟩, fun b q => ?_, ?_⟩
  · cases q
    exact ⟨_, at1, rfl⟩
  rw [m.trees]
  refine Calls.callWith_builtin rfl (Calls.evalArgs_plain (Calls.spliced_cons (thn (he.run pins s1 σ H1 _ I1 q1) fun iv s2 ⟨y, H2, I2, ry, q2⟩ =>
    Calls.spliced_cons (thn (hf.run pins s2 σ H2 _ I2 q2) fun fv s3 ⟨z, H3, I3, rz, sx, ey, q3⟩ => Calls.spliced_nil ?_))))
  subst ey
  obtain ⟨t, rfl⟩ := (show ∃ t, iv = Value.str sx t from ry)
  have core : ∀ es n, X.K.lookup a = some ⟨.type "dict", none, .dict es n, #[]⟩ → PySem.W.KeysLit X.w.params es.toList → (a == sysModules) = false → ∀ r : Option Value, PySem.W.nsIn X.K a sx = some r →
      (∀ w' s', Inv X pins σ H3 s' → w' = r.getD fv → EP X pins σ Q w' s') → wpAny (model X.prog X.w) X.A (call (.builtin "dict.get") [.ref a, .str sx t, fv]) (EP X pins σ Q) X.xe s3 := fun es n hl hk low r hr k => by
    have hm := PySem.W.mapOf_K (prog := X.prog) (w := X.w) I3.kIn hl hk
    refine call_meetsIn PySem.F.slot_dict_get hm.typeIs PySem.F.entry_dict_get (PySem.F.args_dict_get_3 _ _ _) (meets_dict_get_default (strKind X.prog X.w) a (strKind_is X.prog X.w sx t) low fv) ⟨_, hm, k _ _ (I3.tok _) ?_⟩
    rw [PySem.W.find_K hl hr]
  rcases q3 with ⟨v, ⟨es, n, u, hl, hk, hn, rv⟩, low, q⟩ | ⟨⟨es, n, hl, hk, low, hn⟩, q⟩
  · exact core es n hl hk low _ hn fun w' s' I' e => by
      rw [e]
      exact ⟨v, H3, I', rv, q⟩
  · exact core es n hl hk low _ hn fun w' s' I' e => by
      rw [e]
      exact ⟨z, H3, I', rz, q⟩
end Wp
set_option Elab.async false
set_option linter.all false
set_option maxRecDepth 100000
set_option maxHeartbeats 1000000
namespace Wp
open PySem PySem.Spec PyProof.Rows L2
-- Place___init__: slots self 0, path 1, term 2
abbrev sPlace___init__ : Stmt := inClass (top 46) 0
theorem scPlace___init__ : FnScope ["self", "path", "term"] ["self", "path", "term"] (defScope sPlace___init__) := ⟨rfl, rfl, rfl, by decide +kernel, rfl, by decide +kernel, by decide +kernel⟩
abbrev slPlace___init__ : List Str := ["self", "path", "term"]
-- waits_for: slots place 0
abbrev swaits_for : Stmt := top 47
theorem scwaits_for : FnScope ["place"] ["place"] (defScope swaits_for) := ⟨rfl, rfl, rfl, by decide +kernel, rfl, by decide +kernel, by decide +kernel⟩
abbrev slwaits_for : List Str := ["place"]
-- all_places: slots term 0, root 1, told 2, waiting 3, place 4, path 5, part 6
abbrev sall_places : Stmt := top 48
theorem scall_places : FnScope ["term", "root", "told", "waiting", "place", "path", "part"] ["term"] (defScope sall_places) := ⟨rfl, rfl, rfl, by decide +kernel, rfl, by decide +kernel, by decide +kernel⟩
abbrev slall_places : List Str := ["term", "root", "told", "waiting", "place", "path", "part"]
theorem flat_strs : ∀ zs : List Str, (zs.map V.str).all flatV = true
  | [] => rfl
  | z :: zs => by
    rw [List.map_cons, List.all_cons, flat_strs zs]
    rfl
structure TxP (K : PySem.W.Frag) (C : Addr) : Prop where
  cl : Cls K C
  nP : NoAttr K C "path"
  nT : NoAttr K C "term"
  nW : NoAttr K C "word"
  nS : NoAttr K C "parts"
  nK : NoAttr K C "waits"
abbrev plFs (pt : Addr) (v : V) (w : Str) (lp : Addr) (k : Int) : List (Str × V) := [("path", .ref pt), ("term", v), ("word", .str w), ("parts", .ref lp), ("waits", .int k)]
theorem same_none {H H' : Hp} {p : Addr} (s : Same H H') (h : H' p = none) : H p = none := by
  cases e : H p with
  | none => rfl
  | some o => rw [s _ _ e] at h; cases h
def spPI (C : Addr) : Sp := fun vs H Q _ => ∃ (H0 : Hp) (a x dx pt : Addr) (v : V) (w : Str) (its : List PyData) (js : List Int), vs = [.ref x, .ref pt, v] ∧ Same H0 H ∧ H0 x = none ∧ H x = some (.ins C dx []) ∧ H pt = some (.tup (js.map V.int)) ∧ Dq a H v (.tuple (.str w :: its)) ∧
  ∀ lp H', Same H0 H' → H0 lp = none → lp ≠ x → H' x = some (.ins C dx (plFs pt v w lp 0)) → H' lp = some (.lst []) → Q .non H'
/-- a new place -/
def NewP (C pt : Addr) (v : V) (w : Str) (H : Hp) (Q : Addr → Hp → Prop) : Prop := ∀ x dx lp H', Same H H' → H x = none → H lp = none → H' x = some (.ins C dx (plFs pt v w lp 0)) → H' lp = some (.lst []) → Q x H'
section
variable {P : Program} {w : World} {K : PySem.W.Frag} {mg : Str → Option Value} {base : Heap} {f C wf wn : Addr} {fd : FuncData}
theorem ok_pinit (F : Fun K "__init__" "Place.__init__" sPlace___init__ f fd) (T : TxP K C) : FnOk P w K mg base CX0 1 f fd ["self", "path", "term"] (spPI C) := by
  refine F.ok scPlace___init__ (fun vs H Q E h => ?_) (fun cdv A outer s H vs Q E hr h => ?_)
  · obtain ⟨H0, a, x, dx, pt, v, w, its, js, rfl, _⟩ := h
    rfl
  obtain ⟨H0, a, x, dx, pt, v, z, its, js, rfl, s0, x0, hx, hp, hd, q⟩ := h
  refine ⟨_, (pss_cons (ps_fld (pv 0) (pv 1) rfl)
  (pss_cons (ps_fld (pv 0) (pv 2) rfl)
  (pss_cons (ps_fld (pv 0) (pe_ix ix_tup (pv 2) pe_int (fun _ _ => rfl)) rfl)
  (pss_cons (ps_fld (pv 0) (pe_lst pa_nil) rfl)
  (pss_one (ps_fld (pv 0) pe_int rfl)))))), ?_⟩
  cases hd with
  | @tup r xs _ nr hr' hxs =>
    cases hxs with
    | @cons x0' xr _ _ hz hxr =>
      cases hz
      have nrx : r ≠ x := ne_of hr' hx (by intro z; cases z)
      refine ⟨_, rfl, _, rfl, x, C, dx, [], rfl, hx, T.cl, T.nP, (by show 0 < 1000; decide), ?_⟩
      refine ⟨_, rfl, _, rfl, x, C, dx, _, rfl, upd_same, T.cl, T.nT, (by show 1 < 1000; decide), ?_⟩
      have h2 : ∀ (o1 o2 : HO), upd (upd H x o1) x o2 r = some (.tup (.str z :: xr)) := fun o1 o2 => by rw [upd_ne nrx, upd_ne nrx]; exact hr'
      refine ⟨_, rfl, r, _, _, _, rfl, rfl, SqT.of (h2 _ _), atI_nat (j := 0) rfl, _, rfl, x, C, dx, _, rfl, upd_same, T.cl, T.nW, (by show 2 < 1000; decide), ?_⟩
      refine ⟨Nat.zero_le _, fun lp hlp => ?_⟩
      have n1 : lp ≠ x := fun e => by rw [e, upd_same] at hlp; cases hlp
      have ht : H lp = none := by
        rw [upd_ne n1, upd_ne n1, upd_ne n1] at hlp
        exact hlp
      refine ⟨_, rfl, x, C, dx, _, rfl, by rw [upd_ne n1.symm]; exact upd_same, T.cl, T.nS, (by show 3 < 1000; decide), ?_⟩
      refine ⟨_, rfl, x, C, dx, _, rfl, upd_same, T.cl, T.nK, (by show 4 < 1000; decide), ?_⟩
      refine q lp _ (fun b o e => ?_) (same_none s0 ht) n1 (by rw [upd_same]; rfl) ?_
      · have b1 : b ≠ x := ne_of_none e x0
        have b2 : b ≠ lp := ne_of_none (s0 _ _ e) ht
        rw [upd_ne b1, upd_ne b1, upd_ne b2, upd_ne b1, upd_ne b1, upd_ne b1]
        exact s0 _ _ e
      · rw [upd_ne n1, upd_ne n1, upd_same]
theorem mk_pl {a : Addr} {H : Hp} {Q : Addr → Hp → Prop} {pt : Addr} {v : V} {z : Str} {its : List PyData} {js : List Int} {E : XK} (hp : H pt = some (.tup (js.map V.int))) (hd : Dq a H v (.tuple (.str z :: its))) (q : NewP C pt v z H Q) :
    ∀ x dx, H x = none → H dx = none → dx ≠ x → spPI C (.ref x :: ([.ref pt, v] ++ [])) (upd (upd H dx (.own x)) x (.ins C dx [])) (fun u H2 => u = .non ∧ Q x H2) E := by
  intro x dx nx nd ne
  have s1 : Same H (upd (upd H dx (.own x)) x (.ins C dx [])) := fun b o e => by
    rw [upd_ne (ne_of_none e nx), upd_ne (ne_of_none e nd)]
    exact e
  exact ⟨H, a, x, dx, pt, v, z, its, js, rfl, s1, nx, upd_same, s1 _ _ hp, hd.same s1, fun lp H' s' nl n1 h1 h2 => ⟨rfl, q x dx lp H' s' nx nl h1 h2⟩⟩
/-- what a place at x is -/
def PlAt (C : Addr) (H : Hp) (x : Addr) (js : List Int) (v : V) (z : Str) (lp : Addr) : Prop := ∃ dx pt k, H x = some (.ins C dx (plFs pt v z lp k)) ∧ H pt = some (.tup (js.map V.int))
abbrev nsW : List Str := ["fun", "rec", "catch", "mark", "take"]
abbrev fsW : List Str := ["let", "if", "guard", "wind"]
def waitsW (z : Str) (n : Nat) : Int := if z ∈ nsW then 0 else if z ∈ fsW then 1 else if z = "do" then (n : Int) - 1 else n
theorem inW {k : Str} : ∀ {ks : List Str}, inV (.str k) (ks.map V.str) = decide (k ∈ ks) := inV_strs
def spWaits (C : Addr) : Sp := fun vs H Q _ => ∃ (x dx pt lp : Addr) (v : V) (z : Str) (k : Int) (xs : List V), vs = [.ref x] ∧ H x = some (.ins C dx (plFs pt v z lp k)) ∧ H lp = some (.lst xs) ∧ Q (.int (waitsW z xs.length)) H
theorem ok_waits (F : Fun K "waits_for" "waits_for" swaits_for f fd) (T : TxP K C) (m_len : mg "len" = none) (m_WAITS_FOR_NONE : mg "WAITS_FOR_NONE" = some (.ref wn)) (m_WAITS_FOR_FIRST : mg "WAITS_FOR_FIRST" = some (.ref wf)) (hn : ∀ H, SqT K H wn (nsW.map V.str)) (hf : ∀ H, SqT K H wf (fsW.map V.str)) : FnOk P w K mg base CX0 1 f fd ["place"] (spWaits C) := by
  refine F.ok scwaits_for (fun vs H Q E h => ?_) (fun cdv A outer s H vs Q E hr h => ?_)
  · obtain ⟨x, dx, pt, lp, v, z, k, xs, rfl, _⟩ := h
    rfl
  obtain ⟨x, dx, pt, lp, v, z, k, xs, rfl, hx, hl, q⟩ := h
  refine ⟨_, (pss_cons (ps_if (pt_cmpR op_in_seq (pe_fld (pv 0) rfl) (pe_glob (v := .ref wn) rfl m_WAITS_FOR_NONE rfl) rfl) (pss_one (ps_ret pe_int)) pss_nil)
  (pss_cons (ps_if (pt_cmpR op_in_seq (pe_fld (pv 0) rfl) (pe_glob (v := .ref wf) rfl m_WAITS_FOR_FIRST rfl) rfl) (pss_one (ps_ret pe_int)) pss_nil)
  (pss_cons (ps_if (pt_cmpR op_eq (pe_fld (pv 0) rfl) pe_str (nomark _)) (pss_one (ps_ret (pe_op op_sub (pe_callB call_len_seq rfl m_len PySem.boot_len (pa_cons (pe_fld (pv 0) rfl) pa_nil)) pe_int))) pss_nil)
  (pss_one (ps_ret (pe_callB call_len_seq rfl m_len PySem.boot_len (pa_cons (pe_fld (pv 0) rfl) pa_nil))))))), ?_⟩
  unfold waitsW at q
  refine ⟨_, rfl, x, C, dx, _, _, rfl, hx, T.cl, T.nW, rfl, wn, _, rfl, .inr (hn H), rfl, flat_strs _, _, rfl, ?_⟩
  refine ite2 (fun c => ?_) (fun c => ?_)
  · have c1 : inV (.str z) (nsW.map V.str) = true := c
    rw [inW] at c1
    rw [if_pos (of_decide_eq_true c1)] at q
    exact q
  have c1 : ¬ inV (.str z) (nsW.map V.str) = true := c
  rw [inW] at c1
  rw [if_neg (fun h => c1 (decide_eq_true h))] at q
  refine ⟨_, rfl, x, C, dx, _, _, rfl, hx, T.cl, T.nW, rfl, wf, _, rfl, .inr (hf H), rfl, flat_strs _, _, rfl, ?_⟩
  refine ite2 (fun c => ?_) (fun c => ?_)
  · have c2 : inV (.str z) (fsW.map V.str) = true := c
    rw [inW] at c2
    rw [if_pos (of_decide_eq_true c2)] at q
    exact q
  have c2 : ¬ inV (.str z) (fsW.map V.str) = true := c
  rw [inW] at c2
  rw [if_neg (fun h => c2 (decide_eq_true h))] at q
  refine ⟨_, rfl, x, C, dx, _, _, rfl, hx, T.cl, T.nW, rfl, rfl, _, rfl, ?_⟩
  refine ite2 (fun c => ?_) (fun c => ?_)
  · rw [if_pos (V.str.inj (of_decide_eq_true c))] at q
    exact ⟨_, rfl, x, C, dx, _, _, rfl, hx, T.cl, T.nS, rfl, lp, xs, rfl, .inl (SqL.of hl), _, _, rfl, rfl, q⟩
  · rw [if_neg (fun h => c (decide_eq_true (by rw [h])))] at q
    exact ⟨_, rfl, x, C, dx, _, _, rfl, hx, T.cl, T.nS, rfl, lp, xs, rfl, .inl (SqL.of hl), q⟩
end
end Wp
set_option Elab.async false
set_option linter.all false
set_option maxRecDepth 100000
set_option maxHeartbeats 1000000
namespace Wp
open PySem PySem.Spec PyProof.Rows L2
inductive All2 {β : Type} (R : Addr → β → Prop) : List Addr → List β → Prop
  | nil : All2 R [] []
  | cons {x : Addr} {xs : List Addr} {y : β} {ys : List β} : R x y → All2 R xs ys → All2 R (x :: xs) (y :: ys)
section
variable {β : Type} {R S : Addr → β → Prop}
theorem All2.imp {xs : List Addr} {ys : List β} (h : All2 R xs ys) (k : ∀ x y, x ∈ xs → R x y → S x y) : All2 S xs ys := by
  induction h with
  | nil => exact .nil
  | cons r _ ih => exact .cons (k _ _ List.mem_cons_self r) (ih fun x y hx => k x y (List.mem_cons_of_mem _ hx))
theorem All2.len {xs : List Addr} {ys : List β} (h : All2 R xs ys) : xs.length = ys.length := by
  induction h with
  | nil => rfl
  | cons _ _ ih => rw [List.length_cons, List.length_cons, ih]
theorem All2.app {xs xs' : List Addr} {ys ys' : List β} (h : All2 R xs ys) (h' : All2 R xs' ys') : All2 R (xs ++ xs') (ys ++ ys') := by
  induction h with
  | nil => exact h'
  | cons r _ ih => exact .cons r ih
theorem All2.rev {xs : List Addr} {ys : List β} (h : All2 R xs ys) : All2 R xs.reverse ys.reverse := by
  induction h with
  | nil => exact .nil
  | cons r _ ih =>
    rw [List.reverse_cons, List.reverse_cons]
    exact ih.app (.cons r .nil)
theorem All2.get {xs : List Addr} {ys : List β} (h : All2 R xs ys) : ∀ {i : Nat} {x : Addr}, xs[i]? = some x → ∃ y, ys[i]? = some y ∧ R x y := by
  induction h with
  | nil => intro i x e; simp at e
  | cons r _ ih =>
    intro i x e
    cases i with
    | zero => simp at e; subst e; exact ⟨_, rfl, r⟩
    | succ i => exact ih (i := i) (by simpa using e)
/-- the last one -/
theorem All2.last {xs : List Addr} {ys : List β} (h : All2 R xs ys) (hn : xs ≠ []) : ∃ xs' x ys' y, xs = xs' ++ [x] ∧ ys = ys' ++ [y] ∧ All2 R xs' ys' ∧ R x y := by
  have hr := h.rev
  cases e : xs.reverse with
  | nil => exact absurd (List.reverse_eq_nil_iff.mp e) hn
  | cons x r =>
    rw [e] at hr
    cases e2 : ys.reverse with
    | nil => rw [e2] at hr; cases hr
    | cons y t =>
      rw [e2] at hr
      cases hr with
      | cons p q =>
        refine ⟨r.reverse, x, t.reverse, y, ?_, ?_, q.rev, p⟩
        · rw [← List.reverse_reverse xs, e, List.reverse_cons]
        · rw [← List.reverse_reverse ys, e2, List.reverse_cons]
end
/-- a place whose parts are not yet looked at -/
def FreshAt (a C : Addr) (H : Hp) (x : Addr) (e : List Int × PyData × Nat) : Prop := ∃ v z its lp, PlAt C H x e.1 v z lp ∧ Dq a H v e.2.1 ∧ e.2.1 = .tuple (.str z :: its) ∧ Fm e.2.2 e.2.1 ∧ e.1.length + e.2.2 ≤ 200
/-- a place with its parts; their list is newer than H1 -/
def FullAt (C : Addr) (H1 H : Hp) (x : Addr) (e : List Int × PyData) : Prop := ∃ (v : V) (z : Str) (its : List PyData) (lp : Addr) (cs : List Addr), PlAt C H x e.1 v z lp ∧ e.2 = .tuple (.str z :: its) ∧ H1 lp = none ∧ H lp = some (.lst (cs.map V.ref)) ∧ cs.length = (partsD e.2).length ∧
  (∀ (k : Nat) (c : Addr), cs[k]? = some c → ∃ v z lp, PlAt C H c (e.1 ++ [((k : Nat) : Int)]) v z lp) ∧ (∃ b m, Dq b H v e.2 ∧ Fm m e.2) ∧ ∀ dx pt v z lp k, H x = some (.ins C dx (plFs pt v z lp k)) → k = waitsW z cs.length
theorem PlAt.keep {C : Addr} {H H' : Hp} {x : Addr} {js : List Int} {v : V} {z : Str} {lp : Addr} (h : PlAt C H x js v z lp) (tp : Tp H H') (ho : H' x = H x) : PlAt C H' x js v z lp := by
  obtain ⟨dx, pt, k, e, p⟩ := h
  exact ⟨dx, pt, k, by rw [ho]; exact e, tp _ _ p⟩
theorem FreshAt.keep {a C : Addr} {H H' : Hp} {x : Addr} {e : List Int × PyData × Nat} (h : FreshAt a C H x e) (tp : Tp H H') (ho : H' x = H x) : FreshAt a C H' x e := by
  obtain ⟨v, z, its, lp, p, q, r⟩ := h
  exact ⟨v, z, its, lp, p.keep tp ho, q.tp tp, r⟩
/-- places keep their paths -/
def StP (C : Addr) (H H' : Hp) : Prop := Tp H H' ∧ ∀ c dx pt v z lp k, H c = some (.ins C dx (plFs pt v z lp k)) → ∃ lp' k', H' c = some (.ins C dx (plFs pt v z lp' k'))
theorem FullAt.keep {C : Addr} {H1 H H' : Hp} {x : Addr} {e : List Int × PyData} (h : FullAt C H1 H x e) (st : StP C H H') (ho : H' x = H x) (hl : ∀ lp xs, H1 lp = none → H lp = some (.lst xs) → H' lp = some (.lst xs)) : FullAt C H1 H' x e := by
  obtain ⟨v, z, its, lp, cs, p, q, n, l, m, r, ⟨b0, m0, dq, tm⟩, hw⟩ := h
  refine ⟨v, z, its, lp, cs, p.keep st.1 ho, q, n, hl _ _ n l, m, fun k c hc => ?_, ⟨b0, m0, dq.tp st.1, tm⟩, fun dx pt v z lp k h => hw dx pt v z lp k (by rw [← ho]; exact h)⟩
  obtain ⟨v2, z2, lp2, dx, pt, k2, e1, e2⟩ := r k c hc
  obtain ⟨lp3, k3, e3⟩ := st.2 _ _ _ _ _ _ _ e1
  exact ⟨v2, z2, lp3, dx, pt, k3, e3, st.1 _ _ e2⟩
theorem kidsF_len (js : List Int) (m : Nat) : ∀ (i : Nat) (ps : List PyData), (kidsF js m i ps).length = ps.length
  | _, [] => rfl
  | i, p :: ps => by rw [kidsF, List.length_cons, List.length_cons, kidsF_len js m (i + 1) ps]
theorem kidsF_at (js : List Int) (m : Nat) : ∀ (j : Nat) (ps : List PyData) (i : Nat) (e : List Int × PyData × Nat), (kidsF js m j ps)[i]? = some e → e.1 = js ++ [((j + i : Nat) : Int)] ∧ ps[i]? = some e.2.1 ∧ e.2.2 = m
  | _, [], i, e, h => by simp [kidsF] at h
  | j, p :: ps, 0, e, h => by
    rw [kidsF] at h
    simp at h
    subst h
    exact ⟨rfl, rfl, rfl⟩
  | j, p :: ps, i + 1, e, h => by
    rw [kidsF] at h
    obtain ⟨h1, h2, h3⟩ := kidsF_at js m (j + 1) ps i e (by simpa using h)
    exact ⟨by rw [h1, show j + 1 + i = j + (i + 1) by omega], by simpa using h2, h3⟩
theorem kidsF_get {js : List Int} {m : Nat} {ps : List PyData} {i : Nat} {e : List Int × PyData × Nat} (h : (kidsF js m 0 ps)[i]? = some e) : e.1 = js ++ [((i : Nat) : Int)] := by
  have := (kidsF_at js m 0 ps i e h).1
  rw [Nat.zero_add] at this
  exact this
structure AInv (a C : Addr) (H0 H1 : Hp) (LT LW : Addr) (es : List (List Int × PyData)) (T W : List Addr) (esT : List (List Int × PyData)) (esW : List (List Int × PyData × Nat)) (H : Hp) : Prop where
  same : Same H0 H
  dom : ∀ b, H b = none → H1 b = none
  hT : H LT = some (.lst (T.map V.ref))
  hW : H LW = some (.lst (W.map V.ref))
  nd : (T ++ W).Nodup
  n0 : ∀ y ∈ T ++ W, H0 y = none
  full : All2 (FullAt C H1 H) T esT
  fresh : All2 (FreshAt a C H) W esW
  all : es = esT ++ preL esW.reverse
  kin : ∀ y ∈ T, ∀ dx pt v z lp k (cs : List Addr), H y = some (.ins C dx (plFs pt v z lp k)) → H lp = some (.lst (cs.map V.ref)) → ∀ c ∈ cs, c ∈ T ++ W
/-- one turn, told of the heaps alone -/
theorem AInv.turn {a C : Addr} {H0 H1 : Hp} {LT LW : Addr} {es : List (List Int × PyData)} {T W : List Addr} {x : Addr} {esT : List (List Int × PyData)} {esW : List (List Int × PyData × Nat)} {js : List Int} {d : PyData} {m : Nat} {H H' : Hp}
    (A : AInv a C H0 H1 LT LW es T (W ++ [x]) esT (esW ++ [(js, d, m)]) H) (hLT : H1 LT ≠ none) (hLW : H1 LW ≠ none) (zT : H0 LT = none) (zW : H0 LW = none) {dx pt D : Addr} {v : V} {z : Str} {lp : Addr} {k i : Int} {its : List PyData} {cs : List Addr}
    (hx : H x = some (.ins C dx (plFs pt v z lp k))) (hp : H pt = some (.tup (js.map V.int))) (ez : d = .tuple (.str z :: its)) (tm : Fm m d) (hi : i = waitsW z cs.length)
    (keep : ∀ b o, H b = some o → b ≠ LW → b ≠ LT → b ≠ x → H' b = some o) (gT : H' LT = some (.lst ((T ++ [x]).map V.ref))) (gW : H' LW = some (.lst ((W ++ cs.reverse).map V.ref))) (gx : H' x = some (.ins C dx (plFs pt v z D i)))
    (gD : H' D = some (.lst (cs.map V.ref))) (nD : H D = none) (nc : ∀ c ∈ cs, H c = none) (ndc : cs.Nodup) (kids : All2 (FreshAt a C H') cs (kidsF js (m - 1) 0 (partsD d))) :
    AInv a C H0 H1 LT LW es (T ++ [x]) (W ++ cs.reverse) (esT ++ [(js, d)]) (esW ++ (kidsF js (m - 1) 0 (partsD d)).reverse) H' := by
  have kx : ∀ {b : Addr} {xs : List V}, H b = some (.tup xs) → b ≠ LW ∧ b ≠ LT ∧ b ≠ x := fun {b xs} e => ⟨ne_of e A.hW (by intro z; cases z), ne_of e A.hT (by intro z; cases z), ne_of e hx (by intro z; cases z)⟩
  have tp : Tp H H' := fun b xs e => by
    obtain ⟨h1, h2, h3⟩ := kx e
    exact keep b _ e h1 h2 h3
  have ki : ∀ {b dx : Addr} {fs : List (Str × V)}, H b = some (.ins C dx fs) → b ≠ LW ∧ b ≠ LT := fun {b dx fs} e => ⟨ne_of e A.hW (by intro z; cases z), ne_of e A.hT (by intro z; cases z)⟩
  have st : StP C H H' := ⟨tp, fun c dx2 pt2 v2 z2 lp2 k2 e => by
    obtain ⟨h1, h2⟩ := ki e
    by_cases hc : c = x
    · subst hc
      rw [hx] at e
      cases e
      exact ⟨D, i, gx⟩
    · exact ⟨lp2, k2, keep c _ e h1 h2 hc⟩⟩
  have fl : ∀ lp xs, H1 lp = none → H lp = some (.lst xs) → H' lp = some (.lst xs) := fun l xs n e => keep l _ e (fun w => hLW (by rw [← w]; exact n)) (fun w => hLT (by rw [← w]; exact n)) (ne_of e hx (by intro z; cases z))
  have nd := A.nd
  rw [← List.append_assoc] at nd
  have ndx : x ∉ T ++ W := fun hm => by
    have := (List.nodup_append.mp nd).2.2 x hm x List.mem_cons_self
    exact this rfl
  have ndTW : (T ++ W).Nodup := (List.nodup_append.mp nd).1
  have there : ∀ y ∈ T ++ (W ++ [x]), H y ≠ none := fun y hy => by
    have p1 : ∀ y ∈ T, H y ≠ none := by
      have q := A.full
      intro y hy
      obtain ⟨j, hj⟩ := List.mem_iff_getElem?.mp hy
      obtain ⟨_, _, v, z, its, lp, cs, ⟨dx, pt, k, e, _⟩, _⟩ := q.get hj
      rw [e]
      exact fun z => nomatch z
    have p2 : ∀ y ∈ W ++ [x], H y ≠ none := by
      have q := A.fresh
      intro y hy
      obtain ⟨j, hj⟩ := List.mem_iff_getElem?.mp hy
      obtain ⟨_, _, v, z, its, lp, ⟨dx, pt, k, e, _⟩, _⟩ := q.get hj
      rw [e]
      exact fun z => nomatch z
    rcases List.mem_append.mp hy with h | h
    · exact p1 y h
    · exact p2 y h
  obtain ⟨W2, x2, eW2, e2, ew1, ew2, fr, frx⟩ := A.fresh.last (by simp)
  obtain ⟨hW2, hx2⟩ := List.append_inj' ew1 rfl
  obtain ⟨he2, hee⟩ := List.append_inj' ew2 rfl
  subst hW2 he2
  refine ⟨fun b o e => ?_, fun b e => ?_, gT, gW, ?_, ?_, ?_, ?_, ?_, ?_⟩
  · have e1 := A.same b o e
    refine keep b o e1 (fun w => ?_) (fun w => ?_) (fun w => ?_)
    · rw [w, zW] at e; cases e
    · rw [w, zT] at e; cases e
    · rw [w, A.n0 x (by simp)] at e; cases e
  · refine A.dom b ?_
    cases q : H b with
    | none => rfl
    | some o =>
      by_cases h1 : b = LW
      · rw [h1, gW] at e; cases e
      · by_cases h2 : b = LT
        · rw [h2, gT] at e; cases e
        · by_cases h3 : b = x
          · rw [h3, gx] at e; cases e
          · rw [keep b o q h1 h2 h3] at e; cases e
  · have h1 : ∀ c ∈ cs, c ∉ T ++ (W ++ [x]) := fun c hc hm => there c hm (nc c hc)
    rw [List.append_assoc, ← List.append_assoc [x], ← List.append_assoc]
    refine List.nodup_append.mpr ⟨?_, (List.Perm.nodup_iff (List.reverse_perm cs)).mpr ndc, fun b hb c hc e => ?_⟩
    · have e1 : (T ++ (W ++ [x])).Perm (T ++ ([x] ++ W)) := List.Perm.append_left T List.perm_append_comm
      exact e1.nodup_iff.mp A.nd
    · rw [← e] at hc
      refine h1 b (List.mem_reverse.mp hc) ?_
      rcases List.mem_append.mp hb with h | h
      · exact List.mem_append_left _ h
      · rcases List.mem_append.mp h with h | h
        · exact List.mem_append_right _ (List.mem_append_right _ h)
        · exact List.mem_append_right _ (List.mem_append_left _ h)
  · intro y hy
    rcases List.mem_append.mp hy with h | h
    · refine A.n0 y ?_
      rcases List.mem_append.mp h with h | h
      · exact List.mem_append_left _ h
      · exact List.mem_append_right _ (List.mem_append_right _ h)
    · rcases List.mem_append.mp h with h | h
      · exact A.n0 y (List.mem_append_right _ (List.mem_append_left _ h))
      · cases q : H0 y with
        | none => rfl
        | some o =>
          have := A.same y o q
          rw [nc y (List.mem_reverse.mp h)] at this
          cases this
  · refine (A.full.imp fun t e ht f => f.keep st ?_ fl).app (.cons ?_ .nil)
    · obtain ⟨v, z, its, lp, cs, ⟨dx, pt, k, e, _⟩, _⟩ := f
      obtain ⟨h1, h2⟩ := ki e
      rw [e]
      exact keep t _ e h1 h2 fun w => ndx (by rw [← w]; exact List.mem_append_left _ ht)
    · refine ⟨v, z, its, D, cs, ⟨dx, pt, i, gx, tp _ _ hp⟩, ez, A.dom D nD, gD, ?_, fun k c hc => ?_, ⟨a, m, ?_, tm⟩, fun dx2 pt2 v2 z2 lp2 k2 h2 => ?_⟩
      · have := kids.len
        rw [this, kidsF_len]
      · obtain ⟨e, he, v2, z2, its2, lp2, p2, _⟩ := kids.get hc
        have e1 := kidsF_get he
        rw [e1] at p2
        exact ⟨v2, z2, lp2, p2⟩
      · obtain ⟨v3, z3, its3, lp3, ⟨dx3, pt3, k3, e3, _⟩, dq3, _⟩ := frx
        have ex : x2 = x := by simpa using hx2.symm
        have ee : e2 = (js, d, m) := by simpa using hee.symm
        subst ee
        rw [ex, hx] at e3
        have ev := (HO.ins.inj (Option.some.inj e3)).2.2
        have evv : v3 = v := by
          have q := congrArg (fun l : List (Str × V) => (l.drop 1).head?.map (·.2)) ev
          simpa [plFs] using q.symm
        rw [evv] at dq3
        exact dq3.tp tp
      · rw [gx] at h2
        have ev := (HO.ins.inj (Option.some.inj h2)).2.2
        have e1 : z2 = z := by
          have q := congrArg (fun l : List (Str × V) => (l.drop 2).head?.map (·.2)) ev
          simpa [plFs] using q.symm
        have e4 : k2 = i := by
          have q := congrArg (fun l : List (Str × V) => (l.drop 4).head?.map (·.2)) ev
          simpa [plFs] using q.symm
        rw [e4, hi, e1]
  · refine (fr.imp fun y e hy f => f.keep tp ?_).app kids.rev
    obtain ⟨v, z, its, lp, ⟨dx, pt, k, e, _⟩, _⟩ := f
    obtain ⟨h1, h2⟩ := ki e
    rw [e]
    exact keep y _ e h1 h2 fun w => ndx (by rw [← w]; exact List.mem_append_right _ hy)
  · rw [A.all, List.reverse_append, List.reverse_append, List.reverse_reverse, preL_app]
    rw [preL_app]
    show esT ++ (preL [(js, d, m)] ++ preL esW.reverse) = _
    rw [preL_cons, pre_one tm js]
    simp [preL]
  · intro y hy dx2 pt2 v2 z2 lp2 k2 cs2 h1 h2 c hc
    have fld : ∀ {pa pb lpa lpb : Addr} {va vb : V} {za zb : Str} {ka kb : Int} {dxa dxb : Addr}, (some (HO.ins C dxa (plFs pa va za lpa ka)) : Option HO) = some (.ins C dxb (plFs pb vb zb lpb kb)) → lpa = lpb := fun h => by
      have ev := (HO.ins.inj (Option.some.inj h)).2.2
      have q := congrArg (fun l : List (Str × V) => (l.drop 3).head?.map (·.2)) ev
      simpa [plFs] using q
    have rinj : ∀ {as bs : List Addr}, as.map V.ref = bs.map V.ref → as = bs := fun {as bs} h => by
      have h2 := congrArg (List.map fun v : V => match v with | .ref p => p | _ => 0) h
      rw [List.map_map, List.map_map] at h2
      simpa [Function.comp_def] using h2
    by_cases hyx : y = x
    · rw [hyx, gx] at h1
      have el := fld h1
      rw [← el, gD] at h2
      have ec : cs = cs2 := rinj (HO.lst.inj (Option.some.inj h2))
      subst ec
      exact List.mem_append_right _ (List.mem_append_right _ (List.mem_reverse.mpr hc))
    · have hyT : y ∈ T := by
        rcases List.mem_append.mp hy with z | z
        · exact z
        · exact absurd (List.mem_singleton.mp z) hyx
      obtain ⟨j, hj⟩ := List.mem_iff_getElem?.mp hyT
      obtain ⟨_, _, v3, z3, its3, lp3, cs3, ⟨dx3, pt3, k3, e3, _⟩, _, n3, l3, _⟩ := A.full.get hj
      obtain ⟨q1, q2⟩ := ki e3
      have e3' := keep y _ e3 q1 q2 hyx
      rw [e3'] at h1
      have el := fld h1
      have l3' := fl _ _ n3 l3
      rw [← el, l3'] at h2
      have ec : cs3 = cs2 := rinj (HO.lst.inj (Option.some.inj h2))
      subst ec
      have hm := A.kin y hyT _ _ _ _ _ _ cs3 e3 l3 c hc
      rcases List.mem_append.mp hm with z | z
      · exact List.mem_append_left _ (List.mem_append_left _ z)
      · rcases List.mem_append.mp z with z | z
        · exact List.mem_append_right _ (List.mem_append_left _ z)
        · exact List.mem_append_left _ (List.mem_append_right _ z)
end Wp
set_option Elab.async false
set_option linter.all false
set_option maxRecDepth 100000
set_option maxHeartbeats 1000000
namespace Wp
open PySem PySem.Spec PyProof.Rows L2
def spAll (C : Addr) : Sp := fun vs H Q _ => ∃ (a : Addr) (v : V) (d : PyData) (n : Nat), vs = [v] ∧ Dq a H v d ∧ Fm n d ∧ n ≤ 100 ∧ cw d ≤ 20000 ∧
  ∀ (p : Addr) (T : List Addr) (H1 H' : Hp), Same H H' → (∀ b, H1 b = none → H b = none) → H p = none → H' p = some (.lst (T.map V.ref)) → All2 (FullAt C H1 H') T (preE (n + 1) [] d) → (∀ y ∈ T, ∀ dx pt v z lp k (cs : List Addr), H' y = some (.ins C dx (plFs pt v z lp k)) → H' lp = some (.lst (cs.map V.ref)) → ∀ c ∈ cs, c ∈ T) → Q (.ref p) H'
theorem StAt.get' {a : Addr} {H : Hp} {rs : List V} {es : List (List Int × PyData × Nat)} (h : StAt a H rs es) : ∀ {i : Nat} {r : V}, rs[i]? = some r → ∃ (t pt : Addr) (v : V) (d : PyData) (e : List Int × PyData × Nat), es[i]? = some e ∧ r = .ref t ∧ H t = some (.tup [.ref pt, v]) ∧ H pt = some (.tup (e.1.map V.int)) ∧ d = e.2.1 ∧ Dq a H v e.2.1 ∧ Fm e.2.2 e.2.1 := by
  induction h with
  | nil => intro i r e; simp at e
  | cons e1 e2 q t _ ih =>
    intro i r e
    cases i with
    | zero => simp at e; subst e; exact ⟨_, _, _, _, _, rfl, rfl, e1, e2, rfl, q, t⟩
    | succ i => exact ih (i := i) (by simpa using e)
theorem small20 {n : Nat} (h : n ≤ 30000) : n < sizeLine := Nat.lt_of_le_of_lt h (by decide)
section
variable {P : Program} {w : World} {K : PySem.W.Frag} {mg : Str → Option Value} {base : Heap} {f C wf wn : Addr} {fd : FuncData}
theorem ok_all (F : Fun K "all_places" "all_places" sall_places f fd) (TX : TxP K C) (CPlace : HasC P w K mg base "Place" C ["self", "path", "term"] 1 (spPI C)) (Gplaced_parts : Has P w K mg base "placed_parts" ["path", "term"] 2 spPlaced) (Gwaits_for : Has P w K mg base "waits_for" ["place"] 1 (spWaits C)) :
    FnOk P w K mg base CX0 4 f fd ["term"] (spAll C) := by
  refine F.ok scall_places (fun vs H Q E h => ?_) (fun cdv A outer s H vs Q E hr h => ?_)
  · obtain ⟨a, v, d, n, rfl, _⟩ := h
    rfl
  obtain ⟨a, v, d, n, rfl, hd, tm, hn, hc, q⟩ := h
  refine ⟨_, (pss_cons (ps_set (i := 1) scall_places.nd rfl (.inl rfl) (pe_hasC CPlace (hr.mono (by omega)) (pa_cons (pe_tup pa_nil) (pa_cons (pv 0) pa_nil))))
  (pss_cons (ps_set (i := 2) scall_places.nd rfl (.inl rfl) (pe_lst pa_nil))
  (pss_cons (ps_set (i := 3) scall_places.nd rfl (.inl rfl) (pe_lst (pa_cons (pv 1) pa_nil)))
  (pss_cons (ps_while PassesOwn.never (pt_truth (pv 3) (fun _ => rfl)) (pss_cons (ps_set (i := 4) scall_places.nd rfl (.inl rfl) (pe_bm0 PySem.F.plainAttrs_list PySem.F.slot_list_pop PySem.F.type_list_pop mt_pop (pv 3)))
  (pss_cons (ps_expr (pe_bm PySem.F.plainAttrs_list PySem.F.slot_list_append PySem.F.type_list_append mt_append (pv 2) (pa_cons (pv 4) pa_nil)))
  (pss_cons (ps_fld (pv 4) (pe_lc (own := [("path", 5), ("part", 6)]) (g := gTup K 2 (gCons (gName 5) (gCons (gName 6) gNil))) (tt := tYes) (te := (tMake C (spPI C) [] E0 (tCons (tVar 5) (tCons (tVar 6) tNil)))) rfl scall_places.nd (pi_list (pe_has Gplaced_parts (hr.mono (by omega)) (pa_cons (pe_fld (pv 4) rfl) (pa_cons (pe_fld (pv 4) rfl) pa_nil)))) (blkOk_by (N := slall_places) (sc := defScope sall_places) (by decide +kernel)) (fun _ _ _ _ _ => (pg_tup rfl (pgs_cons (pg_name (i := 5) scall_places.nd rfl (.inl rfl)) (pgs_cons (pg_name (i := 6) scall_places.nd rfl (.inl rfl)) pgs_nil)))) (fun _ _ _ _ _ => pts_nil) (fun _ _ _ _ _ => (pe_hasC CPlace (hr.mono (by omega)) (pa_cons (pv 5) (pa_cons (pv 6) pa_nil))))) rfl)
  (pss_cons (ps_fld (pv 4) (pe_has Gwaits_for (hr.mono (by omega)) (pa_cons (pv 4) pa_nil)) rfl)
  (pss_one (ps_expr (pe_bm PySem.F.plainAttrs_list PySem.F.slot_list_extend PySem.F.type_list_extend mt_extend (pv 3) (pa_cons (pe_revL (pe_fld (pv 4) rfl)) pa_nil)))))))))
  (pss_one (ps_ret (pv 2))))))), ?_⟩
  obtain ⟨z, its, ez, _⟩ := fm_parts tm
  refine ⟨Nat.zero_le _, fun pt hpt => ?_⟩
  refine ⟨_, rfl, ?_⟩
  refine mk_pl (C := C) (a := a) (H := upd H pt (.tup [])) (pt := pt) (v := v) (z := z) (js := []) (its := its) upd_same (by rw [← ez]; exact hd.same (same_new hpt)) fun x dx lp H2 s2 nx nl hx hl => ?_
  refine ⟨Nat.zero_le _, fun LT hLT => ⟨_, rfl, (by show 1 ≤ sizeLine; decide), fun LW hLW => ?_⟩⟩
  have s3 : Same H H2 := (same_new hpt).trans s2
  have nLT0 : H LT = none := same_none s3 hLT
  have nLW1 : H2 LW = none := same_none (same_new hLT) hLW
  have nLW0 : H LW = none := same_none s3 nLW1
  have nTW : LT ≠ LW := fun e => by rw [← e, upd_same] at hLW; cases hLW
  have nxT : x ≠ LT := ne_of_none hx hLT
  have nxW : x ≠ LW := ne_of_none hx nLW1
  generalize hH3 : upd (upd H2 LT (.lst [])) LW (.lst [.ref x]) = H3
  have s4 : Same H2 H3 := by
    rw [← hH3]
    exact (same_new hLT).trans (same_new hLW)
  have e1 : H3 LT = some (.lst []) := by rw [← hH3, upd_ne nTW]; exact upd_same
  have e2 : H3 LW = some (.lst [.ref x]) := by rw [← hH3]; exact upd_same
  have A0 : AInv a C H H3 LT LW (preE (n + 1) [] d) [] [x] [] [([], d, n)] H3 := by
    refine ⟨s3.trans s4, fun b e => e, e1, e2, by simp, fun y hy => ?_, .nil, .cons ?_ .nil, ?_, fun y hy => by cases hy⟩
    · have ey : y = x := by simpa using hy
      rw [ey]
      exact same_none (same_new hpt) nx
    · exact ⟨v, z, its, lp, ⟨dx, pt, 0, s4 _ _ hx, s4 _ _ (s2 _ _ upd_same)⟩, (hd.same s3).same s4, ez, tm, by show 0 + n ≤ 200; omega⟩
    · show _ = [] ++ preL [([], d, n)]
      rw [preL_cons]
      simp [preL]
  have pl := pre_len (js := []) tm
  refine ⟨fun m σ H' => ∃ T W esT esW t4, σ = [some v, some (.ref x), some (.ref LT), some (.ref LW), t4, none, none] ∧ AInv a C H H3 LT LW (preE (n + 1) [] d) T W esT esW H' ∧ m = (preL esW.reverse).length, ⟨_, [], [x], [], _, none, rfl, A0, rfl⟩, ?_⟩
  rintro m σ H' ⟨T, W, esT, esW, t4, rfl, AI, rfl⟩
  refine ⟨_, rfl, _, .inl ⟨_, SqL.of AI.hW, rfl⟩, ?_⟩
  have la := congrArg List.length AI.all
  rw [List.length_append] at la
  have lT := AI.full.len
  refine ite2 (fun c => ?_) (fun c => ?_)
  · have hW : W ≠ [] := fun e => by rw [e] at c; simp at c
    obtain ⟨W', y, esW', ⟨js, d', m'⟩, rfl, rfl, fr, v', z', its', lp', ⟨dx', pt', k', ey, ep⟩, dq, ez', tm', lj⟩ := AI.fresh.last hW
    refine ⟨fun σ' H'' => ∃ T W esT esW t4, σ' = [some v, some (.ref x), some (.ref LT), some (.ref LW), t4, none, none] ∧ AInv a C H H3 LT LW (preE (n + 1) [] d) T W esT esW H'' ∧ (preL esW.reverse).length < (preL (esW' ++ [(js, d', m')]).reverse).length, fun σ' H'' ⟨T, W, esT, esW, t4, e, ai, l⟩ => ⟨_, l, T, W, esT, esW, t4, e, ai, rfl⟩, ?_⟩
    have tm' : Fm m' d' := tm'
    have lj : js.length + m' ≤ 200 := lj
    have ez' : d' = .tuple (.str z' :: its') := ez'
    have dq : Dq a H' v' d' := dq
    have ep : H' pt' = some (.tup (js.map V.int)) := ep
    have hp1 : ((W' ++ [y]).map V.ref)[((W' ++ [y]).map V.ref).length - 1]? = some (.ref y) := by simp
    have hp2 : ((W' ++ [y]).map V.ref).dropLast = W'.map V.ref := by simp
    refine ⟨_, rfl, .inl ⟨rfl, _, SqL.of AI.hW⟩, LW, _, _, rfl, rfl, AI.hW, hp1, ?_⟩
    rw [hp2]
    have yW : y ≠ LW := ne_of ey AI.hW (by intro z; cases z)
    have yT : y ≠ LT := ne_of ey AI.hT (by intro z; cases z)
    have lTl : T.length ≤ 20000 := by omega
    have hTa : upd H' LW (.lst (W'.map V.ref)) LT = some (.lst (T.map V.ref)) := by rw [upd_ne nTW]; exact AI.hT
    refine ⟨_, rfl, .inl ⟨rfl, _, SqL.of hTa⟩, _, rfl, LT, _, _, rfl, rfl, hTa, small20 (by rw [List.length_map]; omega), ?_⟩
    have g1 : ∀ b o, H' b = some o → b ≠ LW → b ≠ LT → upd (upd H' LW (.lst (W'.map V.ref))) LT (.lst (T.map V.ref ++ [V.ref y])) b = some o := fun b o e h1 h2 => by rw [upd_ne h2, upd_ne h1]; exact e
    have g2 : upd (upd H' LW (.lst (W'.map V.ref))) LT (.lst (T.map V.ref ++ [V.ref y])) LT = some (.lst ((T ++ [y]).map V.ref)) := by rw [upd_same, List.map_append]; rfl
    have g3 : upd (upd H' LW (.lst (W'.map V.ref))) LT (.lst (T.map V.ref ++ [V.ref y])) LW = some (.lst (W'.map V.ref)) := by rw [upd_ne nTW.symm]; exact upd_same
    have g4 : ∀ b, upd (upd H' LW (.lst (W'.map V.ref))) LT (.lst (T.map V.ref ++ [V.ref y])) b = none → H' b = none := fun b e => by
      cases q : H' b with
      | none => rfl
      | some o =>
        by_cases h1 : b = LW
        · rw [h1, g3] at e; cases e
        · by_cases h2 : b = LT
          · rw [h2, g2] at e; cases e
          · rw [g1 b o q h1 h2] at e; cases e
    generalize upd (upd H' LW (.lst (W'.map V.ref))) LT (.lst (T.map V.ref ++ [V.ref y])) = Hb at g1 g2 g3 g4 ⊢
    have yb : Hb y = some (.ins C dx' (plFs pt' v' z' lp' k')) := g1 _ _ ey yW yT
    have tpb : Tp H' Hb := fun b xs e => g1 b _ e (ne_of e AI.hW (by intro z; cases z)) (ne_of e AI.hT (by intro z; cases z))
    have epb := tpb _ _ ep
    have dqb := dq.tp tpb
    have few := parts_few tm'
    refine ⟨_, rfl, y, C, dx', _, _, rfl, yb, TX.cl, TX.nP, rfl, _, rfl, y, C, dx', _, _, rfl, yb, TX.cl, TX.nT, rfl, a, pt', js, v', d', m', rfl, epb, by omega, dqb, tm', fun rl rs Hc sc rl0 erl sat => ?_⟩
    refine ⟨rl, rfl, ⟨rs, SqL.of erl⟩, fun D hD => ?_⟩
    have lrs := sat.len
    rw [kidsF_len] at lrs
    refine lc_list (xs := rs) (fun i Hi => Same Hc Hi ∧ ∃ cs : List Addr, Hi D = some (.lst (cs.map V.ref)) ∧ cs.Nodup ∧ (∀ c ∈ cs, Hc c = none) ∧ All2 (FreshAt a C Hi) cs ((kidsF js (m' - 1) 0 (partsD d')).take i)) ?_ ?_ ?_ ?_
    · exact ⟨same_new hD, [], upd_same, List.nodup_nil, (fun c h => by cases h), by rw [List.take_zero]; exact .nil⟩
    · rintro i Hi hi ⟨si, _⟩
      exact SqL.of (si _ _ erl)
    · rintro i r Hi hi ⟨si, cs, hDi, ndc, ncs, fra⟩
      obtain ⟨t, ptk, vk, _, e, ek, er, e1, e2, _, e4, e5⟩ := sat.get' hi
      subst er
      obtain ⟨w1, w2, w3⟩ := kidsF_at js (m' - 1) 0 (partsD d') i e ek
      obtain ⟨zk, itk, ezk, _⟩ := fm_parts e5
      have li : i < rs.length := (List.getElem?_eq_some_iff.mp hi).1
      have lcs := fra.len
      rw [List.length_take, kidsF_len] at lcs
      refine ⟨t, _, rfl, SqT.of (si _ _ e1), rfl, _, _, rfl, _, _, rfl, rfl, rfl, ?_⟩
      unfold tYes
      dsimp only
      rw [if_pos rfl]
      refine ⟨_, rfl, _, rfl, ?_⟩
      refine mk_pl (C := C) (a := a) (H := Hi) (pt := ptk) (v := vk) (z := zk) (js := e.1) (its := itk) (si _ _ e2) (by rw [← ezk]; exact e4.same si) fun xk dxk lpk H5 s5 nxk nlk hxk hlk => ?_
      have hD5 : H5 D = some (.lst (cs.map V.ref)) := s5 _ _ hDi
      have nDk : xk ≠ D := ne_of hxk hD5 (by intro z; cases z)
      have tpD : Tp H5 (upd H5 D (.lst (cs.map V.ref ++ [.ref xk]))) := fun b xs h => by
        rw [upd_ne (ne_of h hD5 (by intro z; cases z))]
        exact h
      have tp5 : Tp Hi (upd H5 D (.lst (cs.map V.ref ++ [.ref xk]))) := fun b xs h => tpD _ _ (s5 _ _ h)
      refine ⟨_, hD5, small20 (by rw [List.length_map]; omega), same_grow (si.trans s5) hD, cs ++ [xk], by rw [upd_same, List.map_append]; rfl, ?_, ?_, ?_⟩
      · refine List.nodup_append.mpr ⟨ndc, by simp, fun b hb c hc => ?_⟩
        rw [List.mem_singleton.mp hc]
        intro hbx
        obtain ⟨jj, hjj⟩ := List.mem_iff_getElem?.mp hb
        obtain ⟨_, _, _, _, _, _, ⟨_, _, _, eb, _⟩, _⟩ := fra.get hjj
        rw [hbx, nxk] at eb
        cases eb
      · intro c hc
        rcases List.mem_append.mp hc with h | h
        · exact ncs c h
        · rw [List.mem_singleton.mp h]
          exact same_none si nxk
      · rw [List.take_add_one, ek]
        refine (fra.imp fun c e' hc f => f.keep tp5 ?_).app (.cons ⟨vk, zk, itk, lpk, ⟨dxk, ptk, 0, by rw [upd_ne nDk]; exact hxk, tp5 _ _ (si _ _ e2)⟩, (e4.same si).tp tp5, ezk, e5, ?_⟩ .nil)
        · obtain ⟨_, _, _, _, ⟨_, _, _, eb, _⟩, _⟩ := f
          rw [upd_ne (ne_of (s5 _ _ eb) hD5 (by intro z; cases z)), eb]
          exact s5 _ _ eb
        · obtain ⟨mm, em, _⟩ := fm_part tm' (List.mem_of_getElem? w2)
          rw [w1, w3, List.length_append]
          show js.length + 1 + _ ≤ 200
          omega
    · rintro Hi ⟨si, cs, hDi, ndc, ncs, fra⟩
      rw [List.take_of_length_le (by rw [kidsF_len]; omega)] at fra
      have lcs := fra.len
      rw [kidsF_len] at lcs
      have yi : Hi y = some (.ins C dx' (plFs pt' v' z' lp' k')) := si _ _ (sc _ _ yb)
      have nDy : D ≠ y := fun e => by
        rw [e] at hD
        rw [sc _ _ yb] at hD
        cases hD
      refine ⟨_, rfl, y, C, dx', _, rfl, yi, TX.cl, TX.nS, (by show 5 < 1000; decide), ?_⟩
      rw [show putF ("parts" : Str) (V.ref D) (plFs pt' v' z' lp' k') = plFs pt' v' z' D k' from rfl]
      have y2 : upd Hi y (.ins C dx' (plFs pt' v' z' D k')) y = some (.ins C dx' (plFs pt' v' z' D k')) := upd_same
      have D2 : upd Hi y (.ins C dx' (plFs pt' v' z' D k')) D = some (.lst (cs.map V.ref)) := by rw [upd_ne nDy]; exact hDi
      refine ⟨_, rfl, y, dx', pt', D, v', z', k', _, rfl, y2, D2, ?_⟩
      generalize hiw : waitsW z' (cs.map V.ref).length = iw
      refine ⟨_, rfl, y, C, dx', _, rfl, y2, TX.cl, TX.nK, (by show 5 < 1000; decide), ?_⟩
      rw [show putF ("waits" : Str) (V.int iw) (plFs pt' v' z' D k') = plFs pt' v' z' D iw from rfl]
      have y3 : upd (upd Hi y (.ins C dx' (plFs pt' v' z' D k'))) y (.ins C dx' (plFs pt' v' z' D iw)) y = some (.ins C dx' (plFs pt' v' z' D iw)) := upd_same
      have D3 : upd (upd Hi y (.ins C dx' (plFs pt' v' z' D k'))) y (.ins C dx' (plFs pt' v' z' D iw)) D = some (.lst (cs.map V.ref)) := by rw [upd_ne nDy]; exact D2
      have o3 : ∀ b, b ≠ y → upd (upd Hi y (.ins C dx' (plFs pt' v' z' D k'))) y (.ins C dx' (plFs pt' v' z' D iw)) b = Hi b := fun b h => by rw [upd_ne h, upd_ne h]
      have W3 : upd (upd Hi y (.ins C dx' (plFs pt' v' z' D k'))) y (.ins C dx' (plFs pt' v' z' D iw)) LW = some (.lst (W'.map V.ref)) := by rw [o3 _ yW.symm]; exact si _ _ (sc _ _ g3)
      have T3 : upd (upd Hi y (.ins C dx' (plFs pt' v' z' D k'))) y (.ins C dx' (plFs pt' v' z' D iw)) LT = some (.lst ((T ++ [y]).map V.ref)) := by rw [o3 _ yT.symm]; exact si _ _ (sc _ _ g2)
      refine ⟨_, rfl, .inl ⟨rfl, _, SqL.of W3⟩, _, rfl, y, C, dx', _, _, rfl, y3, TX.cl, TX.nS, rfl, D, _, rfl, SqL.of D3, fun p hp => ?_⟩
      generalize hHf : upd (upd Hi y (.ins C dx' (plFs pt' v' z' D k'))) y (.ins C dx' (plFs pt' v' z' D iw)) = Hf at y3 D3 o3 W3 T3 hp ⊢
      have W4 := same_new (o := .lst (cs.map V.ref).reverse) hp _ _ W3
      have lW : W'.length ≤ 20000 := by
        have h1 := AI.fresh.len
        have h2 : ∀ es : List (List Int × PyData × Nat), es.length ≤ (preL es).length := by
          intro es
          induction es with
          | nil => exact Nat.zero_le _
          | cons e es ih =>
            rw [preL_cons, List.length_append, List.length_cons]
            have : 1 ≤ (preE (e.2.2 + 1) e.1 e.2.1).length := by rw [preE, List.length_cons]; omega
            omega
        have h3 := h2 (esW' ++ [(js, d', m')]).reverse
        rw [List.length_reverse] at h3
        rw [List.length_append, List.length_append] at h1
        rw [List.length_append] at h3
        simp only [List.length_cons, List.length_nil] at h1 h3
        omega
      refine ⟨LW, p, _, _, rfl, rfl, W4, upd_same, Nat.le_of_lt (small20 (by rw [List.length_map, List.length_reverse, List.length_map]; omega)), ?_⟩
      have nWp : LW ≠ p := ne_of_none W3 hp
      have nTp : LT ≠ p := ne_of_none T3 hp
      have nyp : y ≠ p := ne_of_none y3 hp
      have nDp : D ≠ p := ne_of_none D3 hp
      have DW : D ≠ LW := fun e => by
        rw [e, sc _ _ g3] at hD
        cases hD
      have DT : D ≠ LT := fun e => by
        rw [e, sc _ _ g2] at hD
        cases hD
      have fin : ∀ b, b ≠ LW → b ≠ p → upd (upd Hf p (.lst (cs.map V.ref).reverse)) LW (.lst (W'.map V.ref ++ (cs.map V.ref).reverse)) b = Hf b := fun b h1 h2 => by rw [upd_ne h1, upd_ne h2]
      refine ⟨T ++ [y], W' ++ cs.reverse, _, _, _, rfl, AI.turn (D := D) (i := iw) (cs := cs) (by rw [e1]; exact fun z => nomatch z) (by rw [e2]; exact fun z => nomatch z) nLT0 nLW0 ey ep ez' tm' (by rw [← hiw, List.length_map]) ?_ ?_ ?_ ?_ ?_ ?_ ?_ ndc ?_, ?_⟩
      · intro b o e h1 h2 h3
        have e3 : Hf b = some o := by rw [o3 b h3]; exact si _ _ (sc _ _ (g1 b o e h1 h2))
        rw [fin b h1 (ne_of_none e3 hp)]
        exact e3
      · rw [fin _ nTW nTp]
        exact T3
      · rw [upd_same, List.map_append, List.map_reverse]
      · rw [fin _ yW nyp]
        exact y3
      · rw [fin _ DW nDp]
        exact D3
      · exact g4 _ (same_none sc hD)
      · intro c hc
        exact g4 _ (same_none sc (ncs c hc))
      · refine fra.imp fun c e hc f => f.keep (fun b xs h => ?_) ?_
        · have n1 : b ≠ y := ne_of h yi (by intro z; cases z)
          have e3 : Hf b = some (.tup xs) := by rw [o3 b n1]; exact h
          rw [fin b (ne_of e3 W3 (by intro z; cases z)) (ne_of_none e3 hp)]
          exact e3
        · obtain ⟨_, _, _, _, ⟨_, _, _, eb, _⟩, _⟩ := f
          have n1 : c ≠ y := fun e => by
            have := ncs c hc
            rw [e, sc _ _ yb] at this
            cases this
          have e3 : Hf c = Hi c := o3 c n1
          rw [fin c (ne_of (e3.trans eb) W3 (by intro z; cases z)) (ne_of_none (e3.trans eb) hp)]
          exact e3
      · rw [List.reverse_append, List.reverse_append, List.reverse_reverse, preL_app, preL_app]
        show _ < (preL [(js, d', m')] ++ preL esW'.reverse).length
        rw [preL_cons, pre_one tm' js]
        simp [preL]
  · have hW : W = [] := by
      cases W with
      | nil => rfl
      | cons _ _ => simp at c
    subst hW
    have hE : esW = [] := by
      have := AI.fresh.len
      exact List.length_eq_zero_iff.mp this.symm
    subst hE
    have ea := AI.all
    simp [preL] at ea
    have fu := AI.full
    rw [← ea] at fu
    exact ⟨_, rfl, q LT T H3 H' AI.same (fun b e => same_none (s3.trans s4) e) nLT0 AI.hT fu fun y hy dx pt v z lp k cs h1 h2 c hc => by simpa using AI.kin y hy dx pt v z lp k cs h1 h2 c hc⟩
end
end Wp
set_option Elab.async false
set_option linter.all false
set_option maxRecDepth 100000
set_option maxHeartbeats 4000000
namespace Wp
open PySem PySem.Spec PyProof.Rows L2
/-! ### errors over a built-in class other than the hand layer's: made, stored to -/
abbrev leTail : List Value := [.type "RuntimeError", .type "Exception", .type "BaseException", .type "object"]
section
open Builtin Builtin.ObjectAttr PySem.HandSPX PySem.W
variable {pr : Program} {wo : World} {Ar : Around} {Rs : Result → Shared → Prop} {h0 : Heap} {gs : Array GenState} {dn : Drawn} {tk0 : Nat} {oz : OsState}
theorem exc_store {K : PySem.W.Frag} {nm : Str} {tk : Tok} {u : Value} {e C : Addr} {fv : Array Value} {cd : ClassData} {bmB : List Value}
    (kin : K.In h0) (he : h0.get? e = some { cls := .ref C, data := .fields fv }) (hcd : PySem.W.clsIn K C = some cd) (hm : PySem.W.excTail bmB cd.mro = true) (hob : bmB.contains (.type "object") = true) (hps : ∀ self, refuseLoop self "__setattr__" bmB = pure ()) (hh : cd.hasDict = true) (ha : PySem.W.findIn K (.ref C) nm = some none)
    (k : ∀ h1 tk1 dx, (∀ b o, b ≠ e → h0.get? b = some o → h1.get? b = some o) → h0.objs.size ≤ dx → dx ≠ e → h1.get? e = some { cls := .ref C, dict := some dx, data := .fields fv } →
      h1.Ns1 dx (fun y => if y = nm then some u else none) → Rs (.ok (.ret .none)) ⟨h1, gs, dn, tk1, oz⟩) :
    codeAny (model pr wo) Ar (.call (.builtin "object.__setattr__") ⟨[.ref e, .str nm tk, u], []⟩) Rs ⟨h0, gs, dn, tk0, oz⟩ := by
  have at_ : PySem.W.InstAt h0 e { cls := .ref C, data := .fields fv } C none := ⟨he, rfl, rfl, trivial⟩
  have sf := F.store_object
  have hobj : cd.mro.contains (.type "object") = true := (PySem.W.excTail_contains "object" _ hm).trans hob
  have nemp : cd.mro.isEmpty = false := by
    cases q : cd.mro with
    | nil => rw [q] at hobj; cases hobj
    | cons _ _ => rfl
  have hes : e ≠ h0.objs.size := Nat.ne_of_lt (Heap.lt_size he)
  have isO : PySem.W.Looks (model pr wo) h0 (isInstance (.ref e) (.type "object")) true :=
    at_.type.andThen (PySem.W.looks_mroIn kin (by unfold PySem.W.mroIn; rw [hcd, Option.bind_some, if_neg (by rw [nemp]; decide), hobj]))
  refine codeAny_call_builtin sf.slot.plain sf.entry
    (@PySem.W.check_slot (model pr wo) _ _ ⟨h0, gs, dn, tk0, oz⟩ "object.__setattr__" "object" "__setattr__" (.ref e) [.str nm tk, u] [] _ sf.kind sf.split isO (sf.args (.ref e) (.str nm tk) u) ?_)
  have lm : PySem.W.Looks (model pr wo) h0 (mroOf (.ref C)) cd.mro := (PySem.W.looks_clsIn kin hcd).andThen .now
  have ln : PySem.W.Looks (model pr wo) h0 (storeTaker? none) none := .now
  have lc : PySem.W.Looks (model pr wo) h0 (classData C) cd := PySem.W.looks_clsIn kin hcd
  rw [PySem.W.osa_eq, refuse_eq]
  refine wpAny_bind (wpAny_bind (at_.type.at (wpAny_bind (lm.at ?_))))
  rw [PySem.W.excTail_pass _ (hps _) _ hm]
  refine wpAny_pure (wpAny_bind (at_.type.at (wpAny_bind ((PySem.W.looks_findIn kin ha).at (wpAny_bind (ln.at ?_))))))
  show wpAny _ _ (storeInOwnDict (.ref e) (.ref C) (.str nm tk) nm u false) _ _ _
  obtain ⟨n1, n2, n3, n4, n5, n6, n7, n8, n9, n10, n11⟩ := cd
  dsimp only at hh
  subst hh
  unfold storeInOwnDict ownDictForStores
  repeat (first | with_reducible refine store_in_new ?_ ?_ | with_reducible refine wpAny_loadPart_at he ?_ | with_reducible refine lc.at ?_ | wp_step)
  · exact ⟨_, #[], _, (Heap.get?_update_ne _ _ _ _ hes.symm).trans (Heap.get?_push_at rfl rfl), rfl, fun z hz => absurd hz (by simp), fun _ => rfl⟩
  · intro h1 tk1 ns1 same
    have he1 : (h0.push { cls := .type "dict", data := .dict #[] }).get? e = some { cls := .ref C, data := .fields fv } := Heap.get?_push_of_some _ he
    refine k h1 tk1 h0.objs.size (fun b o nb hb => ?_) (Nat.le_refl _) hes.symm ?_ ns1
    · exact (same.2 b (Nat.ne_of_lt (Heap.lt_size hb))).trans ((Heap.get?_update_ne _ _ _ _ nb).trans (Heap.get?_push_of_some _ hb))
    · exact (same.2 e hes).trans (Heap.get?_update_self _ he1 rfl)
end
/-- what the written part says of such a class -/
structure LeC (K : PySem.W.Frag) (C : Addr) : Prop where
  cls : ∃ nm q N bs bm sn sub ab col dd k0 k1 k2 k3 k5, K.lookup C = some (excClassObj nm q C N bs bm true sn sub ab col dd k0 k1 k2 k3 k5 "RuntimeError.__new__") ∧ PySem.W.excTail leTail bm = true
  sa : PySem.W.findIn K (.ref C) "__setattr__" = some (some (.builtin "object.__setattr__"))
  exC : PySem.W.subIn K (.ref C) (.type "BaseException") = some true
  tyC : PySem.W.typeIn K (.ref C) = some (.type "type")
  kC : PySem.W.keepIn K (.ref C) = true
section
variable {X : Cx} {pins : List (Addr × Obj)} {σ : L2.St} {H : Hp} {s : Shared} {a C : Addr} {f : Str} {y : V} {u : Value} {Q : Unit → Shared → Prop} {E : Value → Shared → Prop} {A : Around}
theorem le_store (T : LeC X.K C) (I : Inv X pins σ H s) (e : H a = some (exo a C none)) (hno : PySem.W.findIn X.K (.ref C) f = some none) (ry : RelV y u)
    (k : ∀ dx s1, H dx = none → dx ≠ a → Inv X pins σ (upd (upd H dx (exd dx [(f, y)])) a (exo a C (some dx))) s1 → Q () s1) : wpAny (model X.prog X.w) A (setAttr (.ref a) f u) Q E s := by
  obtain ⟨nm, q, N, bs, bm, sn, sub, ab, col, dd, k0, k1, k2, k3, k5, hC, hbm⟩ := T.cls
  have hcl : PySem.W.clsIn X.K C = some { name := nm, bases := bs, mro := .ref C :: bm, ns := N, qualname := q, hasDict := true, slotNames := sn, subclasses := sub, abstract := ab, collection := col, hasDel := false } := by unfold PySem.W.clsIn; rw [hC] <;> rfl
  obtain ⟨t1, ho⟩ := exo_at I.hok e
  obtain ⟨hp, g, d, t, os⟩ := s
  refine PySem.W.set_plain I.kIn (ox := { cls := .ref C, dict := none, data := .fields #[.ref t1, .none, .none, .none, .bool false, .none] }) (od := none) ⟨ho, rfl, rfl, trivial⟩ T.sa ?_
  refine exc_store (bmB := leTail) I.kIn ho hcl hbm (by decide +kernel) (fun self => F.store_RuntimeError.passes self) rfl hno (fun h1 tk1 dx kp dn dne hx hn => ?_)
  have hnd : H dx = none := I.hok.fresh dn
  have nd : ∀ {b : Addr} {o : Obj}, hp.get? b = some o → b ≠ dx := fun {b o} w => Nat.ne_of_lt (Nat.lt_of_lt_of_le (Heap.lt_size w) dn)
  have na : ∀ {b : Addr}, H b = none → b ≠ a := fun {b} n z => by
    rw [z, e] at n
    cases n
  have un : Un X.fs [] H (upd (upd H dx (exd dx [(f, y)])) a (exo a C (some dx))) hp h1 :=
    { keep := fun b o w n _ _ => kp b o (na n) w
      slot := fun b o w n _ _ => ⟨o.slots, kp b o (na n) w⟩
      free := fun b o w n _ => by rw [upd_ne (na n), upd_ne (nd w)]; exact n
      there := fun b o w _ => by
        by_cases hb : b = a
        · exact ⟨_, by rw [hb]; exact hx⟩
        · exact ⟨o, kp b o hb w⟩
      tups := fun b xs w => by rw [upd_ne (at_ne e w exo_tup), upd_ne (ne_of_none w hnd)]; exact w
      frzs := fun b o v w => by rw [upd_ne (at_ne e w exo_frz), upd_ne (ne_of_none w hnd)]; exact w
      tbls := fun b ps w => ⟨#[], by rw [upd_ne (at_ne e w exo_tbl), upd_ne (ne_of_none w hnd), w]; simp⟩ }
  refine k dx _ hnd dne (I.un (t' := tk1) un fun b o w => ?_)
  by_cases hb : b = a
  · subst hb
    rw [upd_same] at w
    cases w
    exact exo_ok hx
  rw [upd_ne hb] at w
  by_cases hd : b = dx
  · subst hd
    rw [upd_same] at w
    cases w
    exact exd_ok hn (relO_put (fs := []) ry fun _ => True.intro)
  rw [upd_ne hd] at w
  refine (I.hok b o w).stay (fun c v hc z => kp c v ?_ z) (fun c hc => ?_) (fun c xs hc => ?_)
  · rcases hc with hc | hc
    · rw [hc]; exact hb
    · exact at_ne e hc exo_own
  · rw [upd_ne (at_ne e hc exo_own), upd_ne (ne_of_none hc hnd)]; exact hc
  · rw [upd_ne (at_ne e hc exo_tup), upd_ne (ne_of_none hc hnd)]; exact hc
theorem le_init {us : List Value} {Q : Value → Shared → Prop} (T : LeC X.K C) (I : Inv X pins σ H s) (e : H a = some (exo a C none)) (hl : us.length ≤ sizeLine) (k : ∀ s1, Inv X pins σ H s1 → Q .none s1) :
    wpAny (model X.prog X.w) A (call (.builtin "RuntimeError.__init__") (.ref a :: us)) Q E s := by
  obtain ⟨nm, q, N, bs, bm, sn, sub, ab, col, dd, k0, k1, k2, k3, k5, hC, hbm⟩ := T.cls
  obtain ⟨t1, ho⟩ := exo_at I.hok e
  obtain ⟨hp, g, d, t, os⟩ := s
  refine wpAny_call (PySem.HandSPX.init_base F.excBase_RuntimeError (fun Y => PySem.W.excTail_contains Y bm hbm) (I.kIn _ _ hC) ho hl fun h1 t2 kp hx => ?_)
  have J := I.write (t' := t) (x := a) (e := a) (o := exo a C none) (by rw [e]; exact True.intro) (.inl rfl) kp ⟨_, hx⟩ (exo_ok hx)
  have same : upd H a (exo a C none) = H := funext fun b => by
    by_cases hb : b = a
    · rw [hb, upd_same, e]
    · rw [upd_ne hb]
  rw [same] at J
  exact k _ J
end
def tLeI (K : PySem.W.Frag) (ta : TA) : TE := fun σ H Q => ta σ H fun vs H1 => ∃ (a C : Addr) (ws : List V), vs = .ref a :: ws ∧ ws.length ≤ 1000 ∧ LeC K C ∧ H1 a = some (exo a C none) ∧ Q .non H1
def tLeS (K : PySem.W.Frag) (f : Str) (to te : TE) : TS := fun D σ H => te σ H fun y H1 => to σ H1 fun x H2 => ∃ a C : Addr, x = .ref a ∧ LeC K C ∧ PySem.W.findIn K (.ref C) f = some none ∧ H2 a = some (exo a C none) ∧
  ∀ dx, H2 dx = none → dx ≠ a → D.nx σ (upd (upd H2 dx (exd dx [(f, y)])) a (exo a C (some dx)))
theorem typ_LE : typeOf (.type "RuntimeError") = pure (.type "type") := by kernel_rfl
section
variable {X : Cx} {o e : Expr} {es : List Expr} {to te : TE} {ta : TA} {f : Str} {p p' p1 p2 pos : Pos}
theorem pe_leinit {pl : Sem Bool} (hg : Gl X "RuntimeError") (hm : X.mg "RuntimeError" = none) (vV : PySem.W.findCls X.K (.type "RuntimeError") (.type "type") "__init__" = some (.val (.builtin "RuntimeError.__init__"))) (ha : PA X (e :: es) ta)
    (hc : eval (.Call (.Attribute (.Name "RuntimeError" p1) "__init__" p2) (e :: es) [] pos) X.env = (do
      let ov ← eval (.Name "RuntimeError" p1) X.env
      standAt p2.atName
      let (f, first) ← holding [ov] (getMethod ov "__init__" pl)
      callWith pos f first (backTo pos (starEach (e :: es) X.env)) (backToKw pos (keywordEach [] X.env))) := by rfl)
    (he : starEach (e :: es) X.env = (false, eval e X.env) :: starEach es X.env := by rfl) (hpl : (backTo pos (starEach es X.env)).any (·.1) = false := by rfl) :
    PE X (.Call (.Attribute (.Name "RuntimeError" p1) "__init__" p2) (e :: es) [] pos) (tLeI X.K ta) := by
  refine ⟨fun pins s σ H Q I h => ?_⟩
  refine PySem.W.methodCall_KW (ld_blt I hg hm PyProof.Rows.Boot.«RuntimeError» ?_ (by decide) (by decide)) hc
  obtain ⟨m, fr⟩ := I.fr
  refine PySem.W.method_type fr I.ok.mod.kin typ_LE (by decide +kernel) vV (by decide +kernel) ?_
  show wpAny _ _ (callWith pos (Value.builtin "RuntimeError.__init__") [] (backTo pos (starEach (e :: es) X.env)) []) _ _ _
  refine PyProof.Rows.callWith_method1 (thn (ha.run pos pins _ σ H _ (I.tok _) h) fun us s1 hh => ?_) he hpl
  obtain ⟨vs, H1, I1, r1, a, C, ws, ev, hl, T, ea, q⟩ := hh
  subst ev
  cases r1 with
  | @cons _ u0 _ ur ra rw' =>
    obtain rfl : u0 = Value.ref a := ra
    refine le_init T I1 ea ?_ fun s1 J => ⟨.non, H1, J, rfl, q⟩
    rw [← Paired.length rw', sizeLine_eq]
    omega
theorem ps_lest (ho : PE X o to) (he : PE X e te) (hs : swapsWith e (some (.Attribute o f p')) pos.line X.env = pure false := by rfl) : PS X (.Assign [.Attribute o f p'] e pos) (tLeS X.K f to te) := by
  refine ⟨fun pins s σ H D I h => ?_⟩
  refine plainObj_wpAny_Assign_Attribute (thn (he.run pins s σ H _ I h) fun v s1 h1 => ?_) hs
  obtain ⟨y, H1, I1, r1, q1⟩ := h1
  refine thn (ho.run pins s1 σ H1 _ I1 q1) fun u s2 h2 => ?_
  obtain ⟨x, H2, I2, r2, a, C, ex, T, hno, ea, q⟩ := h2
  subst ex
  obtain rfl : u = Value.ref a := r2
  exact le_store T I2 ea hno r1 fun dx s3 n ne J => ⟨σ, _, J, q dx n ne⟩
theorem pmk_le {CX : CXT} {x : Str} {C fI : Addr} {k : Nat} {fd : FuncData} {ps : List Str} {sp : Sp} (T : LeC X.K C) (iC : PySem.W.findIn X.K (.ref C) "__init__" = some (some (.ref fI))) (tI : PySem.W.typeIn X.K (.ref fI) = some (.type "function"))
    (F1 : FnOk X.prog X.w X.K X.mg X.base CX k fI fd ps sp) (hr : Room (k + 1) X.A) (hb : Binds X.K fd ps []) (hx : Passes CX X (fun _ _ _ => False)) (hg : Gl X x) (hm : X.mg x = some (.ref C)) (ha : PA X (e :: es) ta)
    (hdb : (x == ("__debug__" : Str)) = false := by decide) (he : starEach (e :: es) X.env = (false, eval e X.env) :: starEach es X.env := by rfl) (hpl : (backTo pos (starEach es X.env)).any (·.1) = false := by rfl) :
    PMk X (.Call (.Name x p) (e :: es) [] pos) (tMkO C sp [] ta) := by
  intro pins s σ H Q I h
  obtain ⟨nm, q, N, bs, bm, sn, sub, ab, col, dd, k0, k1, k2, k3, k5, hC, hbm⟩ := T.cls
  refine wpAny_Call_Name_kw (ld_glob I hg hm ?_ hdb)
  refine PySem.W.callWith_K (h₀ := X.base) I.ok.mod.kin T.kC (thn (ha.run pos pins s σ H _ I h) fun us s1 hh => ?_) he hpl
  obtain ⟨vs, H1, I1, r1, hz, q1⟩ := hh
  refine ⟨I1.kIn, ?_⟩
  show wpAny _ _ (call (.ref C) us) _ _ _
  obtain ⟨hp, g, dr, tk, os⟩ := s1
  have hsz : hp.objs.size ≤ hp.objs.size + 1 := Nat.le_succ _
  have hn : H1 (hp.objs.size + 1) = none := I1.hok.fresh hsz
  have hq := q1 (hp.objs.size + 1) hn
  have kk : ∀ b o, hp.get? b = some o → ((hp.push (PySem.W.kdv_tup us)).push (PySem.HandSPX.excO C hp.objs.size)).get? b = some o := fun b o z => Heap.get?_push_of_some _ (Heap.get?_push_of_some _ z)
  have hget : ((hp.push (PySem.W.kdv_tup us)).push (PySem.HandSPX.excO C hp.objs.size)).get? (hp.objs.size + 1) = some (PySem.HandSPX.excO C hp.objs.size) := by heap_get
  have I2 : Inv X pins σ (upd H1 (hp.objs.size + 1) (exo (hp.objs.size + 1) C none)) ⟨(hp.push (PySem.W.kdv_tup us)).push (PySem.HandSPX.excO C hp.objs.size), g, dr, tk, os⟩ :=
    I1.laid (t' := tk) (a := hp.objs.size + 1) (o := exo (hp.objs.size + 1) C none) (h' := (hp.push (PySem.W.kdv_tup us)).push (PySem.HandSPX.excO C hp.objs.size)) kk hsz (exo_ok hget)
  have r2 : Vals (V.ref (hp.objs.size + 1) :: (vs ++ [])) (Value.ref (hp.objs.size + 1) :: (us ++ [])) := .cons rfl (r1.append .nil)
  have hl : (Value.ref (hp.objs.size + 1) :: us ++ []).length = ps.length := by
    have z := r2.length
    rw [F1.len _ _ _ _ hq] at z
    exact z.symm
  have hus : us.length ≤ sizeLine := by
    rw [← Paired.length r1, sizeLine_eq]
    omega
  refine wpAny_call (PySem.HandSPX.call_own F.excBase_RuntimeError (fun Y => PySem.W.excTail_contains Y bm hbm) (I1.kIn _ _ hC) (PySem.W.looks_findIn I1.kIn iC) (fun self => PySem.W.bind_fn I1.kIn self tI) hus
    (codeAny_mono (F1.run _ X.stack _ _ ⟨Value.ref (hp.objs.size + 1) :: us, []⟩ (Value.ref (hp.objs.size + 1) :: (us ++ [])) _ _ (fun _ _ _ => False) (hr.make C us []) (I2.env0.make C us []) (show BindsTo _ fd _ (ps.zip (Value.ref (hp.objs.size + 1) :: (us ++ []))) from hb _ (Value.ref (hp.objs.size + 1) :: us) I2.kIn hl) r2 hq) fun r s2 back => ?_))
  cases r with
  | error er => exact hx pins σ _ _ er s2 I2 back
  | ok fl =>
    cases fl with
    | ret u =>
      obtain ⟨v, H2, os2, bare2, un2, hok2, rv, ev, d, fs, ea, ed, hd1, q2⟩ := back
      subst ev
      obtain ⟨h2, g2, d2, t2, os'⟩ := s2
      exact ⟨rv, mk_end (raises_own T.exC T.tyC) I1 hsz kk un2 hok2 os2 bare2 ea ed hd1 q2⟩
    | next => exact False.elim back
    | brk => exact False.elim back
    | cont => exact False.elim back
end
end Wp
set_option Elab.async false
set_option linter.all false
set_option maxRecDepth 100000
set_option maxHeartbeats 4000000
namespace Wp
open PySem PySem.Spec PyProof.Rows L2
/-- a caught error that is kept: its class, its dict -/
def exK (e : Addr) (cls : Value) (d : Option Addr) : HO := .ext fun h => ∃ (oe : Obj) (vs : Array Value), h.get? e = some oe ∧ Zc cls d oe ∧ oe.data = .fields vs
theorem exK_ok {P : Program} {w : World} {H : Hp} {h : Heap} {e : Addr} {cls : Value} {d : Option Addr} {oe : Obj} {vs : Array Value} (g : h.get? e = some oe) (z : Zc cls d oe) (q : oe.data = .fields vs) : ObjOk P w H h e (exK e cls d) :=
  ⟨⟨oe, vs, g, z, q⟩, ⟨oe, g⟩, fun _ _ ⟨o, v, g, r⟩ k => ⟨o, v, k o g, r⟩⟩
theorem exK_at {P : Program} {w : World} {H : Hp} {h : Heap} {e : Addr} {cls : Value} {d : Option Addr} (hok : HOk P w H h) (q : H e = some (exK e cls d)) : ∃ (oe : Obj) (vs : Array Value), h.get? e = some oe ∧ Zc cls d oe ∧ oe.data = .fields vs :=
  (show ObjOk P w H h e (.ext fun h => ∃ (oe : Obj) (vs : Array Value), h.get? e = some oe ∧ Zc cls d oe ∧ oe.data = .fields vs) from hok e _ q).1
section
variable {X : Cx} {pins : List (Addr × Obj)} {σ : L2.St} {H : Hp} {s : Shared}
/-- an object of ours that is new since the entry is tracked from now on -/
theorem inv_track {a : Addr} {o : HO} (I : Inv X pins σ H s) (n0 : X.s_0.heap.get? a = none) (na : H a = none) (nL : a ≠ X.env.locals) (nC : ∀ x c, X.env.cells.lookup x = some c → c ≠ a) (np : ∀ p ∈ X.pn ++ pins, p.1 ≠ a) (new : ObjOk X.prog X.w (upd H a o) s.heap a o) :
    Inv X pins σ (upd H a o) s where
  ok := I.ok
  os := I.os
  bare := I.bare
  base :=
    { keep := I.base.keep
      slot := I.base.slot
      free := fun b u e n x => by
        rw [upd_ne (fun z => by rw [z, n0] at e; cases e)]
        exact I.base.free b u e n x
      there := I.base.there
      tups := fun b xs e => by
        have q := I.base.tups b xs e
        rw [upd_ne (ne_of_none q na)]
        exact q
      frzs := fun b u v e => by
        have q := I.base.frzs b u v e
        rw [upd_ne (ne_of_none q na)]
        exact q
      tbls := fun b ps e => by
        obtain ⟨m, q⟩ := I.base.tbls b ps e
        exact ⟨m, by rw [upd_ne (ne_of_none q na)]; exact q⟩ }
  loc := I.loc
  cell := I.cell
  free := by rw [upd_ne (Ne.symm nL)]; exact I.free
  freeC := fun x c e => by rw [upd_ne (nC x c e)]; exact I.freeC x c e
  pin := fun p hp => by
    obtain ⟨e, n, r⟩ := I.pin p hp
    exact ⟨e, by rw [upd_ne (np p hp)]; exact n, r⟩
  hok := fun b u e => by
    by_cases hb : b = a
    · subst hb
      rw [upd_same] at e
      cases e
      exact new
    · rw [upd_ne hb] at e
      exact (I.hok b u e).stay (fun _ _ _ q => q) (fun c q => by rw [upd_ne (ne_of_none q na)]; exact q) fun c xs q => by rw [upd_ne (ne_of_none q na)]; exact q
  len := I.len
end
/-- more objects: the flight goes on -/
theorem fly_keep {B h h' : Heap} {l : List Env} {e : Addr} {Z : Obj → Prop} (f : HandSPX.FlyingZ B l e Z h) (k : ∀ b o, h.get? b = some o → h'.get? b = some o) : HandSPX.FlyingZ B l e Z h' := by
  obtain ⟨f1, f2, f3, oe, vs, T, oT, ts, g1, g2, g3, g4, g5, g6, g7, g8, g9⟩ := f
  exact ⟨fun b o q => k b o (f1 b o q), f2, PySem.Heap.FunFrames.of_keeps (fun b o q _ => ⟨o, k b o q, rfl⟩) f3, oe, vs, T, oT, ts, k _ _ g1, g2, g3, g4, g5, g6, k _ _ g7, g8, g9⟩
/-- what «except (x1, x2, x3) as n» wishes, the error being kept behind it -/
def wKeep (K : PySem.W.Frag) (c1 c2 c3 : Value) (i : Nat) (ts : Addr → Value → Option Addr → TS) (D : Ends) : WX := fun cls d σ H =>
  PySem.W.exmAny K cls [c1, c2, c3] = some true ∧ ∀ a, H a = none → ts a cls d { nx := fun σ' H' => D.nx (σ'.set i none) (upd H' a (exK a cls d)), rt := fun _ _ => False, bk := fun _ _ => False, ct := fun _ _ => False } (σ.set i (some (.ref a))) H
section
variable {X : Cx} {x1 x2 x3 n : Str} {C1 C2 C3 : Addr} {i : Nat} {body suite : List Stmt} {b0 : Stmt} {p1 p2 p3 tp pos pos' : Pos} {kk : Nat} {tb : WX → TS} {ts : Addr → Value → Option Addr → TS}
theorem ps_try_keep (hs : X.stack = X.env :: X.outer) (hf : X.env.frame = some X.env.locals) (hex : X.ex = []) (hN : X.N.Nodup) (hi : X.N[i]? = some n) (hln : X.env.kindOf n = some .local)
    (g1 : Gl X x1) (m1 : X.mg x1 = some (.ref C1)) (g2 : Gl X x2) (m2 : X.mg x2 = some (.ref C2)) (g3 : Gl X x3) (m3 : X.mg x3 = some (.ref C3))
    (hb : ∀ (W : WX) (pn : List (Addr × Obj)) (xe : Value → Shared → Prop), Takes (X.tr pn xe) W → PassesOwn (model X.prog X.w) X.A X.env xe → PSs (X.tr pn xe) body (tb W))
    (hsu : ∀ (a : Addr) (oe : Obj) (cls : Value) (d : Option Addr) (pn : List (Addr × Obj)), Zc cls d oe → (∃ vs, oe.data = .fields vs) → PSs (X.suite a ((a, oe) :: pn)) (b0 :: suite) (ts a cls d))
    (d1 : (x1 == ("__debug__" : Str)) = false := by decide) (d2 : (x2 == ("__debug__" : Str)) = false := by decide) (d3 : (x3 == ("__debug__" : Str)) = false := by decide) :
    PS X (.Try body [.ExceptHandler (some (.Tuple [.Name x1 p1, .Name x2 p2, .Name x3 p3] kk tp)) (some n) (b0 :: suite) pos'] [] [] pos) (fun D σ H => tb (wKeep X.K (.ref C1) (.ref C2) (.ref C3) i ts D) D σ H) := by
  refine ⟨fun pins s σ H D I h => ?_⟩
  have ok := I.ok
  have hfr : X.A.frames = some (X.env :: X.outer) := by rw [ok.frames, hs]
  have hloc : Loc X.env.scope n := .inl hln
  refine wpAny_Try_except ?_
  refine wpAny_mono ((hb (wKeep X.K (.ref C1) (.ref C2) (.ref C3) i ts D) (X.pn ++ pins)
    (fun e s1 => wpAny (model X.prog X.w) X.A (noteFrame e X.env) (fun _ s2 => wpAny (model X.prog X.w) X.A (setFlight e none) (fun _ s3 =>
      wpAny (model X.prog X.w) X.A (handleBy e X.env [.ExceptHandler (some (.Tuple [.Name x1 p1, .Name x2 p2, .Name x3 p3] kk tp)) (some n) (b0 :: suite) pos']) (SP X pins D) X.xe s3) X.xe s2) X.xe s1)
    (fun u s' xx => ?_) PassesOwn.looking).run [] s σ H D (I.toTry _) h) (fun fl s1 hsp => ?_) (fun e s1 he => he)
  · obtain ⟨a, B, sI, pins', σ', H', cls, d, rfl, J', nb, up, sky, na, os, ag, hb1, hyes⟩ := xx
    have J : Inv X pins σ' H' sI := J'.ofTry ok
    have sky' : Sky B (X.env :: X.outer) a (Zc cls d) X.env.locals s'.heap := by rw [← hs]; exact sky
    show wpAny (model X.prog X.w) X.A (noteFrame (.ref a) X.env) _ _ _
    refine Sky.land Zc.steady hfr hf sky' fun h3 fl3 up3 => ?_
    have J3 : Inv X pins σ' H' { s' with heap := h3 } := J.landed nb fl3.1 (up.trans up3) os ag
    obtain ⟨oe3, vs3, he3, hz3, hd3⟩ := fl3.there
    have nfr : a ∉ frs (X.env :: X.outer) := fun hm => by
      obtain ⟨_, o', e', hnf⟩ := fl3.2.2.1.mem hm
      rw [he3] at e'
      cases e'
      exact hnf _ hd3
    have nL : a ≠ X.env.locals := fun z => nfr (List.mem_filterMap.mpr ⟨X.env, List.mem_cons_self, by rw [hf, z]⟩)
    have nF : a ∉ X.fs := fun hm => by
      obtain ⟨e, he, q⟩ := List.mem_filterMap.mp hm
      exact nfr (List.mem_filterMap.mpr ⟨e, List.mem_cons_of_mem _ he, q⟩)
    have nI : sI.heap.get? a = none := by
      cases q : sI.heap.get? a with
      | none => rfl
      | some o =>
        have z := nb a o q (by rw [hs]; exact nfr)
        rw [fl3.2.1] at z
        cases z
    have n0 : X.s_0.heap.get? a = none := by
      cases q : X.s_0.heap.get? a with
      | none => rfl
      | some o =>
        obtain ⟨o', z⟩ := J.base.there a o q (by rw [hex]; exact fun z => nomatch z)
        rw [nI] at z
        cases z
    have nP : ∀ p ∈ X.pn ++ pins, p.1 ≠ a := fun p hp z => by
      have q := (J.pin p hp).1
      rw [z, nI] at q
      cases q
    have S3 := J3.suite he3 hd3 na nL nF
    refine wpAny_handleBy_cons (codeAny_handlers_test ?_) (by intro q; cases q)
    have LT : PySem.W.Looks (model X.prog X.w) h3 (typeOf (.ref a)) cls := fun A Q E s k q => wpAny_typeOf_ref (k _ _ he3) (by rw [hz3.1]; exact q)
    have nm : ∀ {x : Str} {C : Addr} {p : Pos} {Q : Value → Shared → Prop} {E : Value → Shared → Prop}, Gl X x → X.mg x = some (.ref C) → (x == ("__debug__" : Str)) = false → Q (.ref C) { s' with heap := h3 } → wpAny (model X.prog X.w) (X.A.mark (some (.ref a))) (eval (.Name x p) X.env) Q E { s' with heap := h3 } :=
      fun {x C p Q E} hg hm hd q => ld_glob (X := X.suite a ((a, oe3) :: (X.pn ++ pins))) S3 hg hm q hd
    refine wpAny_Tuple ?_
    refine wpAny_items_cons (nm g1 m1 d1 ?_)
    refine wpAny_items_cons (nm g2 m2 d2 ?_)
    refine wpAny_items_cons (nm g3 m3 d3 ?_)
    refine wpAny_items_nil ⟨(by show 3 ≤ sizeLine; decide), ?_⟩
    have kp : ∀ q o, h3.get? q = some o → (h3.push { cls := .type "tuple", data := .seq [Value.ref C1, Value.ref C2, Value.ref C3].toArray }).get? q = some o := fun _ _ z => Heap.get?_push_of_some _ z
    refine (PySem.W.exm_tup3 (J3.kIn.keeps kp) (LT.keeps kp) (Heap.get?_push_size h3 rfl) hb1).here ?_
    refine codeAny_handlers_suite_as ?_
    refine HandSPX.lands_againZ (fly_keep fl3 kp) fun h4 fl4 up4 => ?_
    have st : B.StaysIn h4 := fl4.1
    have up3' : sI.heap.UpToSlots (h3.push { cls := .type "tuple", data := .seq [Value.ref C1, Value.ref C2, Value.ref C3].toArray }) := fun b o e n => by
      obtain ⟨sl, z⟩ := (up.trans up3) b o e n
      exact ⟨sl, kp _ _ z⟩
    have J4 : Inv X pins σ' H' { s' with heap := h4 } := J.landed nb st (up3'.trans up4) os ag
    obtain ⟨oe4, vs4, he4, hz4, hd4⟩ := fl4.there
    have S4 := J4.suite he4 hd4 na nL nF
    refine store_ok (X := X.suite a ((a, oe4) :: (X.pn ++ pins))) (v := .ref a) S4 hN hi hloc rfl (fun s5 S5 => ?_) (.inr hln)
    refine wpAny_mono ((hsu a oe4 cls d (X.pn ++ pins) hz4 ⟨_, hd4⟩).run [] s5 _ H' _ S5 (hyes a na)) (fun fl s6 hsp => ?_) (fun _ _ z => False.elim z)
    cases fl with
    | next =>
      obtain ⟨σ6, H6, S6, q6⟩ := hsp
      obtain ⟨e6, n6, _⟩ := S6.pin (a, oe4) (List.mem_append_left _ List.mem_cons_self)
      have T6 := S6.unsuite ok
      have nC : ∀ x c, X.env.cells.lookup x = some c → c ≠ a := fun x c e z => by
        obtain ⟨v, o, ho, hc⟩ := T6.cell x c e
        rw [z] at ho
        have e7 : s6.heap.get? a = some oe4 := e6
        rw [e7] at ho
        cases ho
        rw [hd4] at hc
        cases hc
      have T7 := inv_track (o := exK a cls d) T6 n0 n6 nL nC nP (exK_ok e6 hz4 hd4)
      exact gone_ok T7 hN hi hln fun s7 J7 => ⟨_, _, J7, q6⟩
    | brk =>
      obtain ⟨_, _, _, q6⟩ := hsp
      exact q6.elim
    | cont =>
      obtain ⟨_, _, _, q6⟩ := hsp
      exact q6.elim
    | ret u =>
      obtain ⟨_, _, _, _, _, q6⟩ := hsp
      exact q6.elim
  · cases fl with
    | next =>
      obtain ⟨σ', H', J', q⟩ := hsp
      exact wpAny_execs_nil ⟨σ', H', J'.ofTry ok, q⟩
    | brk =>
      obtain ⟨σ', H', J', q⟩ := hsp
      exact ⟨σ', H', J'.ofTry ok, q⟩
    | cont =>
      obtain ⟨σ', H', J', q⟩ := hsp
      exact ⟨σ', H', J'.ofTry ok, q⟩
    | ret u =>
      obtain ⟨v, σ', H', J', r, q⟩ := hsp
      exact ⟨v, σ', H', J'.ofTry ok, r, q⟩
end
/-- kept.f -/
def tKf (K : PySem.W.Frag) (f : Str) (te : TE) : TE := fun σ H Q => te σ H fun x H1 => ∃ (a C dd : Addr) (fs : List (Str × V)) (v : V), x = .ref a ∧ H1 a = some (exK a (.ref C) (some dd)) ∧ XfC K C ∧ PySem.W.findIn K (.ref C) f = some none ∧ H1 dd = some (.xd fs) ∧ fs.lookup f = some v ∧ Q v H1
theorem pe_kf {X : Cx} {e : Expr} {te : TE} {pos : Pos} {f : Str} (he : PE X e te) (hb : attributeBase e f X.env (eval e X.env) = eval e X.env := by rfl) : PE X (.Attribute e f pos) (tKf X.K f te) := by
  refine ⟨fun pins s σ H Q I h => ?_⟩
  refine attr_of hb (thn (he.run pins s σ H _ I h) fun u s1 hh => ?_)
  obtain ⟨x, H1, I1, rx, a, C, dd, fs, v, ex, ea, T, hno, ed, l, q⟩ := hh
  subst ex
  obtain rfl : u = Value.ref a := rx
  obtain ⟨oe, vs, ho, hz, hd⟩ := exK_at I1.hok ea
  obtain ⟨mA, hns, hr⟩ := (show ObjOk X.prog X.w H1 s1.heap dd (.xd fs) from I1.hok dd _ ed)
  obtain ⟨od, hod, hl⟩ := lookIn_ns hns
  obtain ⟨u, hu, ru⟩ := RelO.some_of (v := v) (o := mA f) (by rw [← l]; exact hr f)
  have J : PySem.W.InstAt s1.heap a oe C (some od) := ⟨ho, hz.1, by unfold PySem.W.notCls; rw [hd] <;> rfl, by rw [hz.2]; exact hod⟩
  exact HandSPX.exc_get I1.kIn J T.ga T.gg T.exC (PySem.W.findObj_own T.hdC hno rfl (by rw [hl, hu])) (handed_of ru) ⟨v, H1, I1.tok _, ru, q⟩
/-- what isinstance asks of the class of a kept error -/
structure IsC (K : PySem.W.Frag) (C : Addr) : Prop where
  cl : (PySem.W.clsIn K C).isSome = true
  ga : PySem.W.findIn K (.ref C) "__getattribute__" = some (some (.builtin "BaseException.__getattribute__"))
  gg : PySem.W.findIn K (.ref C) "__getattr__" = some none
  su : PySem.W.subIn K (.ref C) (.type "BaseException") = some true
  hc : PySem.W.findIn K (.ref C) "__class__" = some (some (.builtin "object.__class__"))
  hn : PySem.W.specialIn K (.builtin "object.__class__") "__get__" = some (some (.builtin "getset_descriptor.__get__"))
  ht : PySem.W.takesIn K (.builtin "object.__class__") = some true
  hm : PySem.W.mroIn K C (.type "object") = some true
/-- isinstance(kept, c) -/
def rIsK (K : PySem.W.Frag) : List V → Hp → VK → Prop := fun xs H Q => ∃ (a C dd : Addr) (fs : List (Str × V)) (c : V) (u : Value) (b : Bool), xs = [.ref a, c] ∧ ClsV c u ∧ H a = some (exK a (.ref C) (some dd)) ∧ H dd = some (.xd fs) ∧ IsC K C ∧ PySem.W.kitOne K (.ref C) u = some b ∧ Q (.bl b) H
theorem call_isK {X : Cx} : CallR X (.builtin "isinstance") (rIsK X.K) := by
  intro pins s σ H xs us Q I r h
  obtain ⟨a, C, dd, fs, c, u, b, rfl, hc, ea, ed, T, e, q⟩ := h
  obtain ⟨u1, u2, rfl, r1, r2⟩ := vals2 r
  have e2 := hc.eq r2
  subst e2
  obtain rfl : u1 = Value.ref a := r1
  obtain ⟨oe, vs, ho, hz, hd⟩ := exK_at I.hok ea
  obtain ⟨mA, hns, hr⟩ := (show ObjOk X.prog X.w H s.heap dd (.xd fs) from I.hok dd _ ed)
  obtain ⟨od, hod, hl⟩ := lookIn_ns hns
  have J : PySem.W.InstAt s.heap a oe C (some od) := ⟨ho, hz.1, by unfold PySem.W.notCls; rw [hd] <;> rfl, by rw [hz.2]; exact hod⟩
  exact PySem.W.kia_one (PySem.W.kitx_exc T.cl T.ga T.gg T.su T.hc T.hn T.ht T.hm) I.kIn J e (fun z => nomatch z) fun tk => ⟨.bl b, H, I.tok tk, rfl, q⟩
end Wp
set_option Elab.async false
set_option linter.all false
set_option maxRecDepth 100000
set_option maxHeartbeats 1000000
namespace Wp
open PySem PySem.Spec PyProof.Rows L2
/-! ### the tree of places -/
def wordD : PyData → Str
  | .tuple (.str w :: _) => w
  | _ => ""
inductive PTr (C : Addr) (H : Hp) : Addr → PyData → Prop
  | mk {x dx pt lp b : Addr} {v : V} {cs : List Addr} {d : PyData} {m : Nat} : H x = some (.ins C dx (plFs pt v (wordD d) lp (waitsW (wordD d) cs.length))) → Dq b H v d → Fm m d → H lp = some (.lst (cs.map V.ref)) → cs.length = (partsD d).length →
      (∀ (k : Nat) (c : Addr) (p : PyData), cs[k]? = some c → (partsD d)[k]? = some p → PTr C H c p) → PTr C H x d
/-! ### what a path tells -/
def stepD (o : Option PyData) (i : Int) : Option PyData :=
  match o with
  | some d => if 0 ≤ i then (partsD d)[i.toNat]? else none
  | none => none
def lkD (d0 : PyData) (js : List Int) : Option PyData := js.foldl stepD (some d0)
theorem lkD_snoc (d0 : PyData) (js : List Int) (i : Int) : lkD d0 (js ++ [i]) = stepD (lkD d0 js) i := by
  unfold lkD
  rw [List.foldl_append]
  rfl
theorem lkD_kid {d0 d : PyData} {js : List Int} (h : lkD d0 js = some d) (k : Nat) : lkD d0 (js ++ [((k : Nat) : Int)]) = (partsD d)[k]? := by
  rw [lkD_snoc, h]
  show (if (0 : Int) ≤ (k : Int) then (partsD d)[(k : Int).toNat]? else none) = _
  rw [Int.toNat_natCast]
  exact if_pos (Int.natCast_nonneg k)
theorem kidsF_in {js : List Int} {m : Nat} {e : List Int × PyData × Nat} : ∀ {i : Nat} {ps : List PyData}, e ∈ kidsF js m i ps → ∃ j p, ps[j]? = some p ∧ e = (js ++ [((i + j : Nat) : Int)], p, m)
  | _, [], h => by simp [kidsF] at h
  | i, p :: ps, h => by
    rw [kidsF] at h
    rcases List.mem_cons.mp h with z | z
    · exact ⟨0, p, rfl, z⟩
    · obtain ⟨j, q, h1, h2⟩ := kidsF_in z
      exact ⟨j + 1, q, by simpa using h1, by rw [h2]; rw [show i + 1 + j = i + (j + 1) by omega]⟩
theorem lk_preE {d0 : PyData} : ∀ (k : Nat) (js : List Int) (d : PyData), lkD d0 js = some d → ∀ e ∈ preE k js d, lkD d0 e.1 = some e.2
  | 0, _, _, _ => by simp [preE]
  | k + 1, js, d, h => by
    rw [preE]
    intro e he
    rcases List.mem_cons.mp he with z | z
    · rw [z]; exact h
    · obtain ⟨y, hy, hx⟩ := List.mem_flatMap.mp z
      obtain ⟨j, p, hp, ey⟩ := kidsF_in hy
      refine lk_preE k y.1 y.2.1 ?_ e hx
      rw [ey, Nat.zero_add]
      rw [lkD_kid h]
      exact hp
theorem ints_inj {js ks : List Int} (h : js.map V.int = ks.map V.int) : js = ks := by
  have h2 := congrArg (List.map fun v : V => match v with | .int i => i | _ => 0) h
  rw [List.map_map, List.map_map] at h2
  simpa [Function.comp_def] using h2
/-- every told place is the tree of its term -/
theorem tree_of {C : Addr} {H1 H : Hp} {T : List Addr} {n : Nat} {d0 : PyData} (full : All2 (FullAt C H1 H) T (preE (n + 1) [] d0))
    (kin : ∀ y ∈ T, ∀ dx pt v z lp k (cs : List Addr), H y = some (.ins C dx (plFs pt v z lp k)) → H lp = some (.lst (cs.map V.ref)) → ∀ c ∈ cs, c ∈ T) :
    ∀ (m : Nat) (j : Nat) (x : Addr) (e : List Int × PyData), T[j]? = some x → (preE (n + 1) [] d0)[j]? = some e → Fm m e.2 → PTr C H x e.2 := by
  intro m
  induction m with
  | zero => intro j x e _ _ h; cases h
  | succ m ih =>
    intro j x e hx he hm
    obtain ⟨e', he', v, z, its, lp, cs, ⟨dx, pt, k, h1, h2⟩, q, _, l, lc, r, ⟨b0, m0, dq, tm⟩, hw⟩ := full.get hx
    have ee : e' = e := Option.some.inj (he'.symm.trans he)
    subst ee
    have wz : wordD e'.2 = z := by rw [q]; rfl
    have hk := hw _ _ _ _ _ _ h1
    refine .mk (by rw [wz, ← hk]; exact h1) dq tm l lc fun i c p hc hp => ?_
    have hcT := kin x (List.mem_of_getElem? hx) _ _ _ _ _ _ cs h1 l c (List.mem_of_getElem? hc)
    obtain ⟨j2, hj2⟩ := List.mem_iff_getElem?.mp hcT
    obtain ⟨e2, he2, v2, z2, its2, lp2, cs2, ⟨dx2, pt2, k2, g1, g2⟩, _⟩ := full.get hj2
    obtain ⟨v3, z3, lp3, dx3, pt3, k3, f1, f2⟩ := r i c hc
    rw [g1] at f1
    have ep : pt2 = pt3 := by
      have ev := (HO.ins.inj (Option.some.inj f1)).2.2
      have q := congrArg (fun l : List (Str × V) => l.head?.map (·.2)) ev
      simpa [plFs] using q
    rw [← ep, g2] at f2
    have ejs : e2.1 = e'.1 ++ [((i : Nat) : Int)] := ints_inj (HO.tup.inj (Option.some.inj f2))
    have l1 := lk_preE (d0 := d0) (n + 1) [] d0 rfl e2 (List.mem_of_getElem? he2)
    have l2 := lk_preE (d0 := d0) (n + 1) [] d0 rfl e' (List.mem_of_getElem? he)
    rw [ejs, lkD_kid l2, hp] at l1
    have e2p : p = e2.2 := Option.some.inj l1
    have hf : Fm m p := by
      obtain ⟨_, em, t⟩ := fm_part hm (List.mem_of_getElem? hp)
      have : m = _ := Nat.succ.inj em
      rw [this]
      exact t
    rw [e2p] at hf ⊢
    exact ih j2 c e2 hj2 he2 hf
/-- what a tree rests on is kept -/
theorem PTr.keep {C : Addr} {H H' : Hp} (k1 : ∀ b dx fs, H b = some (.ins C dx fs) → H' b = some (.ins C dx fs)) (k2 : Tp H H') (k3 : ∀ b xs, H b = some (.lst xs) → H' b = some (.lst xs)) {x : Addr} {d : PyData} (h : PTr C H x d) : PTr C H' x d := by
  induction h with
  | mk h1 h2 h3 h4 h5 _ ih => exact .mk (k1 _ _ _ h1) (h2.tp k2) h3 (k3 _ _ h4) h5 ih
end Wp
set_option Elab.async false
set_option linter.all false
set_option maxRecDepth 100000
set_option maxHeartbeats 1000000
namespace Wp
open PySem PySem.Spec PyProof.Rows L2
-- placed: slots term 0
abbrev splaced : Stmt := top 49
theorem scplaced : FnScope ["term"] ["term"] (defScope splaced) := ⟨rfl, rfl, rfl, by decide +kernel, rfl, by decide +kernel, by decide +kernel⟩
abbrev slplaced : List Str := ["term"]
-- Pair___init__: slots self 0, first 1, rest 2
abbrev sPair___init__ : Stmt := inClass (top 10) 0
theorem scPair___init__ : FnScope ["self", "first", "rest"] ["self", "first", "rest"] (defScope sPair___init__) := ⟨rfl, rfl, rfl, by decide +kernel, rfl, by decide +kernel, by decide +kernel⟩
abbrev slPair___init__ : List Str := ["self", "first", "rest"]
-- Fun___init__: slots self 0, place 1, env 2
abbrev sFun___init__ : Stmt := inClass (top 11) 0
theorem scFun___init__ : FnScope ["self", "place", "env"] ["self", "place", "env"] (defScope sFun___init__) := ⟨rfl, rfl, rfl, by decide +kernel, rfl, by decide +kernel, by decide +kernel⟩
abbrev slFun___init__ : List Str := ["self", "place", "env"]
-- Cell___init__: slots self 0, held 1
abbrev sCell___init__ : Stmt := inClass (top 12) 0
theorem scCell___init__ : FnScope ["self", "held"] ["self", "held"] (defScope sCell___init__) := ⟨rfl, rfl, rfl, by decide +kernel, rfl, by decide +kernel, by decide +kernel⟩
abbrev slCell___init__ : List Str := ["self", "held"]
-- Point___init__: slots self 0, held 1
abbrev sPoint___init__ : Stmt := inClass (top 13) 0
theorem scPoint___init__ : FnScope ["self", "held"] ["self", "held"] (defScope sPoint___init__) := ⟨rfl, rfl, rfl, by decide +kernel, rfl, by decide +kernel, by decide +kernel⟩
abbrev slPoint___init__ : List Str := ["self", "held"]
-- Part___init__: slots self 0, held 1
abbrev sPart___init__ : Stmt := inClass (top 14) 0
theorem scPart___init__ : FnScope ["self", "held"] ["self", "held"] (defScope sPart___init__) := ⟨rfl, rfl, rfl, by decide +kernel, rfl, by decide +kernel, by decide +kernel⟩
abbrev slPart___init__ : List Str := ["self", "held"]
-- Node___init__: slots self 0, frame 1, outer 2
abbrev sNode___init__ : Stmt := inClass (top 79) 0
theorem scNode___init__ : FnScope ["self", "frame", "outer"] ["self", "frame", "outer"] (defScope sNode___init__) := ⟨rfl, rfl, rfl, by decide +kernel, rfl, by decide +kernel, by decide +kernel⟩
abbrev slNode___init__ : List Str := ["self", "frame", "outer"]
-- HeapFrames___init__: slots self 0
abbrev sHeapFrames___init__ : Stmt := inClass (top 80) 0
theorem scHeapFrames___init__ : FnScope ["self"] ["self"] (defScope sHeapFrames___init__) := ⟨rfl, rfl, rfl, by decide +kernel, rfl, by decide +kernel, by decide +kernel⟩
abbrev slHeapFrames___init__ : List Str := ["self"]
-- HeapFrames_push: slots self 0, frame 1
abbrev sHeapFrames_push : Stmt := inClass (top 80) 1
theorem scHeapFrames_push : FnScope ["self", "frame"] ["self", "frame"] (defScope sHeapFrames_push) := ⟨rfl, rfl, rfl, by decide +kernel, rfl, by decide +kernel, by decide +kernel⟩
abbrev slHeapFrames_push : List Str := ["self", "frame"]
-- HeapFrames_pull: slots self 0, frame 1
abbrev sHeapFrames_pull : Stmt := inClass (top 80) 2
theorem scHeapFrames_pull : FnScope ["self", "frame"] ["self"] (defScope sHeapFrames_pull) := ⟨rfl, rfl, rfl, by decide +kernel, rfl, by decide +kernel, by decide +kernel⟩
abbrev slHeapFrames_pull : List Str := ["self", "frame"]
-- HeapFrames_many: slots self 0
abbrev sHeapFrames_many : Stmt := inClass (top 80) 3
theorem scHeapFrames_many : FnScope ["self"] ["self"] (defScope sHeapFrames_many) := ⟨rfl, rfl, rfl, by decide +kernel, rfl, by decide +kernel, by decide +kernel⟩
abbrev slHeapFrames_many : List Str := ["self"]
def spPlacedT (C : Addr) : Sp := fun vs H Q _ => ∃ (a : Addr) (v : V) (d : PyData) (n : Nat), vs = [v] ∧ Dq a H v d ∧ Fm n d ∧ n ≤ 100 ∧ cw d ≤ 20000 ∧ ∀ x H', Same H H' → PTr C H' x d → Q (.ref x) H'
/-- a class whose instances have these fields -/
structure TxC (K : PySem.W.Frag) (C : Addr) (fs : List Str) : Prop where
  cl : Cls K C
  no : ∀ f ∈ fs, NoAttr K C f
section
variable {P : Program} {w : World} {K : PySem.W.Frag} {mg : Str → Option Value} {base : Heap} {f C : Addr} {fd : FuncData}
theorem ok_placedT (F : Fun K "placed" "placed" splaced f fd) (Gall_places : Has P w K mg base "all_places" ["term"] 4 (spAll C)) : FnOk P w K mg base CX0 5 f fd ["term"] (spPlacedT C) := by
  refine F.ok scplaced (fun vs H Q E h => ?_) (fun cdv A outer s H vs Q E hr h => ?_)
  · obtain ⟨a, v, d, n, rfl, _⟩ := h
    rfl
  obtain ⟨a, v, d, n, rfl, hd, tm, hn, hc, q⟩ := h
  refine ⟨_, (pss_one (ps_ret (pe_ix ix_list (pe_has Gall_places (hr.mono (by omega)) (pa_cons (pv 0) pa_nil)) pe_int (fun _ _ => rfl)))), ?_⟩
  refine ⟨_, rfl, a, v, d, n, rfl, hd, tm, hn, hc, fun PL T H1 H2 s2 dom nPL hPL full kin => ?_⟩
  have e0 : (preE (n + 1) [] d)[0]? = some ([], d) := by rw [preE]; rfl
  have lT := full.len
  have l0 : 0 < T.length := by
    rw [lT, preE]
    exact Nat.succ_pos _
  have h0 : T[0]? = some T[0] := List.getElem?_eq_getElem l0
  have tr := tree_of full kin n 0 _ _ h0 e0 tm
  refine ⟨PL, _, 0, _, rfl, rfl, SqL.of hPL, atI_nat (j := 0) (by rw [List.getElem?_map, h0]; rfl), ?_⟩
  exact q _ H2 s2 tr
end
end Wp
set_option Elab.async false
set_option linter.all false
set_option maxRecDepth 100000
set_option maxHeartbeats 1000000
namespace Wp
open PySem PySem.Spec PyProof.Rows L2
/-! ### new instances -/
def spIni (C : Addr) (fs : List Str) : Sp := fun vs H Q _ => ∃ (x dx : Addr) (ws : List V), vs = .ref x :: ws ∧ ws.length = fs.length ∧ H x = some (.ins C dx []) ∧ ∀ H', H' x = some (.ins C dx (fs.zip ws)) → (∀ b, b ≠ x → H' b = H b) → Q .non H'
/-- a new object at x: all else is kept -/
def NewO (C : Addr) (fs : List (Str × V)) (H : Hp) (Q : VK) : Prop := ∀ (x dx : Addr) (H' : Hp), H x = none → H dx = none → x ≠ dx → H' x = some (.ins C dx fs) → Same H H' → (∀ b, b ≠ x → b ≠ dx → H' b = H b) → Q (.ref x) H'
theorem new_ini {C : Addr} {fs : List Str} {ws : List V} {H : Hp} {Q : VK} {E : XK} (hl : ws.length = fs.length) (q : NewO C (fs.zip ws) H Q) : ∀ x dx, H x = none → H dx = none → dx ≠ x → spIni C fs (.ref x :: (ws ++ [])) (upd (upd H dx (.own x)) x (.ins C dx [])) (fun u H2 => u = .non ∧ Q (.ref x) H2) E := by
  intro x dx nx nd ne
  rw [List.append_nil]
  refine ⟨x, dx, ws, rfl, hl, upd_same, fun H' h1 h2 => ⟨rfl, q x dx H' nx nd ne.symm h1 (fun b o e => ?_) fun b b1 b2 => ?_⟩⟩
  · rw [h2 b (ne_of_none e nx), upd_ne (ne_of_none e nx), upd_ne (ne_of_none e nd)]
    exact e
  · rw [h2 b b1, upd_ne b1, upd_ne b2]
section
variable {P : Program} {w : World} {K : PySem.W.Frag} {mg : Str → Option Value} {base : Heap} {f C N : Addr} {fd : FuncData}
theorem ok_pair (F : Fun K "__init__" "Pair.__init__" sPair___init__ f fd) (T : TxC K C ["first", "rest"]) : FnOk P w K mg base CX0 1 f fd ["self", "first", "rest"] (spIni C ["first", "rest"]) := by
  refine F.ok scPair___init__ (fun vs H Q E h => ?_) (fun cdv A outer s H vs Q E hr h => ?_)
  · obtain ⟨x, dx, ws, rfl, hl, _⟩ := h
    rw [List.length_cons, hl]
    rfl
  obtain ⟨x, dx, ws, rfl, hl, hx, q⟩ := h
  match ws, hl with
  | [v0, v1], _ =>
  refine ⟨_, (pss_cons (ps_fld (pv 0) (pv 1) rfl)
  (pss_one (ps_fld (pv 0) (pv 2) rfl))), ?_⟩
  refine ⟨_, rfl, _, rfl, x, C, dx, _, rfl, hx, T.cl, T.no _ (by decide), (by show 0 < 1000; decide), ?_⟩
  refine ⟨_, rfl, _, rfl, x, C, dx, _, rfl, upd_same, T.cl, T.no _ (by decide), (by show 1 < 1000; decide), ?_⟩
  exact q _ upd_same fun b hb => by rw [upd_ne hb, upd_ne hb]
theorem ok_fun (F : Fun K "__init__" "Fun.__init__" sFun___init__ f fd) (T : TxC K C ["place", "env"]) : FnOk P w K mg base CX0 1 f fd ["self", "place", "env"] (spIni C ["place", "env"]) := by
  refine F.ok scFun___init__ (fun vs H Q E h => ?_) (fun cdv A outer s H vs Q E hr h => ?_)
  · obtain ⟨x, dx, ws, rfl, hl, _⟩ := h
    rw [List.length_cons, hl]
    rfl
  obtain ⟨x, dx, ws, rfl, hl, hx, q⟩ := h
  match ws, hl with
  | [v0, v1], _ =>
  refine ⟨_, (pss_cons (ps_fld (pv 0) (pv 1) rfl)
  (pss_one (ps_fld (pv 0) (pv 2) rfl))), ?_⟩
  refine ⟨_, rfl, _, rfl, x, C, dx, _, rfl, hx, T.cl, T.no _ (by decide), (by show 0 < 1000; decide), ?_⟩
  refine ⟨_, rfl, _, rfl, x, C, dx, _, rfl, upd_same, T.cl, T.no _ (by decide), (by show 1 < 1000; decide), ?_⟩
  exact q _ upd_same fun b hb => by rw [upd_ne hb, upd_ne hb]
theorem ok_cell (F : Fun K "__init__" "Cell.__init__" sCell___init__ f fd) (T : TxC K C ["held"]) : FnOk P w K mg base CX0 1 f fd ["self", "held"] (spIni C ["held"]) := by
  refine F.ok scCell___init__ (fun vs H Q E h => ?_) (fun cdv A outer s H vs Q E hr h => ?_)
  · obtain ⟨x, dx, ws, rfl, hl, _⟩ := h
    rw [List.length_cons, hl]
    rfl
  obtain ⟨x, dx, ws, rfl, hl, hx, q⟩ := h
  match ws, hl with
  | [v0], _ =>
  refine ⟨_, (pss_one (ps_fld (pv 0) (pv 1) rfl)), ?_⟩
  refine ⟨_, rfl, _, rfl, x, C, dx, _, rfl, hx, T.cl, T.no _ (by decide), (by show 0 < 1000; decide), ?_⟩
  exact q _ upd_same fun b hb => by rw [upd_ne hb]
theorem ok_point (F : Fun K "__init__" "Point.__init__" sPoint___init__ f fd) (T : TxC K C ["held"]) : FnOk P w K mg base CX0 1 f fd ["self", "held"] (spIni C ["held"]) := by
  refine F.ok scPoint___init__ (fun vs H Q E h => ?_) (fun cdv A outer s H vs Q E hr h => ?_)
  · obtain ⟨x, dx, ws, rfl, hl, _⟩ := h
    rw [List.length_cons, hl]
    rfl
  obtain ⟨x, dx, ws, rfl, hl, hx, q⟩ := h
  match ws, hl with
  | [v0], _ =>
  refine ⟨_, (pss_one (ps_fld (pv 0) (pv 1) rfl)), ?_⟩
  refine ⟨_, rfl, _, rfl, x, C, dx, _, rfl, hx, T.cl, T.no _ (by decide), (by show 0 < 1000; decide), ?_⟩
  exact q _ upd_same fun b hb => by rw [upd_ne hb]
theorem ok_part (F : Fun K "__init__" "Part.__init__" sPart___init__ f fd) (T : TxC K C ["held"]) : FnOk P w K mg base CX0 1 f fd ["self", "held"] (spIni C ["held"]) := by
  refine F.ok scPart___init__ (fun vs H Q E h => ?_) (fun cdv A outer s H vs Q E hr h => ?_)
  · obtain ⟨x, dx, ws, rfl, hl, _⟩ := h
    rw [List.length_cons, hl]
    rfl
  obtain ⟨x, dx, ws, rfl, hl, hx, q⟩ := h
  match ws, hl with
  | [v0], _ =>
  refine ⟨_, (pss_one (ps_fld (pv 0) (pv 1) rfl)), ?_⟩
  refine ⟨_, rfl, _, rfl, x, C, dx, _, rfl, hx, T.cl, T.no _ (by decide), (by show 0 < 1000; decide), ?_⟩
  exact q _ upd_same fun b hb => by rw [upd_ne hb]
/-! ### the waiting frames -/
structure Fr where
  x : Addr
  en : Addr
  ws : List V
/-- a frame: the tuple at t -/
def FrAt (H : Hp) (t : Addr) (fr : Fr) : Prop := ∃ tw, H t = some (.tup [.str "wait", .ref fr.x, .ref fr.en, .ref tw]) ∧ H tw = some (.tup fr.ws)
abbrev nodeFs (t : Addr) (o : V) (h : Nat) : List (Str × V) := [("frame", .ref t), ("outer", o), ("height", .int ((h + 1 : Nat) : Int)), ("wind", .non)]
inductive Ch (N : Addr) (H : Hp) : V → List Fr → Prop
  | nil : Ch N H .non []
  | cons {o dx t : Addr} {v : V} {fr : Fr} {frs : List Fr} : H o = some (.ins N dx (nodeFs t v frs.length)) → FrAt H t fr → Ch N H v frs → Ch N H (.ref o) (fr :: frs)
theorem FrAt.tp {H H' : Hp} {t : Addr} {fr : Fr} (h : FrAt H t fr) (k : Tp H H') : FrAt H' t fr := by
  obtain ⟨tw, h1, h2⟩ := h
  exact ⟨tw, k _ _ h1, k _ _ h2⟩
theorem Ch.keep {N : Addr} {H H' : Hp} {v : V} {frs : List Fr} (h : Ch N H v frs) (k1 : ∀ b dx fs, H b = some (.ins N dx fs) → H' b = some (.ins N dx fs)) (k2 : Tp H H') : Ch N H' v frs := by
  induction h with
  | nil => exact .nil
  | cons h1 h2 _ ih => exact .cons (k1 _ _ _ h1) (h2.tp k2) ih
def spNode (N : Addr) : Sp := fun vs H Q _ => ∃ (x dx t : Addr) (v : V) (fr : Fr) (frs : List Fr), vs = [.ref x, .ref t, v] ∧ H x = some (.ins N dx []) ∧ FrAt H t fr ∧ Ch N H v frs ∧ (∀ b, v = .ref b → b ≠ x) ∧ ∀ H', H' x = some (.ins N dx (nodeFs t v frs.length)) → (∀ b, b ≠ x → H' b = H b) → Q .non H'
theorem ok_node (F : Fun K "__init__" "Node.__init__" sNode___init__ f fd) (T : TxC K N ["frame", "outer", "height", "wind"]) : FnOk P w K mg base CX0 1 f fd ["self", "frame", "outer"] (spNode N) := by
  refine F.ok scNode___init__ (fun vs H Q E h => ?_) (fun cdv A outer s H vs Q E hr h => ?_)
  · obtain ⟨x, dx, t, v, fr, frs, rfl, _⟩ := h
    rfl
  obtain ⟨x, dx, t, v, fr, frs, rfl, hx, ht, hch, hne, q⟩ := h
  refine ⟨_, (pss_cons (ps_fld (pv 0) (pv 1) rfl)
  (pss_cons (ps_fld (pv 0) (pv 2) rfl)
  (pss_cons (ps_fld (pv 0) (pe_ifExp (pt_cmpR op_isN (pv 2) pe_non (nomark _)) pe_int (pe_op op_add (pe_fld (pv 2) rfl) pe_int)) rfl)
  (pss_one (ps_if (pt_cmpR op_eq (pe_ix ix_tup (pv 1) pe_int (fun _ _ => rfl)) pe_str (nomark _)) (pss_one (ps_fld (pv 0) (pv 0) rfl)) (pss_one (ps_fld (pv 0) (pe_ifExp (pt_cmpR op_isN (pv 2) pe_non (nomark _)) pe_non (pe_fld (pv 2) rfl)) rfl))))))), ?_⟩
  obtain ⟨tw, ht1, ht2⟩ := ht
  have ntx : t ≠ x := ne_of ht1 hx (by intro z; cases z)
  refine ⟨_, rfl, _, rfl, x, N, dx, _, rfl, hx, T.cl, T.no _ (by decide), (by show 0 < 1000; decide), ?_⟩
  refine ⟨_, rfl, _, rfl, x, N, dx, _, rfl, upd_same, T.cl, T.no _ (by decide), (by show 1 < 1000; decide), ?_⟩
  have nw : ¬ decide (V.str "wait" = V.str "wind") = true := by decide
  cases hch with
  | nil =>
    refine ⟨_, rfl, rfl, _, rfl, ?_⟩
    refine ite2 (fun _ => ?_) (fun c => absurd (by simp) c)
    refine ⟨_, rfl, x, N, dx, _, rfl, upd_same, T.cl, T.no _ (by decide), (by show 2 < 1000; decide), ?_⟩
    refine ⟨_, rfl, t, _, 0, _, rfl, rfl, SqT.of (by rw [upd_ne ntx, upd_ne ntx, upd_ne ntx]; exact ht1), atI_nat (j := 0) rfl, rfl, _, rfl, ?_⟩
    refine ite2 (fun c => absurd c nw) (fun _ => ?_)
    refine ⟨_, rfl, rfl, _, rfl, ?_⟩
    refine ite2 (fun _ => ?_) (fun c => absurd (by simp) c)
    refine ⟨_, rfl, x, N, dx, _, rfl, upd_same, T.cl, T.no _ (by decide), (by show 3 < 1000; decide), ?_⟩
    exact q _ upd_same fun b hb => by rw [upd_ne hb, upd_ne hb, upd_ne hb, upd_ne hb]
  | @cons o dxo to vo fr2 frs2 ho hfr hch2 =>
    have nox : o ≠ x := hne o rfl
    refine ⟨_, rfl, rfl, _, rfl, ?_⟩
    refine ite2 (fun c => absurd c (by simp)) (fun _ => ?_)
    refine ⟨_, rfl, o, N, dxo, _, _, rfl, by rw [upd_ne nox, upd_ne nox]; exact ho, T.cl, T.no _ (by decide), rfl, _, _, rfl, rfl, _, rfl, x, N, dx, _, rfl, upd_same, T.cl, T.no _ (by decide), (by show 2 < 1000; decide), ?_⟩
    refine ⟨_, rfl, t, _, 0, _, rfl, rfl, SqT.of (by rw [upd_ne ntx, upd_ne ntx, upd_ne ntx]; exact ht1), atI_nat (j := 0) rfl, rfl, _, rfl, ?_⟩
    refine ite2 (fun c => absurd c nw) (fun _ => ?_)
    refine ⟨_, rfl, rfl, _, rfl, ?_⟩
    refine ite2 (fun c => absurd c (by simp)) (fun _ => ?_)
    refine ⟨_, rfl, o, N, dxo, _, _, rfl, by rw [upd_ne nox, upd_ne nox, upd_ne nox]; exact ho, T.cl, T.no _ (by decide), rfl, _, rfl, x, N, dx, _, rfl, upd_same, T.cl, T.no _ (by decide), (by show 3 < 1000; decide), ?_⟩
    refine q _ ?_ fun b hb => by rw [upd_ne hb, upd_ne hb, upd_ne hb, upd_ne hb]
    rw [upd_same]
    rfl
/-- the frames' object, holding this row of frames -/
def FsAt (F N : Addr) (H : Hp) (f : Addr) (frs : List Fr) : Prop := ∃ (dx : Addr) (v : V), H f = some (.ins F dx [("top", v)]) ∧ Ch N H v frs
def spFini (F : Addr) : Sp := fun vs H Q _ => ∃ (x dx : Addr), vs = [.ref x] ∧ H x = some (.ins F dx []) ∧ Q .non (upd H x (.ins F dx [("top", .non)]))
theorem ok_fini {Fc : Addr} (F : Fun K "__init__" "HeapFrames.__init__" sHeapFrames___init__ f fd) (T : TxC K Fc ["top"]) : FnOk P w K mg base CX0 1 f fd ["self"] (spFini Fc) := by
  refine F.ok scHeapFrames___init__ (fun vs H Q E h => ?_) (fun cdv A outer s H vs Q E hr h => ?_)
  · obtain ⟨x, dx, rfl, _⟩ := h
    rfl
  obtain ⟨x, dx, rfl, hx, q⟩ := h
  refine ⟨_, (pss_one (ps_fld (pv 0) pe_non rfl)), ?_⟩
  exact ⟨_, rfl, x, Fc, dx, _, rfl, hx, T.cl, T.no _ (by decide), (by show 0 < 1000; decide), q⟩
def spMany (Fc N : Addr) : Sp := fun vs H Q _ => ∃ (x : Addr) (frs : List Fr), vs = [.ref x] ∧ FsAt Fc N H x frs ∧ Q (.int (frs.length : Nat)) H
theorem ok_many {Fc : Addr} (F : Fun K "many" "HeapFrames.many" sHeapFrames_many f fd) (T : TxC K Fc ["top"]) (TN : TxC K N ["frame", "outer", "height", "wind"]) : FnOk P w K mg base CX0 1 f fd ["self"] (spMany Fc N) := by
  refine F.ok scHeapFrames_many (fun vs H Q E h => ?_) (fun cdv A outer s H vs Q E hr h => ?_)
  · obtain ⟨x, frs, rfl, _⟩ := h
    rfl
  obtain ⟨x, frs, rfl, ⟨dx, v, hx, hch⟩, q⟩ := h
  refine ⟨_, (pss_one (ps_ret (pe_ifExp (pt_cmpR op_isN (pe_fld (pv 0) rfl) pe_non (nomark _)) pe_int (pe_fld (pe_fld (pv 0) rfl) rfl)))), ?_⟩
  refine ⟨_, rfl, x, Fc, dx, _, _, rfl, hx, T.cl, T.no _ (by decide), rfl, rfl, _, rfl, ?_⟩
  cases hch with
  | nil => exact ite2 (fun _ => q) (fun c => absurd (by simp) c)
  | @cons o dxo to vo fr2 frs2 ho hfr hch2 =>
    refine ite2 (fun c => absurd c (by simp)) (fun _ => ?_)
    exact ⟨_, rfl, x, Fc, dx, _, _, rfl, hx, T.cl, T.no _ (by decide), rfl, o, N, dxo, _, _, rfl, ho, TN.cl, TN.no _ (by decide), rfl, q⟩
def spPush (Fc N : Addr) : Sp := fun vs H Q _ => ∃ (x t : Addr) (fr : Fr) (frs : List Fr), vs = [.ref x, .ref t] ∧ FsAt Fc N H x frs ∧ FrAt H t fr ∧ ∀ H', FsAt Fc N H' x (fr :: frs) → (∀ b o, b ≠ x → H b = some o → H' b = some o) → Q .non H'
theorem ok_push {Fc : Addr} (F : Fun K "push" "HeapFrames.push" sHeapFrames_push f fd) (hFN : Fc ≠ N) (T : TxC K Fc ["top"]) (CNode : HasC P w K mg base "Node" N ["self", "frame", "outer"] 1 (spNode N)) : FnOk P w K mg base CX0 3 f fd ["self", "frame"] (spPush Fc N) := by
  refine F.ok scHeapFrames_push (fun vs H Q E h => ?_) (fun cdv A outer s H vs Q E hr h => ?_)
  · obtain ⟨x, t, fr, frs, rfl, _⟩ := h
    rfl
  obtain ⟨x, t, fr, frs, rfl, ⟨dx, v, hx, hch⟩, hfr, q⟩ := h
  refine ⟨_, (pss_one (ps_fld (pv 0) (pe_hasC CNode (hr.mono (by omega)) (pa_cons (pv 1) (pa_cons (pe_fld (pv 0) rfl) pa_nil))) rfl)), ?_⟩
  refine ⟨_, rfl, _, rfl, x, Fc, dx, _, _, rfl, hx, T.cl, T.no _ (by decide), rfl, fun y dy hy hdy ne => ?_⟩
  have s1 : Same H (upd (upd H dy (.own y)) y (.ins N dy [])) := fun b o e => by
    rw [upd_ne (ne_of_none e hy), upd_ne (ne_of_none e hdy)]
    exact e
  refine ⟨y, dy, t, v, fr, frs, rfl, upd_same, hfr.tp (fun b xs e => s1 _ _ e), hch.keep (fun b dx fs e => s1 _ _ e) (fun b xs e => s1 _ _ e), fun b hb => ?_, fun H' h1 h2 => ⟨rfl, ?_⟩⟩
  · subst hb
    cases hch with
    | cons ho _ _ => exact ne_of_none ho hy
  have s2 : Same H H' := fun b o e => by
    rw [h2 b (ne_of_none e hy)]
    exact s1 _ _ e
  have nxy : x ≠ y := ne_of_none hx hy
  refine ⟨_, rfl, x, Fc, dx, _, rfl, s2 _ _ hx, T.cl, T.no _ (by decide), (by show 1 < 1000; decide), ?_⟩
  have ev : putF ("top" : Str) (V.ref y) [(("top" : Str), v)] = [(("top" : Str), V.ref y)] := rfl
  rw [ev]
  have kT : Tp H (upd H' x (.ins Fc dx [("top", .ref y)])) := fun b xs e => by rw [upd_ne (ne_of e hx (by intro z; cases z))]; exact s2 _ _ e
  have kN : ∀ b dx2 fs, H b = some (.ins N dx2 fs) → upd H' x (.ins Fc dx [("top", .ref y)]) b = some (.ins N dx2 fs) := fun b dx2 fs e => by
    rw [upd_ne (fun z => by rw [z, hx] at e; exact hFN (HO.ins.inj (Option.some.inj e)).1)]
    exact s2 _ _ e
  refine q _ ⟨dx, .ref y, upd_same, .cons (by rw [upd_ne nxy.symm]; exact h1) (hfr.tp kT) (hch.keep kN kT)⟩ fun b o nb e => by rw [upd_ne nb]; exact s2 _ _ e
def spPull (Fc N : Addr) : Sp := fun vs H Q _ => ∃ (x : Addr) (fr : Fr) (frs : List Fr), vs = [.ref x] ∧ FsAt Fc N H x (fr :: frs) ∧ ∀ t H', FrAt H' t fr → FsAt Fc N H' x frs → (∀ b, b ≠ x → H' b = H b) → Q (.ref t) H'
theorem ok_pull {Fc : Addr} (F : Fun K "pull" "HeapFrames.pull" sHeapFrames_pull f fd) (hFN : Fc ≠ N) (T : TxC K Fc ["top"]) (TN : TxC K N ["frame", "outer", "height", "wind"]) : FnOk P w K mg base CX0 1 f fd ["self"] (spPull Fc N) := by
  refine F.ok scHeapFrames_pull (fun vs H Q E h => ?_) (fun cdv A outer s H vs Q E hr h => ?_)
  · obtain ⟨x, fr, frs, rfl, _⟩ := h
    rfl
  obtain ⟨x, fr, frs, rfl, ⟨dx, v, hx, hch⟩, q⟩ := h
  refine ⟨_, (pss_cons (ps_set (i := 1) scHeapFrames_pull.nd rfl (.inl rfl) (pe_fld (pe_fld (pv 0) rfl) rfl))
  (pss_cons (ps_fld (pv 0) (pe_fld (pe_fld (pv 0) rfl) rfl) rfl)
  (pss_one (ps_ret (pv 1))))), ?_⟩
  cases hch with
  | @cons o dxo t vo _ _ ho hfr hch2 =>
    refine ⟨_, rfl, x, Fc, dx, _, _, rfl, hx, T.cl, T.no _ (by decide), rfl, o, N, dxo, _, _, rfl, ho, TN.cl, TN.no _ (by decide), rfl, ?_⟩
    refine ⟨_, rfl, x, Fc, dx, _, _, rfl, hx, T.cl, T.no _ (by decide), rfl, o, N, dxo, _, _, rfl, ho, TN.cl, TN.no _ (by decide), rfl, _, rfl, x, Fc, dx, _, rfl, hx, T.cl, T.no _ (by decide), (by show 1 < 1000; decide), ?_⟩
    have ev : putF ("top" : Str) vo [(("top" : Str), V.ref o)] = [(("top" : Str), vo)] := rfl
    rw [ev]
    have kT : Tp H (upd H x (.ins Fc dx [("top", vo)])) := fun b xs e => by rw [upd_ne (ne_of e hx (by intro z; cases z))]; exact e
    have kN : ∀ b dx2 fs, H b = some (.ins N dx2 fs) → upd H x (.ins Fc dx [("top", vo)]) b = some (.ins N dx2 fs) := fun b dx2 fs e => by
      rw [upd_ne (fun z => by rw [z, hx] at e; exact hFN (HO.ins.inj (Option.some.inj e)).1)]
      exact e
    exact ⟨_, rfl, q t _ (hfr.tp kT) ⟨dx, vo, upd_same, hch2.keep kN kT⟩ fun b hb => upd_ne hb⟩
end
end Wp
set_option Elab.async false
set_option linter.all false
set_option maxRecDepth 100000
set_option maxHeartbeats 1000000
namespace Wp
open PySem PySem.Spec PyProof.Rows L2
/-! ### methods by their promises -/
def HasM (P : Program) (w : World) (K : PySem.W.Frag) (mg : Str → Option Value) (base : Heap) (C : Addr) (m : Str) (ps : List Str) (k : Nat) (sp : Sp) : Prop :=
  ∃ (f : Addr) (fd : FuncData), FnOk P w K mg base CX0 k f fd ps sp ∧ Meth K C m f ∧ Binds K fd ps []
def HasMX (P : Program) (w : World) (K : PySem.W.Frag) (mg : Str → Option Value) (base : Heap) (C : Addr) (m : Str) (ps : List Str) (k : Nat) (sp : Sp) : Prop :=
  ∃ (f : Addr) (fd : FuncData), FnOk P w K mg base (L2.CX P w) k f fd ps sp ∧ Meth K C m f ∧ Binds K fd ps []
section
variable {X : Cx} {x m : Str} {C : Addr} {ps : List Str} {k : Nat} {sp : Sp} {o e : Expr} {es : List Expr} {ta : TE} {t : TA} {p pos apos : Pos} {E : XK}
theorem pe_hasM {pl : Sem Bool} (c : Cls X.K C) (h : HasM X.prog X.w X.K X.mg X.base C m ps k sp) (hr : Room k X.A) (ho : PE X o ta) (ha : PA X (e :: es) t)
    (hst : starEach (e :: es) X.env = (false, eval e X.env) :: starEach es X.env := by rfl) (hpl : (backTo pos (starEach es X.env)).any (·.1) = false := by rfl)
    (ht : eval (.Call (.Attribute o m apos) (e :: es) [] pos) X.env = (do
      let ov ← eval o X.env
      standAt apos.atName
      let (f, first) ← holding [ov] (getMethod ov m pl)
      callWith pos f first (backTo pos (starEach (e :: es) X.env)) (backToKw pos (keywordEach [] X.env))) := by rfl) :
    PE X (.Call (.Attribute o m apos) (e :: es) [] pos) (tMeth C m sp [] E0 ta t) := by
  obtain ⟨f, fd, F, mt, b⟩ := h
  exact pe_meth ho c mt F hr b .nil pass0 ha hst hpl ht
theorem pe_hasM0 {pl : Sem Bool} (c : Cls X.K C) (h : HasM X.prog X.w X.K X.mg X.base C m ps k sp) (hr : Room k X.A) (ho : PE X o ta)
    (ht : eval (.Call (.Attribute o m apos) [] [] pos) X.env = (do
      let ov ← eval o X.env
      standAt apos.atName
      let (f, first) ← holding [ov] (getMethod ov m pl)
      callWith pos f first (backTo pos (starEach [] X.env)) (backToKw pos (keywordEach [] X.env))) := by rfl) :
    PE X (.Call (.Attribute o m apos) [] [] pos) (tMeth C m sp [] E0 ta tNil) := by
  obtain ⟨f, fd, F, mt, b⟩ := h
  exact pe_meth0 ho c mt F hr b .nil pass0 ht
theorem pe_hasMX {pl : Sem Bool} (hx : Passes (L2.CX X.prog X.w) X E) (c : Cls X.K C) (h : HasMX X.prog X.w X.K X.mg X.base C m ps k sp) (hr : Room k X.A) (ho : PE X o ta) (ha : PA X (e :: es) t)
    (hst : starEach (e :: es) X.env = (false, eval e X.env) :: starEach es X.env := by rfl) (hpl : (backTo pos (starEach es X.env)).any (·.1) = false := by rfl)
    (ht : eval (.Call (.Attribute o m apos) (e :: es) [] pos) X.env = (do
      let ov ← eval o X.env
      standAt apos.atName
      let (f, first) ← holding [ov] (getMethod ov m pl)
      callWith pos f first (backTo pos (starEach (e :: es) X.env)) (backToKw pos (keywordEach [] X.env))) := by rfl) :
    PE X (.Call (.Attribute o m apos) (e :: es) [] pos) (tMeth C m sp [] E ta t) := by
  obtain ⟨f, fd, F, mt, b⟩ := h
  exact pe_meth ho c mt F hr b .nil hx ha hst hpl ht
end
/-! ### the machine's object -/
-- Machine_begin: slots self 0, place 1, env 2
abbrev sMachine_begin : Stmt := inClass (top 53) 1
theorem scMachine_begin : FnScope ["self", "place", "env"] ["self", "place", "env"] (defScope sMachine_begin) := ⟨rfl, rfl, rfl, by decide +kernel, rfl, by decide +kernel, by decide +kernel⟩
abbrev slMachine_begin : List Str := ["self", "place", "env"]
-- Machine_give: slots self 0, worth 1
abbrev sMachine_give : Stmt := inClass (top 53) 2
theorem scMachine_give : FnScope ["self", "worth"] ["self", "worth"] (defScope sMachine_give) := ⟨rfl, rfl, rfl, by decide +kernel, rfl, by decide +kernel, by decide +kernel⟩
abbrev slMachine_give : List Str := ["self", "worth"]
-- Machine_end: slots self 0, kind 1, worth 2
abbrev sMachine_end : Stmt := inClass (top 53) 3
theorem scMachine_end : FnScope ["self", "kind", "worth"] ["self", "kind", "worth"] (defScope sMachine_end) := ⟨rfl, rfl, rfl, by decide +kernel, rfl, by decide +kernel, by decide +kernel⟩
abbrev slMachine_end : List Str := ["self", "kind", "worth"]
-- Machine_faulted: slots self 0, worth 1
abbrev sMachine_faulted : Stmt := inClass (top 53) 4
theorem scMachine_faulted : FnScope ["self", "worth"] ["self", "worth"] (defScope sMachine_faulted) := ⟨rfl, rfl, rfl, by decide +kernel, rfl, by decide +kernel, by decide +kernel⟩
abbrev slMachine_faulted : List Str := ["self", "worth"]
structure MSt where
  f : Addr
  st : Str
  x : Addr
  en : Addr
  kd : Str
  wv : V
  lo : Addr
  lw : Addr
  stp : Int
  hgt : Int
def mFs (s : MSt) : List (Str × V) := [("frames", .ref s.f), ("stage", .str s.st), ("place", .ref s.x), ("env", .ref s.en), ("kind", .str s.kd), ("worth", s.wv), ("output", .ref s.lo), ("winds", .ref s.lw), ("steps", .int s.stp), ("height", .int s.hgt)]
abbrev mNs : List Str := ["frames", "stage", "place", "env", "kind", "worth", "output", "winds", "steps", "height"]
def MAt (M : Addr) (H : Hp) (m : Addr) (s : MSt) : Prop := ∃ dx, H m = some (.ins M dx (mFs s))
/-- the machine's object is written, nothing else -/
def Wr (M m : Addr) (s : MSt) (H H' : Hp) : Prop := MAt M H' m s ∧ ∀ b, b ≠ m → H' b = H b
def spBegin (M : Addr) : Sp := fun vs H Q _ => ∃ (m x en : Addr) (s : MSt), vs = [.ref m, .ref x, .ref en] ∧ MAt M H m s ∧ ∀ H', Wr M m { s with st := "begin", x := x, en := en } H H' → Q .non H'
def spGive (M : Addr) : Sp := fun vs H Q _ => ∃ (m : Addr) (v : V) (s : MSt), vs = [.ref m, v] ∧ MAt M H m s ∧ ∀ H', Wr M m { s with st := "back", wv := v } H H' → Q .non H'
def spEnd (M : Addr) : Sp := fun vs H Q _ => ∃ (m : Addr) (z : Str) (v : V) (s : MSt), vs = [.ref m, .str z, v] ∧ MAt M H m s ∧ ∀ H', Wr M m { s with st := "end", kd := z, wv := v } H H' → Q .non H'
section
variable {P : Program} {w : World} {K : PySem.W.Frag} {mg : Str → Option Value} {base : Heap} {f M : Addr} {fd : FuncData}
theorem ok_begin (F : Fun K "begin" "Machine.begin" sMachine_begin f fd) (T : TxC K M mNs) : FnOk P w K mg base CX0 1 f fd ["self", "place", "env"] (spBegin M) := by
  refine F.ok scMachine_begin (fun vs H Q E h => ?_) (fun cdv A outer s H vs Q E hr h => ?_)
  · obtain ⟨m, x, en, s, rfl, _⟩ := h
    rfl
  obtain ⟨m, x, en, st, rfl, ⟨dx, hm⟩, q⟩ := h
  refine ⟨_, (pss_cons (ps_fld (pv 0) pe_str rfl)
  (pss_cons (ps_fld (pv 0) (pv 1) rfl)
  (pss_one (ps_fld (pv 0) (pv 2) rfl)))), ?_⟩
  refine ⟨_, rfl, m, M, dx, _, rfl, hm, T.cl, T.no _ (by decide), (by show 10 < 1000; decide), ?_⟩
  refine ⟨_, rfl, _, rfl, m, M, dx, _, rfl, upd_same, T.cl, T.no _ (by decide), (by show 10 < 1000; decide), ?_⟩
  refine ⟨_, rfl, _, rfl, m, M, dx, _, rfl, upd_same, T.cl, T.no _ (by decide), (by show 10 < 1000; decide), ?_⟩
  exact q _ ⟨⟨dx, upd_same⟩, fun b hb => by rw [upd_ne hb, upd_ne hb, upd_ne hb]⟩
theorem ok_give (F : Fun K "give" "Machine.give" sMachine_give f fd) (T : TxC K M mNs) : FnOk P w K mg base CX0 1 f fd ["self", "worth"] (spGive M) := by
  refine F.ok scMachine_give (fun vs H Q E h => ?_) (fun cdv A outer s H vs Q E hr h => ?_)
  · obtain ⟨m, v, s, rfl, _⟩ := h
    rfl
  obtain ⟨m, v, st, rfl, ⟨dx, hm⟩, q⟩ := h
  refine ⟨_, (pss_cons (ps_fld (pv 0) pe_str rfl)
  (pss_one (ps_fld (pv 0) (pv 1) rfl))), ?_⟩
  refine ⟨_, rfl, m, M, dx, _, rfl, hm, T.cl, T.no _ (by decide), (by show 10 < 1000; decide), ?_⟩
  refine ⟨_, rfl, _, rfl, m, M, dx, _, rfl, upd_same, T.cl, T.no _ (by decide), (by show 10 < 1000; decide), ?_⟩
  exact q _ ⟨⟨dx, upd_same⟩, fun b hb => by rw [upd_ne hb, upd_ne hb]⟩
theorem ok_end (F : Fun K "end" "Machine.end" sMachine_end f fd) (T : TxC K M mNs) : FnOk P w K mg base CX0 1 f fd ["self", "kind", "worth"] (spEnd M) := by
  refine F.ok scMachine_end (fun vs H Q E h => ?_) (fun cdv A outer s H vs Q E hr h => ?_)
  · obtain ⟨m, z, v, s, rfl, _⟩ := h
    rfl
  obtain ⟨m, z, v, st, rfl, ⟨dx, hm⟩, q⟩ := h
  refine ⟨_, (pss_cons (ps_fld (pv 0) pe_str rfl)
  (pss_cons (ps_fld (pv 0) (pv 1) rfl)
  (pss_one (ps_fld (pv 0) (pv 2) rfl)))), ?_⟩
  refine ⟨_, rfl, m, M, dx, _, rfl, hm, T.cl, T.no _ (by decide), (by show 10 < 1000; decide), ?_⟩
  refine ⟨_, rfl, _, rfl, m, M, dx, _, rfl, upd_same, T.cl, T.no _ (by decide), (by show 10 < 1000; decide), ?_⟩
  refine ⟨_, rfl, _, rfl, m, M, dx, _, rfl, upd_same, T.cl, T.no _ (by decide), (by show 10 < 1000; decide), ?_⟩
  exact q _ ⟨⟨dx, upd_same⟩, fun b hb => by rw [upd_ne hb, upd_ne hb, upd_ne hb]⟩
end
end Wp
set_option Elab.async false
set_option linter.all false
set_option maxRecDepth 100000
set_option maxHeartbeats 1000000
namespace Wp
open PySem PySem.Spec PyProof.Rows L2
/-! ### Stuck -/
abbrev sStuckI : Stmt := inClass (top 3) 0
theorem scStuckI : FnScope ["self", "word"] ["self", "word"] (defScope sStuckI) := ⟨rfl, rfl, rfl, by decide +kernel, rfl, by decide +kernel, by decide +kernel⟩
def spSInit (K : PySem.W.Frag) : Sp := fun vs H Q _ => ∃ (e C : Addr) (y : V), vs = [.ref e, y] ∧ H e = some (exo e C none) ∧ LeC K C ∧ PySem.W.findIn K (.ref C) "word" = some none ∧ ∀ dx, H dx = none → dx ≠ e → Q .non (upd (upd H dx (exd dx [("word", y)])) e (exo e C (some dx)))
theorem same_err {H H2 : Hp} {e dx : Addr} {o : HO} (n1 : H e = none) (n2 : H dx = none) (s : ∀ b u, b ≠ e → b ≠ dx → H b = some u → H2 b = some u) : Same H (upd (del H2 e) dx o) := fun b u q => by
  rw [upd_ne (ne_of_none q n2), del_ne (ne_of_none q n1)]
  exact s b u (ne_of_none q n1) (ne_of_none q n2) q
/-- what is told of a raised Stuck -/
def StE (S : Addr) (H : Hp) (y : V) (E : XK) : Prop := ∀ dd H', Same H H' → H dd = none → H' dd = some (.xd [("word", y)]) → E (.ref S) (some dd) H'
def spFault (S : Addr) : Sp := fun vs H Q E => ∃ (m : V) (y : V), vs = [m, y] ∧ StE S H y E
section
variable {P : Program} {w : World} {K : PySem.W.Frag} {mg : Str → Option Value} {base : Heap} {f S fI : Addr} {fd fdI : FuncData}
theorem ok_sinit (F : Fun K "__init__" "Stuck.__init__" sStuckI f fd) (m_RuntimeError : mg "RuntimeError" = none) (vV : PySem.W.findCls K (.type "RuntimeError") (.type "type") "__init__" = some (.val (.builtin "RuntimeError.__init__"))) : FnOk P w K mg base CX0 1 f fd ["self", "word"] (spSInit K) := by
  refine F.ok scStuckI (fun vs H Q E h => ?_) (fun cdv A outer s H vs Q E hr h => ?_)
  · obtain ⟨e, C, y, rfl, _⟩ := h
    rfl
  obtain ⟨e, C, y, rfl, he, T, hno, q⟩ := h
  refine ⟨_, pss_cons (ps_expr (pe_leinit rfl m_RuntimeError vV (pa_cons (pv 0) (pa_cons pe_str pa_nil)))) (pss_one (ps_lest (pv 0) (pv 1))), ?_⟩
  refine ⟨_, rfl, e, C, _, rfl, (by show 1 ≤ 1000; decide), T, he, ?_⟩
  exact ⟨_, rfl, _, rfl, e, C, rfl, T, hno, he, q⟩
theorem ok_fault (F : Fun K "faulted" "Machine.faulted" sMachine_faulted f fd) (T : LeC K S) (mS : mg "Stuck" = some (.ref S)) (hno : PySem.W.findIn K (.ref S) "word" = some none) (iC : PySem.W.findIn K (.ref S) "__init__" = some (some (.ref fI))) (tI : PySem.W.typeIn K (.ref fI) = some (.type "function")) (FI : FnOk P w K mg base CX0 1 fI fdI ["self", "word"] (spSInit K)) (bI : Binds K fdI ["self", "word"] []) :
    FnOk P w K mg base (L2.CX P w) 3 f fd ["self", "worth"] (spFault S) := by
  refine F.okX scMachine_faulted (fun vs H Q E h => ?_) (fun cdv A outer s H vs Q E hr h => ?_)
  · obtain ⟨m, y, rfl, _⟩ := h
    rfl
  obtain ⟨m, y, rfl, q⟩ := h
  refine ⟨_, (pss_one (ps_raise rfl (takes_of rfl rfl rfl rfl) (pmk_le T iC tI FI (hr.mono (by decide)) bI pass0 rfl mS (pa_cons (pv 1) pa_nil)))), ?_⟩
  refine ⟨_, rfl, (by show 1 ≤ 1000; decide), fun er her => ⟨er, S, y, rfl, upd_same, T, hno, fun dx hdx ne => ⟨rfl, dx, [("word", y)], upd_same, (upd_ne ne).trans upd_same, ?_, ?_⟩⟩⟩
  · rw [upd_ne ne] at hdx
    exact hdx
  · rw [upd_ne ne] at hdx
    refine q dx _ (same_err her hdx fun b u n1 n2 q => ?_) hdx upd_same
    rw [upd_ne n1, upd_ne n2, upd_ne n1]
    exact q
end
end Wp
set_option Elab.async false
set_option linter.all false
set_option maxRecDepth 100000
set_option maxHeartbeats 4000000
namespace Wp
open PySem PySem.Spec PyProof.Rows L2
/-! ### {**d, k: v} -/
section
variable {P : Program} {w : World} {A : Around} {E : Value → Shared → Prop} {s : Shared}
theorem put_mix {d : Addr} {kvs : List (Key × Value)} {k : Key} {key v : Value} {Q : Unit → Shared → Prop} (hkey : (mixKind P w).is k key = true) (hm : s.heap.DictOf (mixKind P w) d kvs)
    (hQ : ∀ h', h'.DictOf (mixKind P w) d (stored kvs k v) → Heap.SameBut d s.heap h' → Q () { s with heap := h' }) (hsz : kvs.length ≤ sizeLine) :
    wpAny (model P w) A (dictPut d ((mixKind P w).hash k) key v) Q E s := by
  obtain ⟨o, es, ep, ho, hc, hd, hk, hp, hn⟩ := hm
  have hes : es.size ≤ sizeLine := by
    have e1 := hp.length
    have e2 : es.toList.length = es.size := by simp
    omega
  have hidx : (es.findIdx? fun e => (mixKind P w).is k e.key) = kvs.findIdx? fun kv => decide (kv.1 = k) := by
    rw [← hp.findIdx k]
    obtain ⟨l⟩ := es
    simp
  unfold dictPut
  refine wpAny_bind (wpAny_dictFind_of hkey ho hd hk ?_)
  cases hi : es.findIdx? fun e => (mixKind P w).is k e.key with
  | some i =>
    have hl : (es.toList.findIdx? fun e => (mixKind P w).is k e.key) = some i := by
      rw [← hi]
      obtain ⟨l⟩ := es
      simp
    refine wpAny_updateDict ho hd (hQ _ ⟨_, _, ep, Heap.get?_update_self _ ho (Obj.isFreed_of_dict (Obj.data_mapDict hd _)), hc.mapDict _, Obj.data_mapDict hd _, hk.modify _ _, ?_, ?_⟩ (Heap.SameBut.update ..))
    · rw [stored, if_pos (any_of_findIdx_some (hidx ▸ hi))]
      have q := hp.modify hn hl v
      obtain ⟨l⟩ := es
      simpa using q
    · rw [stored, if_pos (any_of_findIdx_some (hidx ▸ hi)), keys_map_store]
      exact hn
  | none =>
    have hnot : k ∉ kvs.map (·.1) := not_mem_of_findIdx_none (hidx ▸ hi)
    have hany : ¬ (kvs.any fun kv => decide (kv.1 = k)) = true := by
      rw [List.any_eq_true]
      rintro ⟨kv, hkv, he⟩
      exact hnot (List.mem_map.mpr ⟨kv, hkv, of_decide_eq_true he⟩)
    refine wpAny_updateDictKeys (hz := hes) ho hd (hQ _ ⟨_, _, ep + 1, Heap.get?_update_self _ ho (Obj.isFreed_of_dict (Obj.data_mapDictKeys hd _)), hc.mapDictKeys _, Obj.data_mapDictKeys hd _, hk.push hkey _, ?_, ?_⟩ (Heap.SameBut.update ..))
    · rw [stored, if_neg hany]
      have q := hp.append hkey ((mixKind P w).hash k) v
      obtain ⟨l⟩ := es
      simpa using q
    · rw [stored, if_neg hany, List.map_append, List.nodup_append]
      refine ⟨hn, by simp, fun a ha b hb => ?_⟩
      simp only [List.map_cons, List.map_nil, List.mem_singleton] at hb
      subst hb
      exact fun e => hnot (e ▸ ha)
theorem merge_mix {d o : Addr} {kvs more : List (Key × Value)} {Q : Unit → Shared → Prop} (hdo : d ≠ o) (hoS : (o == sysModules) = false) (hd : s.heap.DictOf (mixKind P w) d kvs) (ho : s.heap.DictOf (mixKind P w) o more)
    (hQ : ∀ h', h'.DictOf (mixKind P w) d (merged kvs more) → Heap.SameBut d s.heap h' → Q () { s with heap := h' }) (hsz : kvs.length + more.length ≤ sizeLine) :
    wpAny (model P w) A (mergeMapping d (.ref o) false) Q E s := by
  obtain ⟨od, esd, epd, hod, hcd, hdd, hkd, hpd, hnd⟩ := id hd
  obtain ⟨oo, eso, epo, hoo, hco, hdo', hko, hpo, hno⟩ := id ho
  have hlen : more.length = eso.size := by rw [← hpo.length]; simp
  unfold mergeMapping
  refine wpAny_bind (wpAny_isInstance ho.typeIs isSubtype_dict_dict ?_)
  simp only [if_true]
  refine wpAny_bind (wpAny_specialOf ho.typeIs F.slot_dict_iter.lookup (wpAny_bind (wpAny_pure ?_)))
  simp only [beq_self_eq_true]
  rw [if_neg (by rw [hoS]; exact Bool.false_ne_true)]
  have loop : wpAny (model P w) A (do
      let l ← dictEntries o
      let epoch ← dictEpoch o
      forIn (List.range l.size) PUnit.unit fun i (_ : PUnit) => (do
        let l' ← dictEntries o
        match l'[i]? with
        | some e => do
          holding [e.key, e.val] (dictPut d e.hash e.key e.val)
          let ep' ← dictEpoch o
          if (ep' != epoch) = true then do
              (unsupported "dict.changed-during-merge" : Sem PUnit)
              pure (ForInStep.yield PUnit.unit)
            else pure (ForInStep.yield PUnit.unit)
        | _ => do
          (unsupported "dict.changed-during-merge" : Sem PUnit)
          pure (ForInStep.yield PUnit.unit) : Sem (ForInStep PUnit))
      pure ()) Q E s := by
    refine wpAny_bind (wpAny_dictEntries hoo hdo' (wpAny_bind (wpAny_dictEpoch hoo hdo' (wpAny_bind ?_))))
    rw [List.range_eq_range']
    refine wpAny_forIn_list _
      (fun rest _ s' => ∃ h' i, s' = { s with heap := h' } ∧ rest = List.range' i (eso.size - i) ∧ i ≤ eso.size ∧ h'.DictOf (mixKind P w) d (merged kvs (more.take i)) ∧ h'.get? o = some oo ∧ Heap.SameBut d s.heap h')
      _ ?_ ?_ _ _ ⟨s.heap, 0, rfl, by simp, Nat.zero_le _, by simpa [merged] using hd, hoo, Heap.SameBut.refl _ _⟩
    · rintro x rest b s' ⟨h', i, rfl, hr, hi, hd', hoo', hs'⟩
      have hlt : i < eso.size := by
        rcases Nat.lt_or_ge i eso.size with q | q
        · exact q
        · rw [Nat.sub_eq_zero_of_le q] at hr
          simp at hr
      have hxr : x = i ∧ rest = List.range' (i + 1) (eso.size - (i + 1)) := by
        have e : eso.size - i = (eso.size - (i + 1)) + 1 := by omega
        rw [e, List.range'_succ] at hr
        injection hr with q1 q2
        exact ⟨q1, q2⟩
      obtain ⟨rfl, hrest⟩ := hxr
      refine wpAny_bind (wpAny_dictEntries hoo' hdo' ?_)
      rw [Array.getElem?_eq_getElem hlt]
      obtain ⟨⟨k, v⟩, hkv⟩ : ∃ kv, more[x]? = some kv := ⟨more[x]'(by rw [hlen]; exact hlt), List.getElem?_eq_getElem _⟩
      obtain ⟨hkey, hval⟩ := hpo.get? (e := eso[x]) (by simp [hlt]) hkv
      obtain ⟨k', hkey', hhash⟩ := hko eso[x] (Array.getElem_mem hlt)
      obtain rfl : k' = k := (mixKind P w).inj _ _ _ hkey' hkey
      have hmx : (merged kvs (more.take x)).length ≤ sizeLine := by
        have e1 := merged_length_le kvs (more.take x)
        have e2 : (more.take x).length ≤ more.length := by rw [List.length_take]; omega
        omega
      show wpAny _ _ (holding [eso[x].key, eso[x].val] (dictPut d eso[x].hash eso[x].key eso[x].val) >>= _) _ _ _
      rw [hhash, hval]
      refine wpAny_bind (wpAny_holding (put_mix hkey hd' (fun h'' hd'' hs'' => ?_) hmx))
      have hoo'' : h''.get? o = some oo := (hs''.2 o (Ne.symm hdo)).trans hoo'
      refine wpAny_bind (wpAny_dictEpoch hoo'' hdo' ?_)
      rw [if_neg (by simp)]
      exact wpAny_pure ⟨h'', x + 1, rfl, hrest, hlt, by rw [merged_take_succ kvs more x (k', v) hkv]; exact hd'', hoo'', hs'.trans hs''⟩
    · rintro b s' ⟨h', i, rfl, hr, hi, hd', hoo', hs'⟩
      have hin : i = eso.size := by
        rcases Nat.lt_or_ge i eso.size with q | q
        · have e : eso.size - i = (eso.size - (i + 1)) + 1 := by omega
          rw [e, List.range'_succ] at hr
          cases hr
        · omega
      subst hin
      refine wpAny_pure (hQ h' ?_ hs')
      rw [List.take_of_length_le (by omega)] at hd'
      exact hd'
  refine wpAny_bind (wpAny_dictEntries hod hdd ?_)
  have nref : ∀ e ∈ eso, ∀ a, e.key ≠ .ref a := fun e he a hq => by
    obtain ⟨k, hk, _⟩ := hko e he
    rcases keyIs_shape hk with ⟨_, _, _, z⟩ | ⟨_, _, _, z⟩ <;> rw [hq] at z <;> cases z
  by_cases hem : esd.isEmpty = true
  · rw [if_pos hem]
    refine wpAny_bind (wpAny_dictEntries hoo hdo' (wpAny_bind ?_))
    rw [← Array.forIn_toList]
    refine wpAny_forIn_list _ (fun rest _ s' => s' = s ∧ ∀ e ∈ rest, e ∈ eso) _ ?_ ?_ _ _ ⟨rfl, fun e he => by simpa using he⟩
    · rintro x rest b s' ⟨rfl, hm⟩
      have hx := nref x (hm x List.mem_cons_self)
      cases hk : x.key with
      | ref a => exact absurd hk (hx a)
      | _ => exact wpAny_pure ⟨rfl, fun e he => hm e (List.mem_cons_of_mem _ he)⟩
    · rintro b s' ⟨rfl, _⟩
      exact loop
  · rw [if_neg hem]
    exact loop
end
/-- {**e, k: v}: a new dict p takes what the dict at a holds, then the pair by way of a second new one -/
def tStarD (te tk tv : TE) : TE := fun σ H Q => ∀ p, H p = none → te σ (upd H p (.dK [])) fun x H1 => ∃ (a : Addr) (kvs : List (Key × V)), x = .ref a ∧ a ≠ p ∧ H1 a = some (.dK kvs) ∧ H1 p = some (.dK []) ∧ kvs.length ≤ 1000 ∧
  ∀ p2, H1 p2 = none → tk σ (upd (upd H1 p (.dK kvs)) p2 (.dK [])) fun y H2 => tv σ H2 fun v H3 => ∃ (z : Str), y = .str z ∧ H3 p = some (.dK kvs) ∧ H3 p2 = some (.dK []) ∧ Q (.ref p) (upd (upd H3 p2 (.dK [(Sum.inr z, v)])) p (.dK (putK kvs (Sum.inr z) v)))
theorem pe_starD {X : Cx} {pos : Pos} {e k v : Expr} {te tk tv : TE} (he : PE X e te) (hk : PE X k tk) (hv : PE X v tv) : PE X (.Dict [none, some k] [e, v] pos) (tStarD te tk tv) := by
  refine ⟨fun pins s σ H Q I h => ?_⟩
  rw [arm_eval_Dict]
  refine wpAny_bind (wpAny_standAt ?_)
  show wpAny _ _ (dictDisplay [(none, do let x ← eval e X.env; standAt pos; pure x), (some (eval k X.env), do let x ← eval v X.env; standAt pos; pure x)]) _ _ _
  unfold dictDisplay
  simp only [List.forIn_cons, List.forIn_nil, List.isEmpty_nil, if_true, pure_bind, List.nil_append, List.length_singleton, bind_assoc]
  refine wpAny_bind (wpAny_alloc ?_)
  have hn := I.hok.fresh (Nat.le_refl s.heap.objs.size)
  have I1 := I.laid (a := s.heap.objs.size) (o := .dK []) (h' := s.heap.push { cls := .type "dict", data := .dict #[] }) (t' := s.toks) (fun _ _ q => Heap.get?_push_of_some _ q) (Nat.le_refl _) (dk_empty s.heap I.big)
  refine wpAny_bind (wpAny_holding (wpAny_bind (thn (he.run pins _ σ _ _ I1 (h _ hn)) fun u s1 ⟨x, H1, I2, rx, a, kvs, ex, nea, ha, hp, hl, q⟩ => wpAny_bind (wpAny_standAt (wpAny_pure ?_)))))
  subst ex
  obtain rfl : u = Value.ref a := rx
  generalize hpp : s.heap.objs.size = p at *
  obtain ⟨_, hdS, vs0, r0, dd⟩ := dk_of I2.hok hp
  cases r0
  obtain ⟨hz, haS, vs, rv, da⟩ := dk_of I2.hok ha
  have hn1 : (vs.map (·.1)).Nodup := let ⟨_, _, _, _, _, _, _, _, z⟩ := da; z
  refine wpAny_bind (wpAny_onRaise (wpAny_tryCatch (wpAny_onRaise (wpAny_holding (merge_mix (fun z => nea z.symm) haS dd da (fun h1 d1 sb1 => ?_) ?_)))))
  rotate_left
  · rw [← Paired.length rv, List.length_nil, sizeLine_eq]
    omega
  rw [merged_nil_of_nodup vs hn1] at d1
  have he1 : ∃ q, h1.get? p = some q := let ⟨q, _, _, hq, _⟩ := d1; ⟨q, hq⟩
  have I3 := d_write (t' := s1.toks) I2 (by rw [hp]; exact True.intro) sb1 he1 (dk_new hz hdS rv d1)
  refine wpAny_bind ?_
  rw [if_neg (by decide)]
  refine wpAny_pure (wpAny_bind (wpAny_pure (wpAny_bind ?_)))
  rw [if_neg (by simp)]
  refine wpAny_bind (wpAny_holding ?_)
  have hn3 := I3.hok.fresh (Nat.le_refl h1.objs.size)
  have I4 := I3.laid (a := h1.objs.size) (o := .dK []) (h' := h1.push { cls := .type "dict", data := .dict #[] }) (t' := s1.toks) (fun _ _ q => Heap.get?_push_of_some _ q) (Nat.le_refl _) (dk_empty h1 I3.big)
  have np2 : H1 h1.objs.size = none := by
    by_cases hb : h1.objs.size = p
    · rw [hb, upd_same] at hn3
      cases hn3
    · rw [upd_ne hb] at hn3
      exact hn3
  have npp : h1.objs.size ≠ p := fun z => by
    rw [z, hp] at np2
    cases np2
  refine wpAny_subDict (knd := mixKind X.prog X.w) (by show 1 ≤ 15; decide) (evalPairs_cons (thn (hk.run pins _ σ _ _ I4 (q _ np2)) fun u4 s4 ⟨y, H2, I5, ry, q2⟩ => wpAny_bind (thn (hv.run pins s4 σ H2 _ I5 q2) fun u5 s5 ⟨vv, H3, I6, rv5, z, ey, g1, g2, q3⟩ =>
    wpAny_bind (wpAny_standAt (wpAny_pure (evalPairs_nil ?_))))))
  subst ey
  generalize hp2 : h1.objs.size = p2 at *
  obtain ⟨_, hdS2, vs2, r2, dd2⟩ := dk_of I6.hok g2
  cases r2
  refine ⟨[(Sum.inr z, u5)], ⟨kV_is ry, rfl, True.intro⟩, dd2, fun h2 d2 sb2 => ?_⟩
  have he2 : ∃ q, h2.get? p2 = some q := let ⟨q, _, _, hq, _⟩ := d2; ⟨q, hq⟩
  have I7 := d_write (t' := s5.toks + [(u4, u5)].length) I6 (by rw [g2]; exact True.intro) sb2 he2 (dk_new (kvs := [(Sum.inr z, vv)]) (by rw [sizeLine_eq]; show 1 ≤ 16777216; decide) hdS2 (.cons ⟨rfl, rv5⟩ .nil) d2)
  refine wpAny_bind (wpAny_onRaise (wpAny_holding ?_))
  have g1' : upd H3 p2 (.dK [(Sum.inr z, vv)]) p = some (.dK kvs) := by
    rw [upd_ne npp.symm]
    exact g1
  obtain ⟨_, _, vs3, r3, dd3⟩ := dk_of I7.hok g1'
  refine merge_mix npp.symm hdS2 dd3 d2 (fun h3 d3 sb3 => ?_) ?_
  rotate_left
  · have e3 := Paired.length r3
    show vs3.length + 1 ≤ sizeLine
    rw [← e3, sizeLine_eq]
    omega
  have he3 : ∃ q, h3.get? p = some q := let ⟨q, _, _, hq, _⟩ := d3; ⟨q, hq⟩
  have I8 := d_write (t' := s5.toks + [(u4, u5)].length) I7 (by rw [g1']; exact True.intro) sb3 he3 (dk_new (kvs := putK kvs (Sum.inr z) vv) (by have e := length_putK kvs (Sum.inr z) vv; rw [sizeLine_eq]; omega) hdS (r3.put _ rv5) d3)
  exact wpAny_pure (wpAny_pure ⟨.ref p, _, I8, rfl, q3⟩)
end Wp
set_option Elab.async false
set_option linter.all false
set_option maxRecDepth 100000
set_option maxHeartbeats 1000000
namespace Wp
open PySem PySem.Spec PyProof.Rows L2
/-! ### promises of defs that may raise, by whatever holds them -/
section
variable {P : Program} {w : World} {K : PySem.W.Frag} {mg : Str → Option Value} {base : Heap} {k : Nat} {f : Addr} {fd : FuncData} {ps : List Str} {sp : Sp}
theorem toX (F : FnOk P w K mg base CX0 k f fd ps sp) : FnOk P w K mg base (L2.CX P w) k f fd ps sp := ⟨F.len, fun A outer s H args us vs Q E hr e0 b r h => codeAny_mono (F.run A outer s H args us vs Q E hr e0 b r h) fun r s' q => by
  cases r with
  | error e => exact False.elim q
  | ok fl => cases fl <;> exact q⟩
/-- what is wanted may be wider -/
def upS (sp : Sp) : Sp := fun vs H Q E => ∃ Q0 : VK, sp vs H Q0 E ∧ ∀ v H', Q0 v H' → Q v H'
theorem upOk {CX : CXT} (F : FnOk P w K mg base CX k f fd ps sp) : FnOk P w K mg base CX k f fd ps (upS sp) := ⟨fun vs H Q E ⟨Q0, h, _⟩ => F.len vs H Q0 E h, fun A outer s H args us vs Q E hr e0 b r ⟨Q0, h, up⟩ => codeAny_mono (F.run A outer s H args us vs Q0 E hr e0 b r h) fun r s' q => by
  cases r with
  | error e => exact q
  | ok fl =>
    cases fl with
    | ret u =>
      obtain ⟨v, H', h1, h2, h3, h4, h5, h6⟩ := q
      exact ⟨v, H', h1, h2, h3, h4, h5, up _ _ h6⟩
    | _ => exact q⟩
end
def HX (P : Program) (w : World) (K : PySem.W.Frag) (mg : Str → Option Value) (base : Heap) (x : Str) (ps : List Str) (k : Nat) (sp : Sp) : Prop :=
  ∃ (f : Addr) (fd : FuncData), FnOk P w K mg base (L2.CX P w) k f fd ps sp ∧ mg x = some (.ref f) ∧ PySem.W.keepIn K (.ref f) = true ∧ Binds K fd ps []
def Hold (P : Program) (w : World) (K : PySem.W.Frag) (mg : Str → Option Value) (base : Heap) (k : Nat) (f : Addr) (sp : Sp) : Prop := FnR P w K mg base (L2.CX P w) k f sp ∧ PySem.W.keepIn K (.ref f) = true
theorem hold_of {P : Program} {w : World} {K : PySem.W.Frag} {mg : Str → Option Value} {base : Heap} {k : Nat} {f : Addr} {fd : FuncData} {ps : List Str} {sp : Sp} (F : FnOk P w K mg base (L2.CX P w) k f fd ps sp) (kp : PySem.W.keepIn K (.ref f) = true) (b : Binds K fd ps []) : Hold P w K mg base k f sp :=
  ⟨(F.raw b .nil).imp fun vs H Q E h => by rw [List.append_nil]; exact h, kp⟩
/-- the i-th slot holds a def, whose promise is told -/
def tLoc (X : Cx) (k i : Nat) (E : XK) (t : TA) : TE := fun σ H Q => ∃ (f : Addr) (sp : Sp), σ[i]? = some (some (.ref f)) ∧ Hold X.prog X.w X.K X.mg X.base k f sp ∧ t σ H fun vs H1 => sp vs H1 Q E
def tLocS (X : Cx) (k i : Nat) (E : XK) (te : TE) : TE := fun σ H Q => ∃ (f : Addr) (sp : Sp), σ[i]? = some (some (.ref f)) ∧ Hold X.prog X.w X.K X.mg X.base k f sp ∧ te σ H fun y H1 => ∃ a xs, y = V.ref a ∧ (SqT X.K H1 a xs ∨ SqL X.K H1 a xs) ∧ sp xs H1 Q E
section
variable {X : Cx} {k i : Nat} {sp : Sp} {ps : List Str} {E : XK} {x m : Str} {C : Addr} {e o : Expr} {es : List Expr} {te ta : TE} {t : TA} {p p2 pos apos : Pos}
theorem pe_hx (hx : Passes (L2.CX X.prog X.w) X E) (h : HX X.prog X.w X.K X.mg X.base x ps k sp) (hr : Room k X.A) (ha : PA X (e :: es) t) (hg : Gl X x := by rfl)
    (hdb : (x == ("__debug__" : Str)) = false := by decide) (he : starEach (e :: es) X.env = (false, eval e X.env) :: starEach es X.env := by rfl) (hpl : (backTo pos (starEach es X.env)).any (·.1) = false := by rfl) :
    PE X (.Call (.Name x p) (e :: es) [] pos) (tCall sp [] E t) := by
  obtain ⟨f, fd, F, m, kp, b⟩ := h
  exact pe_call F hr hg m kp b .nil hx ha hdb he hpl
theorem pe_loc (hx : Passes (L2.CX X.prog X.w) X E) (hr : Room k X.A) (hN : X.N[i]? = some x) (hv : Vis X.env.scope x) (ha : PA X (e :: es) t)
    (hdb : (x == ("__debug__" : Str)) = false := by decide) (hcd : (x == ("__classdict__" : Str)) = false := by decide)
    (he : starEach (e :: es) X.env = (false, eval e X.env) :: starEach es X.env := by rfl) (hpl : (backTo pos (starEach es X.env)).any (·.1) = false := by rfl) : PE X (.Call (.Name x p) (e :: es) [] pos) (tLoc X k i E t) := by
  refine ⟨fun pins s σ H Q I ⟨f, sp, hs, ⟨F, hk⟩, ht⟩ => ?_⟩
  refine wpAny_Call_Name_kw (thn ((pe_var (pos := p) hN hv hdb hcd).run pins s σ H (fun v H1 => v = .ref f ∧ H1 = H) I ⟨.ref f, hs, rfl, rfl⟩) fun u s1 ⟨v, H1, I1, r1, q1, q2⟩ => ?_)
  subst q1 q2
  cases r1
  refine PySem.W.callWith_K (h₀ := X.base) I.ok.mod.kin hk (thn (ha.run pos pins s1 σ _ _ I1 ht) fun us s2 ⟨vs, H2, I2, r, q⟩ => ⟨I2.kIn, ?_⟩) he hpl
  exact wpAny_call (run_fnR F hr hx I2 r q)
theorem pe_locS2 (hx : Passes (L2.CX X.prog X.w) X E) (hr : Room k X.A) (hN : X.N[i]? = some x) (hv : Vis X.env.scope x) (ha : PA X (e :: es) t)
    (hdb : (x == ("__debug__" : Str)) = false := by decide) (hcd : (x == ("__classdict__" : Str)) = false := by decide)
    (he : starEach (e :: es) X.env = (false, eval e X.env) :: starEach es X.env := by rfl) (hst : (backTo pos (starEach es X.env)).any (·.1) = true := by rfl) : PE X (.Call (.Name x p) (e :: es) [] pos) (tLoc X k i E t) := by
  refine ⟨fun pins s σ H Q I ⟨f, sp, hs, ⟨F, hk⟩, ht⟩ => ?_⟩
  refine wpAny_Call_Name_kw (thn ((pe_var (pos := p) hN hv hdb hcd).run pins s σ H (fun v H1 => v = .ref f ∧ H1 = H) I ⟨.ref f, hs, rfl, rfl⟩) fun u s1 ⟨v, H1, I1, r1, q1, q2⟩ => ?_)
  subst q1 q2
  cases r1
  refine PySem.W.callWith_S2 (h₀ := X.base) I.ok.mod.kin hk (thn (ha.run pos pins s1 σ _ _ I1 ht) fun us s2 ⟨vs, H2, I2, r, q⟩ => ⟨I2.kIn, ?_⟩) he hst
  exact wpAny_call (run_fnR F hr hx I2 r q)
theorem pe_locS1 (hx : Passes (L2.CX X.prog X.w) X E) (hr : Room k X.A) (hN : X.N[i]? = some x) (hv : Vis X.env.scope x) (ha : PE X e te)
    (hdb : (x == ("__debug__" : Str)) = false := by decide) (hcd : (x == ("__classdict__" : Str)) = false := by decide)
    (hst : starEach [.Starred e p2] X.env = [(true, eval e X.env)] := by rfl) : PE X (.Call (.Name x p) [.Starred e p2] [] pos) (tLocS X k i E te) := by
  refine ⟨fun pins s σ H Q I ⟨f, sp, hs, ⟨F, hk⟩, ht⟩ => ?_⟩
  refine wpAny_Call_Name_kw (thn ((pe_var (pos := p) hN hv hdb hcd).run pins s σ H (fun v H1 => v = .ref f ∧ H1 = H) I ⟨.ref f, hs, rfl, rfl⟩) fun u s1 ⟨v, H1, I1, r1, q1, q2⟩ => ?_)
  subst q1 q2
  cases r1
  refine PySem.W.callWith_S (h₀ := X.base) I.ok.mod.kin hk (thn (ha.run pins s1 σ _ _ I1 ht) fun v s2 ⟨y, H2, I2, ry, a, xs, ey, hxs, q⟩ => ?_) hst
  subst ey
  obtain rfl : v = Value.ref a := ry
  exact StX.star_any I2 hxs fun us s3 I3 rv => ⟨I3.kIn, wpAny_call (run_fnR F hr hx I3 rv q)⟩
end
theorem passX {P : Program} {w : World} {K : PySem.W.Frag} {mg : Str → Option Value} {base : Heap} {N : List Str} {qual : Str} {sc : Scope} {f : Addr} {cd : Value} {A : Around} {outer : List Env} {s : Shared} {H : Hp} {E : XK} :
    Passes (L2.CX P w) (cxOf (L2.CX P w) P w K mg base N qual sc f cd A outer s H E) E := passes_call (takes_of rfl rfl rfl rfl) fun _ _ _ _ h => h
/-! ### the classes, and what a worth is -/
structure Ad where
  pl : Addr
  pa : Addr
  fu : Addr
  ce : Addr
  po : Addr
  pt : Addr
  no : Addr
  fr : Addr
  ma : Addr
  sk : Addr
  re : Addr
inductive Kd | non | bl | int | str | pair | fn | cell | point | part deriving DecidableEq
inductive Wk (A : Ad) (H : Hp) : V → Kd → Prop
  | non : Wk A H .non .non
  | bl (b : Bool) : Wk A H (.bl b) .bl
  | int (i : Int) : Wk A H (.int i) .int
  | str (z : Str) : Wk A H (.str z) .str
  | pair {x dx : Addr} {a b : V} : H x = some (.ins A.pa dx [("first", a), ("rest", b)]) → Wk A H (.ref x) .pair
  | fn {x dx : Addr} {fs : List (Str × V)} : H x = some (.ins A.fu dx fs) → Wk A H (.ref x) .fn
  | cell {x dx : Addr} {fs : List (Str × V)} : H x = some (.ins A.ce dx fs) → Wk A H (.ref x) .cell
  | point {x dx : Addr} {fs : List (Str × V)} : H x = some (.ins A.po dx fs) → Wk A H (.ref x) .point
  | part {x dx : Addr} {fs : List (Str × V)} : H x = some (.ins A.pt dx fs) → Wk A H (.ref x) .part
/-- a class over object alone -/
structure OwnC (K : PySem.W.Frag) (C : Addr) : Prop where
  cl : Cls K C
  c1 : PySem.W.findIn K (.ref C) "__class__" = some (some (.builtin "object.__class__"))
  c2 : PySem.W.specialIn K (.builtin "object.__class__") "__get__" = some (some (.builtin "getset_descriptor.__get__"))
  c3 : PySem.W.takesIn K (.builtin "object.__class__") = some true
  mro : ∃ cd, PySem.W.clsIn K C = some cd ∧ cd.mro = [.ref C, .type "object"]
  ty : PySem.W.typeIn K (.ref C) = some (.type "type")
theorem OwnC.sub {K : PySem.W.Frag} {C : Addr} (T : OwnC K C) (v : Value) : PySem.W.subIn K (.ref C) v = some ([.ref C, .type "object"].contains v) := by
  obtain ⟨cd, h1, h2⟩ := T.mro
  show PySem.W.mroIn K C v = _
  unfold PySem.W.mroIn
  rw [h1, Option.bind_some, h2]
  rfl
theorem OwnC.tyOf {K : PySem.W.Frag} {C a dx : Addr} {H : Hp} {fs : List (Str × V)} (T : OwnC K C) (e : H a = some (.ins C dx fs)) : TyX K H (.ref a) (.ref C) :=
  .base (.ins e T.cl T.c1 T.c2 T.c3 (T.sub (.type "object")))
theorem OwnC.kit {K : PySem.W.Frag} {C : Addr} (T : OwnC K C) {t : Value} {b : Bool} (h : PySem.W.subIn K t (.ref C) = some b) (hb : (t == .ref C) = true → b = true) : PySem.W.kitOne K t (.ref C) = some b := by
  unfold PySem.W.kitOne
  by_cases h1 : (t == Value.ref C) = true
  · rw [if_pos h1, hb h1]
  · rw [if_neg h1]
    obtain ⟨cd, h2, _⟩ := T.mro
    unfold PySem.W.kitCls
    dsimp only
    rw [h2, T.ty, if_pos (by simp)]
    exact h
theorem OwnC.kitB {K : PySem.W.Frag} {C : Addr} (T : OwnC K C) {n : String} (hm : PySem.W.kitMeta n = true) (hn : n ≠ "object") : PySem.W.kitOne K (.ref C) (.type n) = some false := by
  unfold PySem.W.kitOne
  rw [if_neg (fun h => by cases beq_iff_eq.mp h)]
  unfold PySem.W.kitCls
  dsimp only
  rw [if_pos hm, T.sub]
  congr 1
  show (Value.type n == Value.ref C || (Value.type n == Value.type "object" || false)) = false
  have h1 : (Value.type n == Value.ref C) = false := by
    cases h : (Value.type n == Value.ref C)
    · rfl
    · cases beq_iff_eq.mp h
  have h2 : (Value.type n == Value.type "object") = false := by
    cases h : (Value.type n == Value.type "object")
    · rfl
    · exact absurd (Value.type.inj (beq_iff_eq.mp h)) hn
  rw [h1, h2]
  rfl
inductive Cq | bool | int | str | pair | fn | cell | point | part deriving DecidableEq
def isK : Kd → Cq → Bool
  | .bl, .bool | .bl, .int | .int, .int | .str, .str | .pair, .pair | .fn, .fn | .cell, .cell | .point, .point | .part, .part => true
  | _, _ => false
def clsV (A : Ad) : Cq → V
  | .bool => .ty "bool"
  | .int => .ty "int"
  | .str => .ty "str"
  | .pair => .ref A.pa
  | .fn => .ref A.fu
  | .cell => .ref A.ce
  | .point => .ref A.po
  | .part => .ref A.pt
structure AllC (K : PySem.W.Frag) (A : Ad) : Prop where
  pa : OwnC K A.pa
  fu : OwnC K A.fu
  ce : OwnC K A.ce
  po : OwnC K A.po
  pt : OwnC K A.pt
  nd : [A.pl, A.pa, A.fu, A.ce, A.po, A.pt, A.no, A.fr, A.ma].Nodup
theorem kit_blt {K : PySem.W.Frag} {C : Addr} (T : OwnC K C) {n : String} {l : List Value} (h : PySem.fastBuiltinMro n = some l) (hl : l.all (fun v => match v with | .type _ => true | _ => false) = true) : PySem.W.kitOne K (.type n) (.ref C) = some false := by
  refine T.kit (b := false) ?_ (fun h => by cases beq_iff_eq.mp h)
  show (PySem.fastBuiltinMro n).map (·.contains (Value.ref C)) = some false
  rw [h, Option.map_some]
  congr 1
  cases hc : l.contains (Value.ref C) with
  | false => rfl
  | true =>
    have := List.all_eq_true.mp hl _ (List.contains_iff_mem.mp hc)
    cases this
theorem kit_ne {K : PySem.W.Frag} {C D : Addr} (T : OwnC K C) (U : OwnC K D) (n : C ≠ D) : PySem.W.kitOne K (.ref C) (.ref D) = some false := by
  refine U.kit (b := false) ?_ (fun h => absurd (Value.ref.inj (beq_iff_eq.mp h)) n)
  rw [T.sub]
  congr 1
  show (Value.ref D == Value.ref C || (Value.ref D == Value.type "object" || false)) = false
  have h1 : (Value.ref D == Value.ref C) = false := by
    cases h : (Value.ref D == Value.ref C)
    · rfl
    · exact absurd (Value.ref.inj (beq_iff_eq.mp h)).symm n
  rw [h1]
  rfl
theorem kit_eq {K : PySem.W.Frag} {C : Addr} : PySem.W.kitOne K (.ref C) (.ref C) = some true := by
  unfold PySem.W.kitOne
  rw [if_pos (by simp)]
theorem AllC.ne {K : PySem.W.Frag} {A : Ad} (T : AllC K A) : (A.pa ≠ A.fu ∧ A.pa ≠ A.ce ∧ A.pa ≠ A.po ∧ A.pa ≠ A.pt ∧ A.fu ≠ A.ce ∧ A.fu ≠ A.po ∧ A.fu ≠ A.pt ∧ A.ce ≠ A.po ∧ A.ce ≠ A.pt ∧ A.po ≠ A.pt) := by
  have h := T.nd
  simp only [List.nodup_cons, List.mem_cons, not_or] at h
  exact ⟨h.2.1.1, h.2.1.2.1, h.2.1.2.2.1, h.2.1.2.2.2.1, h.2.2.1.1, h.2.2.1.2.1, h.2.2.1.2.2.1, h.2.2.2.1.1, h.2.2.2.1.2.1, h.2.2.2.2.1.1⟩
theorem isi_ty {K : PySem.W.Frag} {A : Ad} {H : Hp} {v : V} {k : Kd} (T : AllC K A) (h : Wk A H v k) : ∃ t, TyX K H v t ∧ ∀ c, ∃ u, ClsV (clsV A c) u ∧ PySem.W.kitOne K t u = some (isK k c) := by
  obtain ⟨n1, n2, n3, n4, n5, n6, n7, n8, n9, n10⟩ := T.ne
  cases h with
  | non =>
    refine ⟨.type "NoneType", .base (.non), fun c => ?_⟩
    cases c with
    | bool => exact ⟨_, .ty "bool", kit_ty (by decide +kernel)⟩
    | int => exact ⟨_, .ty "int", kit_ty (by decide +kernel)⟩
    | str => exact ⟨_, .ty "str", kit_ty (by decide +kernel)⟩
    | pair => exact ⟨_, .own _, kit_blt T.pa (by rfl) (by rfl)⟩
    | fn => exact ⟨_, .own _, kit_blt T.fu (by rfl) (by rfl)⟩
    | cell => exact ⟨_, .own _, kit_blt T.ce (by rfl) (by rfl)⟩
    | point => exact ⟨_, .own _, kit_blt T.po (by rfl) (by rfl)⟩
    | part => exact ⟨_, .own _, kit_blt T.pt (by rfl) (by rfl)⟩
  | bl b =>
    refine ⟨.type "bool", .base (.bl b), fun c => ?_⟩
    cases c with
    | bool => exact ⟨_, .ty "bool", kit_ty (by decide +kernel)⟩
    | int => exact ⟨_, .ty "int", kit_ty (by decide +kernel)⟩
    | str => exact ⟨_, .ty "str", kit_ty (by decide +kernel)⟩
    | pair => exact ⟨_, .own _, kit_blt T.pa (by rfl) (by rfl)⟩
    | fn => exact ⟨_, .own _, kit_blt T.fu (by rfl) (by rfl)⟩
    | cell => exact ⟨_, .own _, kit_blt T.ce (by rfl) (by rfl)⟩
    | point => exact ⟨_, .own _, kit_blt T.po (by rfl) (by rfl)⟩
    | part => exact ⟨_, .own _, kit_blt T.pt (by rfl) (by rfl)⟩
  | int i =>
    refine ⟨.type "int", .base (.int i), fun c => ?_⟩
    cases c with
    | bool => exact ⟨_, .ty "bool", kit_ty (by decide +kernel)⟩
    | int => exact ⟨_, .ty "int", kit_ty (by decide +kernel)⟩
    | str => exact ⟨_, .ty "str", kit_ty (by decide +kernel)⟩
    | pair => exact ⟨_, .own _, kit_blt T.pa (by rfl) (by rfl)⟩
    | fn => exact ⟨_, .own _, kit_blt T.fu (by rfl) (by rfl)⟩
    | cell => exact ⟨_, .own _, kit_blt T.ce (by rfl) (by rfl)⟩
    | point => exact ⟨_, .own _, kit_blt T.po (by rfl) (by rfl)⟩
    | part => exact ⟨_, .own _, kit_blt T.pt (by rfl) (by rfl)⟩
  | str z =>
    refine ⟨.type "str", .base (.str z), fun c => ?_⟩
    cases c with
    | bool => exact ⟨_, .ty "bool", kit_ty (by decide +kernel)⟩
    | int => exact ⟨_, .ty "int", kit_ty (by decide +kernel)⟩
    | str => exact ⟨_, .ty "str", kit_ty (by decide +kernel)⟩
    | pair => exact ⟨_, .own _, kit_blt T.pa (by rfl) (by rfl)⟩
    | fn => exact ⟨_, .own _, kit_blt T.fu (by rfl) (by rfl)⟩
    | cell => exact ⟨_, .own _, kit_blt T.ce (by rfl) (by rfl)⟩
    | point => exact ⟨_, .own _, kit_blt T.po (by rfl) (by rfl)⟩
    | part => exact ⟨_, .own _, kit_blt T.pt (by rfl) (by rfl)⟩
  | pair e =>
    refine ⟨_, T.pa.tyOf e, fun c => ?_⟩
    cases c with
    | bool => exact ⟨_, .ty "bool", T.pa.kitB (by decide +kernel) (by decide)⟩
    | int => exact ⟨_, .ty "int", T.pa.kitB (by decide +kernel) (by decide)⟩
    | str => exact ⟨_, .ty "str", T.pa.kitB (by decide +kernel) (by decide)⟩
    | pair => exact ⟨_, .own _, kit_eq⟩
    | fn => exact ⟨_, .own _, kit_ne T.pa T.fu n1⟩
    | cell => exact ⟨_, .own _, kit_ne T.pa T.ce n2⟩
    | point => exact ⟨_, .own _, kit_ne T.pa T.po n3⟩
    | part => exact ⟨_, .own _, kit_ne T.pa T.pt n4⟩
  | fn e =>
    refine ⟨_, T.fu.tyOf e, fun c => ?_⟩
    cases c with
    | bool => exact ⟨_, .ty "bool", T.fu.kitB (by decide +kernel) (by decide)⟩
    | int => exact ⟨_, .ty "int", T.fu.kitB (by decide +kernel) (by decide)⟩
    | str => exact ⟨_, .ty "str", T.fu.kitB (by decide +kernel) (by decide)⟩
    | pair => exact ⟨_, .own _, kit_ne T.fu T.pa n1.symm⟩
    | fn => exact ⟨_, .own _, kit_eq⟩
    | cell => exact ⟨_, .own _, kit_ne T.fu T.ce n5⟩
    | point => exact ⟨_, .own _, kit_ne T.fu T.po n6⟩
    | part => exact ⟨_, .own _, kit_ne T.fu T.pt n7⟩
  | cell e =>
    refine ⟨_, T.ce.tyOf e, fun c => ?_⟩
    cases c with
    | bool => exact ⟨_, .ty "bool", T.ce.kitB (by decide +kernel) (by decide)⟩
    | int => exact ⟨_, .ty "int", T.ce.kitB (by decide +kernel) (by decide)⟩
    | str => exact ⟨_, .ty "str", T.ce.kitB (by decide +kernel) (by decide)⟩
    | pair => exact ⟨_, .own _, kit_ne T.ce T.pa n2.symm⟩
    | fn => exact ⟨_, .own _, kit_ne T.ce T.fu n5.symm⟩
    | cell => exact ⟨_, .own _, kit_eq⟩
    | point => exact ⟨_, .own _, kit_ne T.ce T.po n8⟩
    | part => exact ⟨_, .own _, kit_ne T.ce T.pt n9⟩
  | point e =>
    refine ⟨_, T.po.tyOf e, fun c => ?_⟩
    cases c with
    | bool => exact ⟨_, .ty "bool", T.po.kitB (by decide +kernel) (by decide)⟩
    | int => exact ⟨_, .ty "int", T.po.kitB (by decide +kernel) (by decide)⟩
    | str => exact ⟨_, .ty "str", T.po.kitB (by decide +kernel) (by decide)⟩
    | pair => exact ⟨_, .own _, kit_ne T.po T.pa n3.symm⟩
    | fn => exact ⟨_, .own _, kit_ne T.po T.fu n6.symm⟩
    | cell => exact ⟨_, .own _, kit_ne T.po T.ce n8.symm⟩
    | point => exact ⟨_, .own _, kit_eq⟩
    | part => exact ⟨_, .own _, kit_ne T.po T.pt n10⟩
  | part e =>
    refine ⟨_, T.pt.tyOf e, fun c => ?_⟩
    cases c with
    | bool => exact ⟨_, .ty "bool", T.pt.kitB (by decide +kernel) (by decide)⟩
    | int => exact ⟨_, .ty "int", T.pt.kitB (by decide +kernel) (by decide)⟩
    | str => exact ⟨_, .ty "str", T.pt.kitB (by decide +kernel) (by decide)⟩
    | pair => exact ⟨_, .own _, kit_ne T.pt T.pa n4.symm⟩
    | fn => exact ⟨_, .own _, kit_ne T.pt T.fu n7.symm⟩
    | cell => exact ⟨_, .own _, kit_ne T.pt T.ce n9.symm⟩
    | point => exact ⟨_, .own _, kit_ne T.pt T.po n10.symm⟩
    | part => exact ⟨_, .own _, kit_eq⟩
theorem isi {K : PySem.W.Frag} {A : Ad} {H : Hp} {v : V} {k : Kd} {Q : VK} (T : AllC K A) (h : Wk A H v k) (c : Cq) (q : Q (.bl (isK k c)) H) : rIsi K [v, clsV A c] H Q := by
  obtain ⟨t, ty, f⟩ := isi_ty T h
  obtain ⟨u, cv, kt⟩ := f c
  exact ⟨v, _, t, u, _, rfl, cv, ty, kt, q⟩
theorem Wk.keep {A : Ad} {H H' : Hp} {v : V} {k : Kd} (h : Wk A H v k) (s : ∀ x dx fs, H x = some (.ins A.pa dx fs) → H' x = some (.ins A.pa dx fs)) (s2 : ∀ x C dx fs, C = A.fu ∨ C = A.ce ∨ C = A.po ∨ C = A.pt → H x = some (.ins C dx fs) → ∃ dx2 fs2, H' x = some (.ins C dx2 fs2)) : Wk A H' v k := by
  cases h with
  | non => exact .non
  | bl b => exact .bl b
  | int i => exact .int i
  | str z => exact .str z
  | pair e => exact .pair (s _ _ _ e)
  | fn e => obtain ⟨_, _, q⟩ := s2 _ _ _ _ (.inl rfl) e; exact .fn q
  | cell e => obtain ⟨_, _, q⟩ := s2 _ _ _ _ (.inr (.inl rfl)) e; exact .cell q
  | point e => obtain ⟨_, _, q⟩ := s2 _ _ _ _ (.inr (.inr (.inl rfl))) e; exact .point q
  | part e => obtain ⟨_, _, q⟩ := s2 _ _ _ _ (.inr (.inr (.inr rfl))) e; exact .part q
theorem Wk.same {A : Ad} {H H' : Hp} {v : V} {k : Kd} (h : Wk A H v k) (s : Same H H') : Wk A H' v k := h.keep (fun _ _ _ e => s _ _ e) (fun _ _ _ _ _ e => ⟨_, _, s _ _ e⟩)
def rIsA (A : Ad) : List V → Hp → VK → Prop := fun xs H Q => ∃ (v : V) (k : Kd) (c : Cq), xs = [v, clsV A c] ∧ Wk A H v k ∧ Q (.bl (isK k c)) H
theorem call_isA {X : Cx} {A : Ad} (T : AllC X.K A) : CallR X (.builtin "isinstance") (rIsA A) := by
  intro pins s σ H xs us Q I r h
  obtain ⟨v, k, c, rfl, hw, q⟩ := h
  exact call_isi pins s σ H _ us Q I r (isi T hw c q)
end Wp
set_option Elab.async false
set_option linter.all false
set_option maxRecDepth 100000
set_option maxHeartbeats 1000000
namespace Wp
open PySem PySem.Spec PyProof.Rows L2
-- is_whole: slots thing 0
abbrev sis_whole : Stmt := top 15
theorem scis_whole : FnScope ["thing"] ["thing"] (defScope sis_whole) := ⟨rfl, rfl, rfl, by decide +kernel, rfl, by decide +kernel, by decide +kernel⟩
abbrev slis_whole : List Str := ["thing"]
-- kind_of: slots worth 0
abbrev skind_of : Stmt := top 16
theorem sckind_of : FnScope ["worth"] ["worth"] (defScope skind_of) := ⟨rfl, rfl, rfl, by decide +kernel, rfl, by decide +kernel, by decide +kernel⟩
abbrev slkind_of : List Str := ["worth"]
-- shown_alone: slots worth 0, kind 1
abbrev sshown_alone : Stmt := top 20
theorem scshown_alone : FnScope ["worth", "kind"] ["worth"] (defScope sshown_alone) := ⟨rfl, rfl, rfl, by decide +kernel, rfl, by decide +kernel, by decide +kernel⟩
abbrev slshown_alone : List Str := ["worth", "kind"]
-- are_whole: slots one 0, two 1
abbrev sare_whole : Stmt := top 23
theorem scare_whole : FnScope ["one", "two"] ["one", "two"] (defScope sare_whole) := ⟨rfl, rfl, rfl, by decide +kernel, rfl, by decide +kernel, by decide +kernel⟩
abbrev slare_whole : List Str := ["one", "two"]
-- bounded_number: slots number 0
abbrev sbounded_number : Stmt := top 24
theorem scbounded_number : FnScope ["number"] ["number"] (defScope sbounded_number) := ⟨rfl, rfl, rfl, by decide +kernel, rfl, by decide +kernel, by decide +kernel⟩
abbrev slbounded_number : List Str := ["number"]
-- bounded_text: slots text 0
abbrev sbounded_text : Stmt := top 25
theorem scbounded_text : FnScope ["text"] ["text"] (defScope sbounded_text) := ⟨rfl, rfl, rfl, by decide +kernel, rfl, by decide +kernel, by decide +kernel⟩
abbrev slbounded_text : List Str := ["text"]
def kdName : Kd → Str
  | .non => "none"
  | .bl => "truth"
  | .int => "number"
  | .str => "text"
  | .pair => "pair"
  | .fn => "fun"
  | .cell => "cell"
  | .point => "point"
  | .part => "part"
def spWhole (A : Ad) : Sp := fun vs H Q _ => ∃ v k, vs = [v] ∧ Wk A H v k ∧ Q (.bl (decide (k = .int))) H
def spKind (A : Ad) : Sp := fun vs H Q _ => ∃ v k, vs = [v] ∧ Wk A H v k ∧ Q (.str (kdName k)) H
def spWhole2 (A : Ad) : Sp := fun vs H Q _ => ∃ v1 k1 v2 k2, vs = [v1, v2] ∧ Wk A H v1 k1 ∧ Wk A H v2 k2 ∧ Q (.bl (decide (k1 = .int) && decide (k2 = .int))) H
/-- a new pair of a text and a worth is told -/
def Told (H : Hp) (z : Str) (v : V) (Q : VK) : Prop := ∀ p H', Same H H' → H p = none → H' p = some (.tup [.str z, v]) → Q (.ref p) H'
theorem told_new {H : Hp} {z : Str} {v : V} {Q : VK} (q : Told H z v Q) : ∀ p, H p = none → Q (.ref p) (upd H p (.tup [.str z, v])) := fun p hp => q p _ (same_new hp) hp upd_same
theorem Told.same {H H1 : Hp} {z : Str} {v : V} {Q : VK} (q : Told H z v Q) (s : Same H H1) : Told H1 z v Q := fun p H' s' hp h => q p H' (fun b o e => s' _ _ (s _ _ e)) (by
  cases e : H p with
  | none => rfl
  | some o => rw [s _ _ e] at hp; cases hp) h
def far : Int := 10 ^ 60
def spNum : Sp := fun vs H Q _ => ∃ i : Int, vs = [.int i] ∧ (i.natAbs < far.natAbs → Told H "worth" (.int i) Q) ∧ (far.natAbs ≤ i.natAbs → Told H "fault" (.str "too great") Q)
section
variable {P : Program} {w : World} {K : PySem.W.Frag} {mg : Str → Option Value} {base : Heap} {f : Addr} {fd : FuncData} {A : Ad}
theorem ok_whole (F : Fun K "is_whole" "is_whole" sis_whole f fd) (T : AllC K A) (m_isinstance : mg "isinstance" = none) (m_int : mg "int" = none) (m_bool : mg "bool" = none) : FnOk P w K mg base CX0 1 f fd ["thing"] (spWhole A) := by
  refine F.ok scis_whole (fun vs H Q E h => ?_) (fun cdv A' outer s H vs Q E hr h => ?_)
  · obtain ⟨v, k, rfl, _⟩ := h
    rfl
  obtain ⟨v, k, rfl, h, q⟩ := h
  refine ⟨_, (pss_one (ps_ret (pe_and (pe_callB (call_isA T) rfl m_isinstance PyProof.Rows.Boot.isinstance (pa_cons (pv 0) (pa_cons (pe_bltn (v := .ty "int") rfl m_int PyProof.Rows.Boot.«int» rfl) pa_nil))) (pe_one (pe_not (pe_callB (call_isA T) rfl m_isinstance PyProof.Rows.Boot.isinstance (pa_cons (pv 0) (pa_cons (pe_bltn (v := .ty "bool") rfl m_bool PyProof.Rows.Boot.«bool» rfl) pa_nil)))))))), ?_⟩
  refine ⟨_, rfl, v, _, .int, rfl, h, _, rfl, ?_⟩
  cases k with
  | int => exact ⟨_, rfl, v, _, .bool, rfl, h, _, rfl, q⟩
  | bl => exact ⟨_, rfl, v, _, .bool, rfl, h, _, rfl, q⟩
  | _ => exact q
theorem ok_kind (F : Fun K "kind_of" "kind_of" skind_of f fd) (T : AllC K A) (m_isinstance : mg "isinstance" = none) (m_int : mg "int" = none) (m_bool : mg "bool" = none) (m_str : mg "str" = none) (m_Pair : mg "Pair" = some (.ref A.pa)) (m_Fun : mg "Fun" = some (.ref A.fu)) (m_Cell : mg "Cell" = some (.ref A.ce)) (m_Point : mg "Point" = some (.ref A.po)) : FnOk P w K mg base CX0 1 f fd ["worth"] (spKind A) := by
  refine F.ok sckind_of (fun vs H Q E h => ?_) (fun cdv A' outer s H vs Q E hr h => ?_)
  · obtain ⟨v, k, rfl, _⟩ := h
    rfl
  obtain ⟨v, k, rfl, h, q⟩ := h
  refine ⟨_, (pss_cons (ps_if (pt_cmpR op_isN (pv 0) pe_non (nomark _)) (pss_one (ps_ret pe_str)) pss_nil)
  (pss_cons (ps_if (pt_val (pe_callB (call_isA T) rfl m_isinstance PyProof.Rows.Boot.isinstance (pa_cons (pv 0) (pa_cons (pe_bltn (v := .ty "bool") rfl m_bool PyProof.Rows.Boot.«bool» rfl) pa_nil)))) (pss_one (ps_ret pe_str)) pss_nil)
  (pss_cons (ps_if (pt_val (pe_callB (call_isA T) rfl m_isinstance PyProof.Rows.Boot.isinstance (pa_cons (pv 0) (pa_cons (pe_bltn (v := .ty "int") rfl m_int PyProof.Rows.Boot.«int» rfl) pa_nil)))) (pss_one (ps_ret pe_str)) pss_nil)
  (pss_cons (ps_if (pt_val (pe_callB (call_isA T) rfl m_isinstance PyProof.Rows.Boot.isinstance (pa_cons (pv 0) (pa_cons (pe_bltn (v := .ty "str") rfl m_str PyProof.Rows.Boot.«str» rfl) pa_nil)))) (pss_one (ps_ret pe_str)) pss_nil)
  (pss_cons (ps_if (pt_val (pe_callB (call_isA T) rfl m_isinstance PyProof.Rows.Boot.isinstance (pa_cons (pv 0) (pa_cons (pe_glob (v := .ref A.pa) rfl m_Pair rfl) pa_nil)))) (pss_one (ps_ret pe_str)) pss_nil)
  (pss_cons (ps_if (pt_val (pe_callB (call_isA T) rfl m_isinstance PyProof.Rows.Boot.isinstance (pa_cons (pv 0) (pa_cons (pe_glob (v := .ref A.fu) rfl m_Fun rfl) pa_nil)))) (pss_one (ps_ret pe_str)) pss_nil)
  (pss_cons (ps_if (pt_val (pe_callB (call_isA T) rfl m_isinstance PyProof.Rows.Boot.isinstance (pa_cons (pv 0) (pa_cons (pe_glob (v := .ref A.ce) rfl m_Cell rfl) pa_nil)))) (pss_one (ps_ret pe_str)) pss_nil)
  (pss_cons (ps_if (pt_val (pe_callB (call_isA T) rfl m_isinstance PyProof.Rows.Boot.isinstance (pa_cons (pv 0) (pa_cons (pe_glob (v := .ref A.po) rfl m_Point rfl) pa_nil)))) (pss_one (ps_ret pe_str)) pss_nil)
  (pss_one (ps_ret pe_str)))))))))), ?_⟩
  refine ⟨_, rfl, rfl, _, rfl, ?_⟩
  by_cases hn : k = .non
  · subst hn
    cases h
    exact q
  refine ite2 (fun c => ?_) (fun _ => ?_)
  · have c1 := of_decide_eq_true c
    subst c1
    cases h
    exact absurd rfl hn
  refine ⟨_, rfl, v, _, .bool, rfl, h, _, rfl, ?_⟩
  cases k with
  | non => exact absurd rfl hn
  | bl => exact q
  | int => exact ⟨_, rfl, v, _, .int, rfl, h, _, rfl, q⟩
  | str => exact ⟨_, rfl, v, _, .int, rfl, h, _, rfl, _, rfl, v, _, .str, rfl, h, _, rfl, q⟩
  | pair => exact ⟨_, rfl, v, _, .int, rfl, h, _, rfl, _, rfl, v, _, .str, rfl, h, _, rfl, _, rfl, v, _, .pair, rfl, h, _, rfl, q⟩
  | fn => exact ⟨_, rfl, v, _, .int, rfl, h, _, rfl, _, rfl, v, _, .str, rfl, h, _, rfl, _, rfl, v, _, .pair, rfl, h, _, rfl, _, rfl, v, _, .fn, rfl, h, _, rfl, q⟩
  | cell => exact ⟨_, rfl, v, _, .int, rfl, h, _, rfl, _, rfl, v, _, .str, rfl, h, _, rfl, _, rfl, v, _, .pair, rfl, h, _, rfl, _, rfl, v, _, .fn, rfl, h, _, rfl, _, rfl, v, _, .cell, rfl, h, _, rfl, q⟩
  | point => exact ⟨_, rfl, v, _, .int, rfl, h, _, rfl, _, rfl, v, _, .str, rfl, h, _, rfl, _, rfl, v, _, .pair, rfl, h, _, rfl, _, rfl, v, _, .fn, rfl, h, _, rfl, _, rfl, v, _, .cell, rfl, h, _, rfl, _, rfl, v, _, .point, rfl, h, _, rfl, q⟩
  | part => exact ⟨_, rfl, v, _, .int, rfl, h, _, rfl, _, rfl, v, _, .str, rfl, h, _, rfl, _, rfl, v, _, .pair, rfl, h, _, rfl, _, rfl, v, _, .fn, rfl, h, _, rfl, _, rfl, v, _, .cell, rfl, h, _, rfl, _, rfl, v, _, .point, rfl, h, _, rfl, q⟩
theorem ok_whole2 (F : Fun K "are_whole" "are_whole" sare_whole f fd) (Gis_whole : Has P w K mg base "is_whole" ["thing"] 1 (spWhole A)) : FnOk P w K mg base CX0 2 f fd ["one", "two"] (spWhole2 A) := by
  refine F.ok scare_whole (fun vs H Q E h => ?_) (fun cdv A' outer s H vs Q E hr h => ?_)
  · obtain ⟨v1, k1, v2, k2, rfl, _⟩ := h
    rfl
  obtain ⟨v1, k1, v2, k2, rfl, h1, h2, q⟩ := h
  refine ⟨_, (pss_one (ps_ret (pe_and (pe_has Gis_whole (hr.mono (by omega)) (pa_cons (pv 0) pa_nil)) (pe_one (pe_has Gis_whole (hr.mono (by omega)) (pa_cons (pv 1) pa_nil)))))), ?_⟩
  refine ⟨_, rfl, v1, k1, rfl, h1, _, rfl, ?_⟩
  cases hd : decide (k1 = .int) with
  | true =>
    rw [hd] at q
    exact ⟨_, rfl, v2, k2, rfl, h2, q⟩
  | false =>
    rw [hd] at q
    exact q
theorem ok_num (F : Fun K "bounded_number" "bounded_number" sbounded_number f fd) (m_abs : mg "abs" = none) {tg : Tok} (m_TOO_GREAT : mg "TOO_GREAT" = some (.int far tg)) : FnOk P w K mg base CX0 1 f fd ["number"] spNum := by
  refine F.ok scbounded_number (fun vs H Q E h => ?_) (fun cdv A' outer s H vs Q E hr h => ?_)
  · obtain ⟨i, rfl, _⟩ := h
    rfl
  obtain ⟨i, rfl, q1, q2⟩ := h
  refine ⟨_, (pss_cons (ps_if (pt_cmpR op_ge (pe_callB call_abs rfl m_abs PyProof.Rows.Boot.abs (pa_cons (pv 0) pa_nil)) (pe_glob (v := (.int far)) rfl m_TOO_GREAT ⟨_, rfl⟩) (nomark _)) (pss_one (ps_ret (pe_tup (pa_cons pe_str (pa_cons pe_str pa_nil))))) pss_nil)
  (pss_one (ps_ret (pe_tup (pa_cons pe_str (pa_cons (pv 0) pa_nil)))))), ?_⟩
  refine ⟨_, rfl, _, rfl, _, _, rfl, rfl, _, rfl, ?_⟩
  have e : (if i < 0 then -i else i) = (i.natAbs : Int) := by
    split <;> omega
  have e2 : (far.natAbs : Int) = far := by decide
  refine ite2 (fun c => ?_) (fun c => ?_)
  · have c1 := of_decide_eq_true c
    rw [e, ← e2] at c1
    exact ⟨(by show 2 ≤ sizeLine; decide), told_new (q2 (by omega))⟩
  · have c1 : ¬ ((if i < 0 then -i else i) ≥ far) := fun z => c (decide_eq_true z)
    rw [e, ← e2] at c1
    exact ⟨_, rfl, (by show 2 ≤ sizeLine; decide), told_new (q1 (by omega))⟩
end
end Wp
set_option Elab.async false
set_option linter.all false
set_option maxRecDepth 100000
set_option maxHeartbeats 1000000
namespace Wp
open PySem PySem.Spec PyProof.Rows L2
/-! ### texts of worths -/
-- shown: slots worth 0, pieces 1, waiting 2, what 3, thing 4
abbrev sshown : Stmt := top 21
theorem scshown : FnScope ["worth", "pieces", "waiting", "what", "thing"] ["worth"] (defScope sshown) := ⟨rfl, rfl, rfl, by decide +kernel, rfl, by decide +kernel, by decide +kernel⟩
abbrev slshown : List Str := ["worth", "pieces", "waiting", "what", "thing"]
def shA : V → Kd → Str
  | .int i, _ => toString i
  | .str z, _ => "\"" ++ z ++ "\""
  | .bl b, _ => if b then "yes" else "no"
  | _, k => kdName k
def LeafOk : V → Prop
  | .int i => i.natAbs.log2 < 1920
  | .str z => z.length ≤ 100000
  | _ => True
def spShA (A : Ad) : Sp := fun vs H Q _ => ∃ v k, vs = [v] ∧ Wk A H v k ∧ LeafOk v ∧ k ≠ .pair ∧ Q (.str (shA v k)) H
inductive Sh (A : Ad) (H : Hp) : V → List Nat → Nat → Prop
  | leaf {v : V} {k : Kd} {cs : List Nat} : Wk A H v k → LeafOk v → k ≠ .pair → (shA v k).cps.toList = cs → Sh A H v cs 1
  | pair {x dx : Addr} {a b : V} {za zb : List Nat} {na nb : Nat} : H x = some (.ins A.pa dx [("first", a), ("rest", b)]) → Sh A H a za na → Sh A H b zb nb → Sh A H (.ref x) ([40] ++ (za ++ ([32, 46, 32] ++ (zb ++ [41])))) (na + nb + 4)
theorem Sh.same {A : Ad} {H H' : Hp} {v : V} {cs : List Nat} {n : Nat} (h : Sh A H v cs n) (s : Same H H') : Sh A H' v cs n := by
  induction h with
  | leaf h1 h2 h3 h4 => exact .leaf (h1.same s) h2 h3 h4
  | pair h1 _ _ i1 i2 => exact .pair (s _ _ h1) i1 i2
def codes (ts : List Str) : List Nat := ts.flatMap (·.cps.toList)
theorem codes_app (a b : List Str) : codes (a ++ b) = codes a ++ codes b := by unfold codes; exact List.flatMap_append
theorem join_codes0 : ∀ ts : List Str, (Str.join "" ts).cps.toList = codes ts
  | [] => rfl
  | [x] => by
    show x.cps.toList = x.cps.toList ++ []
    rw [List.append_nil]
  | x :: y :: r => by
    have k := join_codes0 (y :: r)
    show ((x ++ "") ++ Str.join "" (y :: r)).cps.toList = x.cps.toList ++ codes (y :: r)
    rw [← k, Str.cps_append, Str.cps_append, Array.toList_append, Array.toList_append]
    have e : ("" : Str).cps.toList = [] := by decide +kernel
    rw [e, List.append_nil]
theorem join_codes (ts : List Str) : (Txt.join "" ts).cps.toList = codes ts := by
  show (Builtin.Str.glued "" ts).cps.toList = codes ts
  rw [StrLaws.glued_eq_join]
  exact join_codes0 ts
theorem sum_codes : ∀ ts : List Str, (ts.map (·.length)).sum = (codes ts).length
  | [] => rfl
  | t :: ts => by
    show t.length + (ts.map (·.length)).sum = (t.cps.toList ++ codes ts).length
    rw [List.length_append, sum_codes ts]
    rfl
theorem str_ext {x y : Str} (h : x.cps.toList = y.cps.toList) : x = y := by
  cases x; cases y
  congr 1
  exact Array.toList_inj.mp h
/-- what waits: a sign or a worth, with its text and its weight -/
def It (A : Ad) (H0 H : Hp) (v : V) (e : List Nat × Nat) : Prop := ∃ t, v = .ref t ∧ ((∃ z : Str, H t = some (.tup [.str "sign", .str z]) ∧ z.cps.toList = e.1 ∧ 1 ≤ e.2) ∨ ∃ u, H t = some (.tup [.str "worth", u]) ∧ Sh A H0 u e.1 e.2)
theorem It.st {A : Ad} {H0 H H' : Hp} {v : V} {e : List Nat × Nat} (h : It A H0 H v e) (k : Tp H H') : It A H0 H' v e := by
  obtain ⟨t, rfl, h⟩ := h
  refine ⟨t, rfl, ?_⟩
  rcases h with ⟨z, h1, h2⟩ | ⟨u, h1, h2⟩
  · exact .inl ⟨z, k _ _ h1, h2⟩
  · exact .inr ⟨u, k _ _ h1, h2⟩
inductive Its (A : Ad) (H0 H : Hp) : List V → List (List Nat × Nat) → Prop
  | nil : Its A H0 H [] []
  | snoc {vs : List V} {es : List (List Nat × Nat)} {v : V} {e : List Nat × Nat} : Its A H0 H vs es → It A H0 H v e → Its A H0 H (vs ++ [v]) (es ++ [e])
theorem Its.st {A : Ad} {H0 H H' : Hp} {vs : List V} {es : List (List Nat × Nat)} (h : Its A H0 H vs es) (k : Tp H H') : Its A H0 H' vs es := by
  induction h with
  | nil => exact .nil
  | snoc _ h2 ih => exact .snoc ih (h2.st k)
theorem Its.len {A : Ad} {H0 H : Hp} {vs : List V} {es : List (List Nat × Nat)} (h : Its A H0 H vs es) : vs.length = es.length := by
  induction h with
  | nil => rfl
  | snoc _ _ ih => simp [ih]
def wtS (es : List (List Nat × Nat)) : Nat := (es.map (·.2)).sum
def txS (es : List (List Nat × Nat)) : List Nat := es.reverse.flatMap (·.1)
theorem wtS_snoc (es : List (List Nat × Nat)) (e : List Nat × Nat) : wtS (es ++ [e]) = wtS es + e.2 := by simp [wtS]
theorem txS_snoc (es : List (List Nat × Nat)) (e : List Nat × Nat) : txS (es ++ [e]) = e.1 ++ txS es := by simp [txS]
theorem sh_pos {A : Ad} {H : Hp} {v : V} {cs : List Nat} {n : Nat} (h : Sh A H v cs n) : 1 ≤ n := by cases h <;> omega
theorem its_wt {A : Ad} {H0 H : Hp} {vs : List V} {es : List (List Nat × Nat)} (h : Its A H0 H vs es) : es.length ≤ wtS es := by
  induction h with
  | nil => exact Nat.le_refl _
  | @snoc _ es2 _ e _ h2 ih =>
    rw [wtS_snoc, List.length_append]
    obtain ⟨t, _, h2⟩ := h2
    rcases h2 with ⟨_, _, _, h⟩ | ⟨_, _, h⟩
    · show es2.length + 1 ≤ _
      omega
    · have := sh_pos h
      show es2.length + 1 ≤ _
      omega
def spShown (A : Ad) : Sp := fun vs H Q _ => ∃ v cs n, vs = [v] ∧ Sh A H v cs n ∧ n ≤ 1000 ∧ cs.length ≤ 100000 ∧ ∀ (z : Str) H', z.cps.toList = cs → Same H H' → Q (.str z) H'
/-- a new tuple at the end of the list at l -/
theorem pushed {H : Hp} {l t : Addr} {xs vs : List V} (hl : H l = some (.lst xs)) (ht : H t = none) : Gx l H (upd (upd H t (.tup vs)) l (.lst (xs ++ [.ref t]))) ∧ upd (upd H t (.tup vs)) l (.lst (xs ++ [.ref t])) l = some (.lst (xs ++ [.ref t])) ∧ upd (upd H t (.tup vs)) l (.lst (xs ++ [.ref t])) t = some (.tup vs) :=
  ⟨fun b o n e => by rw [upd_ne n, upd_ne (ne_of_none e ht)]; exact e, upd_same, by rw [upd_ne (fun z => by rw [z, hl] at ht; cases ht), upd_same]⟩
section
variable {P : Program} {w : World} {K : PySem.W.Frag} {mg : Str → Option Value} {base : Heap} {f : Addr} {fd : FuncData} {A : Ad}
theorem ok_shA (F : Fun K "shown_alone" "shown_alone" sshown_alone f fd) (m_str : mg "str" = none) (Gkind_of : Has P w K mg base "kind_of" ["worth"] 1 (spKind A)) : FnOk P w K mg base CX0 2 f fd ["worth"] (spShA A) := by
  refine F.ok scshown_alone (fun vs H Q E h => ?_) (fun cdv A' outer s H vs Q E hr h => ?_)
  · obtain ⟨v, k, rfl, _⟩ := h
    rfl
  obtain ⟨v, k, rfl, h, lf, np, q⟩ := h
  refine ⟨_, (pss_cons (ps_set (i := 1) scshown_alone.nd rfl (.inl rfl) (pe_has Gkind_of (hr.mono (by omega)) (pa_cons (pv 0) pa_nil)))
  (pss_cons (ps_if (pt_cmpR op_eq (pv 1) pe_str (nomark _)) (pss_one (ps_ret (pe_callTy call_str_int rfl m_str PyProof.Rows.Boot.«str» (pa_cons (pv 0) pa_nil)))) pss_nil)
  (pss_cons (ps_if (pt_cmpR op_eq (pv 1) pe_str (nomark _)) (pss_one (ps_ret (pe_op op_add_str (pe_op op_add_str pe_str (pv 0)) pe_str))) pss_nil)
  (pss_cons (ps_if (pt_cmpR op_eq (pv 1) pe_str (nomark _)) (pss_one (ps_ret (pe_ifExp (pt_val (pv 0)) pe_str pe_str))) pss_nil)
  (pss_one (ps_ret (pv 1))))))), ?_⟩
  refine ⟨_, rfl, v, k, rfl, h, ?_⟩
  refine ⟨_, rfl, rfl, _, rfl, ?_⟩
  cases h with
  | int i => exact ite2 (fun _ => ⟨_, rfl, i, rfl, lf, q⟩) (fun c => absurd (by decide) c)
  | str z =>
    refine ite2 (fun c => absurd c (by decide)) (fun _ => ⟨_, rfl, rfl, _, rfl, ite2 (fun _ => ?_) (fun c => absurd (by decide) c)⟩)
    have l1 : ("\"" : Str).length = 1 := by decide +kernel
    have l2 : z.length ≤ 100000 := lf
    refine ⟨_, rfl, _, _, rfl, rfl, ?_, _, _, rfl, rfl, ?_, q⟩
    · rw [sizeLine_eq, l1]; omega
    · rw [sizeLine_eq, Str.length_append, l1]; omega
  | bl b =>
    refine ite2 (fun c => absurd c (by decide)) (fun _ => ⟨_, rfl, rfl, _, rfl, ite2 (fun c => absurd c (by decide)) (fun _ => ⟨_, rfl, rfl, _, rfl, ite2 (fun _ => ?_) (fun c => absurd (by decide) c)⟩)⟩)
    cases b with
    | true => exact ⟨_, rfl, _, rfl, q⟩
    | false => exact ⟨_, rfl, _, rfl, q⟩
  | pair e => exact absurd rfl np
  | _ =>
    exact ite2 (fun c => absurd c (by decide)) (fun _ => ⟨_, rfl, rfl, _, rfl, ite2 (fun c => absurd c (by decide)) (fun _ => ⟨_, rfl, rfl, _, rfl, ite2 (fun c => absurd c (by decide)) (fun _ => ⟨_, rfl, q⟩)⟩)⟩)
end
end Wp
set_option Elab.async false
set_option linter.all false
set_option maxRecDepth 100000
set_option maxHeartbeats 1000000
namespace Wp
open PySem PySem.Spec PyProof.Rows L2
theorem its_last {A : Ad} {H0 H : Hp} {vs : List V} {es : List (List Nat × Nat)} (h : Its A H0 H vs es) (n : vs ≠ []) : ∃ vs' es' v e, vs = vs' ++ [v] ∧ es = es' ++ [e] ∧ Its A H0 H vs' es' ∧ It A H0 H v e := by
  cases h with
  | nil => exact absurd rfl n
  | snoc h1 h2 => exact ⟨_, _, _, _, rfl, rfl, h1, h2⟩
theorem last_at {α : Type} (xs : List α) (y : α) : (xs ++ [y])[(xs ++ [y]).length - 1]? = some y := by simp
def ShW (A : Ad) (H0 : Hp) (v : V) (lp lw : Addr) (cs : List Nat) (n0 m : Nat) (σ : L2.St) (H : Hp) : Prop := ∃ o3 o4 ps ws es, σ = [some v, some (.ref lp), some (.ref lw), o3, o4] ∧ H lp = some (.lst (ps.map V.str)) ∧ H lw = some (.lst ws) ∧ Its A H0 H ws es ∧ codes ps ++ txS es = cs ∧ ps.length + wtS es ≤ n0 ∧ Same H0 H ∧ m = wtS es
section
variable {P : Program} {w : World} {K : PySem.W.Frag} {mg : Str → Option Value} {base : Heap} {f : Addr} {fd : FuncData} {A : Ad}
theorem ok_shown (F : Fun K "shown" "shown" sshown f fd) (T : AllC K A) (TP : TxC K A.pa ["first", "rest"]) (m_isinstance : mg "isinstance" = none) (m_Pair : mg "Pair" = some (.ref A.pa)) (Gshown_alone : Has P w K mg base "shown_alone" ["worth"] 2 (spShA A)) : FnOk P w K mg base CX0 3 f fd ["worth"] (spShown A) := by
  refine F.ok scshown (fun vs H Q E h => ?_) (fun cdv A' outer s H0 vs Q E hr h => ?_)
  · obtain ⟨v, cs, n, rfl, _⟩ := h
    rfl
  obtain ⟨v, cs, n0, rfl, hs, hn, hc, q⟩ := h
  refine ⟨_, (pss_cons (ps_set (i := 1) scshown.nd rfl (.inl rfl) (pe_lst pa_nil))
  (pss_cons (ps_set (i := 2) scshown.nd rfl (.inl rfl) (pe_lst (pa_cons (pe_tup (pa_cons pe_str (pa_cons (pv 0) pa_nil))) pa_nil)))
  (pss_cons (ps_while PassesOwn.never (pt_truth (pv 2) (fun _ => rfl)) (pss_cons (ps_asg (pe_bm0 PySem.F.plainAttrs_list PySem.F.slot_list_pop PySem.F.type_list_pop mt_pop (pv 2)) (pg_tup rfl (pgs_cons (pg_name (i := 3) scshown.nd rfl (.inl rfl)) (pgs_cons (pg_name (i := 4) scshown.nd rfl (.inl rfl)) pgs_nil))))
  (pss_one (ps_if (pt_cmpR op_eq (pv 3) pe_str (nomark _)) (pss_one (ps_expr (pe_bm PySem.F.plainAttrs_list PySem.F.slot_list_append PySem.F.type_list_append mt_append (pv 1) (pa_cons (pv 4) pa_nil)))) (pss_one (ps_if (pt_val (pe_callB (call_isA T) rfl m_isinstance PyProof.Rows.Boot.isinstance (pa_cons (pv 4) (pa_cons (pe_glob (v := .ref A.pa) rfl m_Pair rfl) pa_nil)))) (pss_cons (ps_expr (pe_bm PySem.F.plainAttrs_list PySem.F.slot_list_append PySem.F.type_list_append mt_append (pv 2) (pa_cons (pe_tup (pa_cons pe_str (pa_cons pe_str pa_nil))) pa_nil)))
  (pss_cons (ps_expr (pe_bm PySem.F.plainAttrs_list PySem.F.slot_list_append PySem.F.type_list_append mt_append (pv 2) (pa_cons (pe_tup (pa_cons pe_str (pa_cons (pe_fld (pv 4) rfl) pa_nil))) pa_nil)))
  (pss_cons (ps_expr (pe_bm PySem.F.plainAttrs_list PySem.F.slot_list_append PySem.F.type_list_append mt_append (pv 2) (pa_cons (pe_tup (pa_cons pe_str (pa_cons pe_str pa_nil))) pa_nil)))
  (pss_cons (ps_expr (pe_bm PySem.F.plainAttrs_list PySem.F.slot_list_append PySem.F.type_list_append mt_append (pv 2) (pa_cons (pe_tup (pa_cons pe_str (pa_cons (pe_fld (pv 4) rfl) pa_nil))) pa_nil)))
  (pss_one (ps_expr (pe_bm PySem.F.plainAttrs_list PySem.F.slot_list_append PySem.F.type_list_append mt_append (pv 2) (pa_cons (pe_tup (pa_cons pe_str (pa_cons pe_str pa_nil))) pa_nil)))))))) (pss_one (ps_expr (pe_bm PySem.F.plainAttrs_list PySem.F.slot_list_append PySem.F.type_list_append mt_append (pv 1) (pa_cons (pe_has Gshown_alone (hr.mono (by omega)) (pa_cons (pv 4) pa_nil)) pa_nil))))))))))
  (pss_one (ps_ret (pe_join pe_str (pv 1))))))), ?_⟩
  refine ⟨(by decide), fun lp nlp => ?_⟩
  refine ⟨_, rfl, (by show 2 ≤ sizeLine; decide), fun t0 nt0 => ⟨(by show 1 ≤ sizeLine; decide), fun lw nlw => ?_⟩⟩
  have d1 : lp ≠ t0 := fun z => by rw [← z, upd_same] at nt0; cases nt0
  have d2 : lp ≠ lw := fun z => by rw [← z, upd_ne d1, upd_same] at nlw; cases nlw
  have d3 : t0 ≠ lw := fun z => by rw [← z, upd_same] at nlw; cases nlw
  have n1 : H0 t0 = none := by rw [upd_ne d1.symm] at nt0; exact nt0
  have n2 : H0 lw = none := by rw [upd_ne d3.symm, upd_ne d2.symm] at nlw; exact nlw
  refine ⟨ShW A H0 v lp lw cs n0, ⟨n0, none, none, [], [.ref t0], [(cs, n0)], rfl, ?_, upd_same, ?_, ?_, ?_, ?_, ?_⟩, ?_⟩
  · rw [upd_ne d2, upd_ne d1, upd_same]; rfl
  · exact .snoc (vs := []) (es := []) .nil ⟨t0, rfl, .inr ⟨v, by rw [upd_ne d3, upd_same], hs⟩⟩
  · simp [codes, txS]
  · simp [wtS]
  · intro b o e
    rw [upd_ne (ne_of_none e n2), upd_ne (ne_of_none e n1), upd_ne (ne_of_none e nlp)]
    exact e
  · simp [wtS]
  intro m σ H ⟨o3, o4, ps, ws, es, es0, hlp, hlw, its, tx, wt, sm, em⟩
  subst es0
  refine ⟨_, rfl, !ws.isEmpty, .inl ⟨ws, SqL.of hlw, rfl⟩, ?_⟩
  by_cases hw : ws = []
  · subst hw
    have ee : es = [] := by
      have := its.len
      cases es with
      | nil => rfl
      | cons _ _ => cases this
    subst ee
    refine iteF ?_
    have tx2 : codes ps = cs := by simpa [txS] using tx
    refine ⟨⟨_, rfl⟩, _, rfl, "", lp, ps, rfl, rfl, .inl (SqL.of hlp), ?_, ?_⟩
    · rw [sum_codes, tx2]
      have : ("" : Str).length = 0 := by decide +kernel
      rw [this]
      omega
    · exact q _ _ ((join_codes ps).trans tx2) sm
  obtain ⟨ws', es', x, ⟨ec0, en0⟩, rfl, rfl, its', it⟩ := its_last its hw
  have hb : (!(ws' ++ [x]).isEmpty) = true := by simp
  rw [hb]
  rw [wtS_snoc] at wt em
  rw [txS_snoc] at tx
  dsimp only at wt em tx
  have wl := its_wt its'
  have ll := its'.len
  obtain ⟨t, rfl, it⟩ := it
  have htt : ∃ a b, H t = some (.tup [a, b]) := by
    rcases it with ⟨z, h1, _⟩ | ⟨u, h1, _⟩
    · exact ⟨_, _, h1⟩
    · exact ⟨_, _, h1⟩
  obtain ⟨ta, tb, htt⟩ := htt
  have ntw : t ≠ lw := ne_of htt hlw (by intro z; cases z)
  have nlpw : lp ≠ lw := d2
  have nlw0 : H0 lw = none := n2
  have nlp0 : H0 lp = none := nlp
  refine iteT ?_
  refine ⟨fun σ' H' => ∃ m', m' < m ∧ ShW A H0 v lp lw cs n0 m' σ' H', fun σ' H' h => h, ?_⟩
  refine ⟨_, rfl, .inl ⟨rfl, _, SqL.of hlw⟩, lw, _, .ref t, rfl, rfl, hlw, last_at _ _, ?_⟩
  rw [List.dropLast_concat]
  have g1 : Gx lw H (upd H lw (.lst ws')) := fun b o n e => by rw [upd_ne n]; exact e
  have hw1 : upd H lw (.lst ws') lw = some (.lst ws') := upd_same
  generalize upd H lw (.lst ws') = H1 at g1 hw1 ⊢
  have hlp1 := g1 _ _ nlpw hlp
  have tp1 : Tp H H1 := fun b xs e => g1 _ _ (ne_of e hlw (by intro z; cases z)) e
  have sm1 : Same H0 H1 := fun b o e => g1 _ _ (ne_of_none e nlw0) (sm _ _ e)
  have its1 := its'.st tp1
  dsimp only at it
  rcases it with ⟨z, h1, h2, h3⟩ | ⟨u, h1, h2⟩
  · refine ⟨t, _, rfl, SqT.of (tp1 _ _ h1), rfl, _, _, rfl, _, _, rfl, rfl, _, rfl, rfl, _, rfl, ?_⟩
    refine ite2 (fun _ => ?_) (fun c => absurd (by decide) c)
    refine ⟨_, rfl, .inl ⟨rfl, _, SqL.of hlp1⟩, _, rfl, lp, _, _, rfl, rfl, hlp1, ?_, ?_⟩
    · rw [List.length_map, sizeLine_eq]; omega
    refine ⟨_, ?_, some (.str "sign"), some (.str z), ps ++ [z], ws', es', rfl, by rw [upd_same]; simp, ?_, ?_, ?_, ?_, ?_, rfl⟩
    · omega
    · rw [upd_ne nlpw.symm]; exact hw1
    · exact its1.st fun b xs e => by rw [upd_ne (ne_of e hlp1 (by intro z; cases z))]; exact e
    · rw [codes_app, ← tx, ← h2]
      simp [codes]
    · simp; omega
    · exact fun b o e => by rw [upd_ne (ne_of_none e nlp0)]; exact sm1 _ _ e
  refine ⟨t, _, rfl, SqT.of (tp1 _ _ h1), rfl, _, _, rfl, _, _, rfl, rfl, _, rfl, rfl, _, rfl, ?_⟩
  refine ite2 (fun c => absurd c (by decide)) (fun _ => ?_)
  cases h2 with
  | @leaf _ k cs' hk lf np ec =>
    refine ⟨_, rfl, u, k, .pair, rfl, hk.same sm1, _, rfl, ?_⟩
    have e0 : isK k .pair = false := by
      cases k with
      | pair => exact absurd rfl np
      | _ => rfl
    rw [e0]
    refine iteF ?_
    refine ⟨_, rfl, .inl ⟨rfl, _, SqL.of hlp1⟩, _, rfl, u, k, rfl, hk.same sm1, lf, np, lp, _, _, rfl, rfl, hlp1, ?_, ?_⟩
    · rw [List.length_map, sizeLine_eq]; omega
    refine ⟨_, ?_, some (.str "worth"), some u, ps ++ [shA u k], ws', es', rfl, by rw [upd_same]; simp, ?_, ?_, ?_, ?_, ?_, rfl⟩
    · omega
    · rw [upd_ne nlpw.symm]; exact hw1
    · exact its1.st fun b xs e => by rw [upd_ne (ne_of e hlp1 (by intro z; cases z))]; exact e
    · rw [codes_app, ← tx, ← ec]
      simp [codes]
    · simp; omega
    · exact fun b o e => by rw [upd_ne (ne_of_none e nlp0)]; exact sm1 _ _ e
  | @pair x dx a b za zb na nb hx ha hb =>
    refine ⟨_, rfl, .ref x, .pair, .pair, rfl, .pair (sm1 _ _ hx), _, rfl, ?_⟩
    refine iteT ?_
    have la := sh_pos ha
    have lb := sh_pos hb
    have wq : ps.length + (wtS es' + (na + nb + 4)) ≤ n0 := wt
    have hxx := sm1 _ _ hx
    have big : ∀ {k : Nat}, k ≤ 1010 → k < sizeLine := fun h => by rw [sizeLine_eq]; omega
    refine ⟨_, rfl, .inl ⟨rfl, _, SqL.of hw1⟩, (by show 2 ≤ sizeLine; decide), fun t1 nt1 => ⟨lw, _, _, rfl, rfl, (by rw [upd_ne (ne_of_none hw1 nt1)]; exact hw1), big (by omega), ?_⟩⟩
    obtain ⟨g2, hw2, ht1⟩ := pushed (vs := [.str "sign", .str ")"]) hw1 nt1
    generalize upd (upd H1 t1 (.tup [.str "sign", .str ")"])) lw (.lst (ws' ++ [.ref t1])) = H2 at g2 hw2 ht1 ⊢
    have nxw : x ≠ lw := ne_of_none hx nlw0
    have hx2 := g2 _ _ nxw hxx
    refine ⟨_, rfl, .inl ⟨rfl, _, SqL.of hw2⟩, _, rfl, x, A.pa, dx, _, _, rfl, hx2, TP.cl, TP.no _ (by decide), rfl, (by show 2 ≤ sizeLine; decide), fun t2 nt2 => ⟨lw, _, _, rfl, rfl, (by rw [upd_ne (ne_of_none hw2 nt2)]; exact hw2), big (by simp; omega), ?_⟩⟩
    obtain ⟨g3, hw3, ht2⟩ := pushed (vs := [.str "worth", b]) hw2 nt2
    generalize upd (upd H2 t2 (.tup [.str "worth", b])) lw (.lst (ws' ++ [.ref t1] ++ [.ref t2])) = H3 at g3 hw3 ht2 ⊢
    refine ⟨_, rfl, .inl ⟨rfl, _, SqL.of hw3⟩, (by show 2 ≤ sizeLine; decide), fun t3 nt3 => ⟨lw, _, _, rfl, rfl, (by rw [upd_ne (ne_of_none hw3 nt3)]; exact hw3), big (by simp; omega), ?_⟩⟩
    obtain ⟨g4, hw4, ht3⟩ := pushed (vs := [.str "sign", .str " . "]) hw3 nt3
    generalize upd (upd H3 t3 (.tup [.str "sign", .str " . "])) lw (.lst (ws' ++ [.ref t1] ++ [.ref t2] ++ [.ref t3])) = H4 at g4 hw4 ht3 ⊢
    have hx4 := g4 _ _ nxw (g3 _ _ nxw hx2)
    refine ⟨_, rfl, .inl ⟨rfl, _, SqL.of hw4⟩, _, rfl, x, A.pa, dx, _, _, rfl, hx4, TP.cl, TP.no _ (by decide), rfl, (by show 2 ≤ sizeLine; decide), fun t4 nt4 => ⟨lw, _, _, rfl, rfl, (by rw [upd_ne (ne_of_none hw4 nt4)]; exact hw4), big (by simp; omega), ?_⟩⟩
    obtain ⟨g5, hw5, ht4⟩ := pushed (vs := [.str "worth", a]) hw4 nt4
    generalize upd (upd H4 t4 (.tup [.str "worth", a])) lw (.lst (ws' ++ [.ref t1] ++ [.ref t2] ++ [.ref t3] ++ [.ref t4])) = H5 at g5 hw5 ht4 ⊢
    refine ⟨_, rfl, .inl ⟨rfl, _, SqL.of hw5⟩, (by show 2 ≤ sizeLine; decide), fun t5 nt5 => ⟨lw, _, _, rfl, rfl, (by rw [upd_ne (ne_of_none hw5 nt5)]; exact hw5), big (by simp; omega), ?_⟩⟩
    obtain ⟨g6, hw6, ht5⟩ := pushed (vs := [.str "sign", .str "("]) hw5 nt5
    generalize upd (upd H5 t5 (.tup [.str "sign", .str "("])) lw (.lst (ws' ++ [.ref t1] ++ [.ref t2] ++ [.ref t3] ++ [.ref t4] ++ [.ref t5])) = H6 at g6 hw6 ht5 ⊢
    have tpo : ∀ {Ha Hb : Hp} {xs : List V}, Ha lw = some (.lst xs) → Gx lw Ha Hb → Tp Ha Hb := fun hl g b xs e => g _ _ (ne_of e hl (by intro z; cases z)) e
    have p3 : Tp H2 H6 := fun b xs e => tpo hw5 g6 _ _ (tpo hw4 g5 _ _ (tpo hw3 g4 _ _ (tpo hw2 g3 _ _ e)))
    have p4 : Tp H3 H6 := fun b xs e => tpo hw5 g6 _ _ (tpo hw4 g5 _ _ (tpo hw3 g4 _ _ e))
    have p5 : Tp H4 H6 := fun b xs e => tpo hw5 g6 _ _ (tpo hw4 g5 _ _ e)
    have p6 : Tp H5 H6 := tpo hw5 g6
    have p2 : Tp H1 H6 := fun b xs e => p3 _ _ (tpo hw1 g2 _ _ e)
    have gg : Gx lw H1 H6 := g2.trans (g3.trans (g4.trans (g5.trans g6)))
    refine ⟨_, ?_, some (.str "worth"), some (.ref x), ps, _, es' ++ [([41], 1)] ++ [(zb, nb)] ++ [([32, 46, 32], 1)] ++ [(za, na)] ++ [([40], 1)], rfl, gg _ _ nlpw hlp1, hw6, ?_, ?_, ?_, ?_, rfl⟩
    · rw [em]
      simp only [wtS_snoc]
      omega
    · refine .snoc (.snoc (.snoc (.snoc (.snoc (its1.st p2) ?_) ?_) ?_) ?_) ?_
      · exact ⟨t1, rfl, .inl ⟨_, p3 _ _ ht1, by decide +kernel, Nat.le_refl _⟩⟩
      · exact ⟨t2, rfl, .inr ⟨_, p4 _ _ ht2, hb⟩⟩
      · exact ⟨t3, rfl, .inl ⟨_, p5 _ _ ht3, by decide +kernel, Nat.le_refl _⟩⟩
      · exact ⟨t4, rfl, .inr ⟨_, p6 _ _ ht4, ha⟩⟩
      · exact ⟨t5, rfl, .inl ⟨_, ht5, by decide +kernel, Nat.le_refl _⟩⟩
    · simp only [txS_snoc]
      rw [← tx]
      simp [List.append_assoc]
    · simp only [wtS_snoc]
      omega
    · exact fun b o e => gg _ _ (ne_of_none e nlw0) (sm1 _ _ e)
end
end Wp
set_option Elab.async false
set_option linter.all false
set_option maxRecDepth 100000
set_option maxHeartbeats 1000000
namespace Wp
open PySem PySem.Spec PyProof.Rows L2
/-! ### ops -/
-- plus_worth: slots one 0, two 1
abbrev splus_worth : Stmt := top 26
theorem scplus_worth : FnScope ["one", "two"] ["one", "two"] (defScope splus_worth) := ⟨rfl, rfl, rfl, by decide +kernel, rfl, by decide +kernel, by decide +kernel⟩
abbrev slplus_worth : List Str := ["one", "two"]
-- minus_worth: slots one 0, two 1
abbrev sminus_worth : Stmt := top 27
theorem scminus_worth : FnScope ["one", "two"] ["one", "two"] (defScope sminus_worth) := ⟨rfl, rfl, rfl, by decide +kernel, rfl, by decide +kernel, by decide +kernel⟩
abbrev slminus_worth : List Str := ["one", "two"]
-- times_worth: slots one 0, two 1
abbrev stimes_worth : Stmt := top 28
theorem sctimes_worth : FnScope ["one", "two"] ["one", "two"] (defScope stimes_worth) := ⟨rfl, rfl, rfl, by decide +kernel, rfl, by decide +kernel, by decide +kernel⟩
abbrev sltimes_worth : List Str := ["one", "two"]
-- less_worth: slots one 0, two 1
abbrev sless_worth : Stmt := top 29
theorem scless_worth : FnScope ["one", "two"] ["one", "two"] (defScope sless_worth) := ⟨rfl, rfl, rfl, by decide +kernel, rfl, by decide +kernel, by decide +kernel⟩
abbrev slless_worth : List Str := ["one", "two"]
-- joined_worth: slots one 0, two 1
abbrev sjoined_worth : Stmt := top 31
theorem scjoined_worth : FnScope ["one", "two"] ["one", "two"] (defScope sjoined_worth) := ⟨rfl, rfl, rfl, by decide +kernel, rfl, by decide +kernel, by decide +kernel⟩
abbrev sljoined_worth : List Str := ["one", "two"]
-- first_worth: slots one 0
abbrev sfirst_worth : Stmt := top 33
theorem scfirst_worth : FnScope ["one"] ["one"] (defScope sfirst_worth) := ⟨rfl, rfl, rfl, by decide +kernel, rfl, by decide +kernel, by decide +kernel⟩
abbrev slfirst_worth : List Str := ["one"]
-- kind_worth: slots one 0
abbrev skind_worth : Stmt := top 35
theorem sckind_worth : FnScope ["one"] ["one"] (defScope skind_worth) := ⟨rfl, rfl, rfl, by decide +kernel, rfl, by decide +kernel, by decide +kernel⟩
abbrev slkind_worth : List Str := ["one"]
-- op_worth: slots word 0, worths 1, action 2
abbrev sop_worth : Stmt := top 38
theorem scop_worth : FnScope ["word", "worths", "action"] ["word", "worths"] (defScope sop_worth) := ⟨rfl, rfl, rfl, by decide +kernel, rfl, by decide +kernel, by decide +kernel⟩
abbrev slop_worth : List Str := ["word", "worths", "action"]
def spAr (A : Ad) (op : Int → Int → Int) (lim : Int → Int → Prop) : Sp := fun vs H Q _ => ∃ v1 k1 v2 k2, vs = [v1, v2] ∧ Wk A H v1 k1 ∧ Wk A H v2 k2 ∧ (∀ i j, v1 = .int i → v2 = .int j → lim i j ∧ ((op i j).natAbs < far.natAbs → Told H "worth" (.int (op i j)) Q) ∧ (far.natAbs ≤ (op i j).natAbs → Told H "fault" (.str "too great") Q)) ∧
  (k1 ≠ .int ∨ k2 ≠ .int → Told H "fault" (.str "no number") Q)
def limT (i j : Int) : Prop := -(2 ^ 64) < i ∧ i < 2 ^ 64
def spLess (A : Ad) : Sp := fun vs H Q _ => ∃ v1 k1 v2 k2, vs = [v1, v2] ∧ Wk A H v1 k1 ∧ Wk A H v2 k2 ∧ (∀ i j, v1 = .int i → v2 = .int j → Told H "worth" (.bl (decide (i < j))) Q) ∧ (k1 ≠ .int ∨ k2 ≠ .int → Told H "fault" (.str "no number") Q)
def spJoin (A : Ad) : Sp := fun vs H Q _ => ∃ v1 k1 v2, vs = [v1, v2] ∧ Wk A H v1 k1 ∧ k1 ≠ .str ∧ Told H "fault" (.str "no text") Q
def spFirst (A : Ad) : Sp := fun vs H Q _ => ∃ v k, vs = [v] ∧ Wk A H v k ∧ k ≠ .pair ∧ Told H "fault" (.str "no pair") Q
def spKindW (A : Ad) : Sp := fun vs H Q _ => ∃ v k, vs = [v] ∧ Wk A H v k ∧ Told H "worth" (.str (kdName k)) Q
def opNs : List Str := ["plus", "minus", "times", "less", "joined", "first", "kind"]
def spOp (A : Ad) (z : Str) : Sp :=
  if z = "plus" then spAr A (· + ·) (fun _ _ => True) else if z = "minus" then spAr A (· - ·) (fun _ _ => True) else if z = "times" then spAr A (· * ·) limT else if z = "less" then spLess A else if z = "joined" then spJoin A else if z = "first" then spFirst A else spKindW A
def OpTab (P : Program) (w : World) (K : PySem.W.Frag) (mg : Str → Option Value) (base : Heap) (A : Ad) (aw : Addr) : Prop := ∀ z ∈ opNs, ∃ f, KDct K w aw z (.ref f) ∧ Hold P w K mg base 9 f (spOp A z)
def spOpW (A : Ad) : Sp := fun vs H Q E => ∃ (z : Str) (l : Addr) (ws : List V), vs = [.str z, .ref l] ∧ z ∈ opNs ∧ H l = some (.lst ws) ∧ spOp A z ws H Q E
theorem wk_int {A : Ad} {H : Hp} {v : V} (h : Wk A H v .int) : ∃ i, v = .int i := by cases h; exact ⟨_, rfl⟩
section
variable {P : Program} {w : World} {K : PySem.W.Frag} {mg : Str → Option Value} {base : Heap} {f : Addr} {fd : FuncData} {A : Ad}
theorem ok_plus (F : Fun K "plus_worth" "plus_worth" splus_worth f fd) (Gare_whole : Has P w K mg base "are_whole" ["one", "two"] 2 (spWhole2 A)) (Gbounded_number : Has P w K mg base "bounded_number" ["number"] 1 spNum) : FnOk P w K mg base CX0 3 f fd ["one", "two"] (spAr A (· + ·) (fun _ _ => True)) := by
  refine F.ok scplus_worth (fun vs H Q E h => ?_) (fun cdv A' outer s H vs Q E hr h => ?_)
  · obtain ⟨v1, k1, v2, k2, rfl, _⟩ := h
    rfl
  obtain ⟨v1, k1, v2, k2, rfl, h1, h2, q1, q2⟩ := h
  refine ⟨_, (pss_cons (ps_if (pt_not (pt_val (pe_has Gare_whole (hr.mono (by omega)) (pa_cons (pv 0) (pa_cons (pv 1) pa_nil))))) (pss_one (ps_ret (pe_tup (pa_cons pe_str (pa_cons pe_str pa_nil))))) pss_nil)
  (pss_one (ps_ret (pe_has Gbounded_number (hr.mono (by omega)) (pa_cons (pe_op op_add (pv 0) (pv 1)) pa_nil))))), ?_⟩
  refine ⟨_, rfl, _, rfl, v1, k1, v2, k2, rfl, h1, h2, _, rfl, ?_⟩
  by_cases c1 : k1 = .int
  · by_cases c2 : k2 = .int
    · subst c1 c2
      obtain ⟨i, rfl⟩ := wk_int h1
      obtain ⟨j, rfl⟩ := wk_int h2
      refine ite2 (fun c => absurd c (by decide)) (fun _ => ?_)
      exact ⟨_, rfl, _, rfl, _, _, rfl, rfl, _, rfl, (q1 i j rfl rfl).2⟩
    · exact ite2 (fun _ => ⟨(by show 2 ≤ sizeLine; decide), told_new (q2 (.inr c2))⟩) (fun c => absurd (by simp [c2]) c)
  · exact ite2 (fun _ => ⟨(by show 2 ≤ sizeLine; decide), told_new (q2 (.inl c1))⟩) (fun c => absurd (by simp [c1]) c)
theorem ok_minus (F : Fun K "minus_worth" "minus_worth" sminus_worth f fd) (Gare_whole : Has P w K mg base "are_whole" ["one", "two"] 2 (spWhole2 A)) (Gbounded_number : Has P w K mg base "bounded_number" ["number"] 1 spNum) : FnOk P w K mg base CX0 3 f fd ["one", "two"] (spAr A (· - ·) (fun _ _ => True)) := by
  refine F.ok scminus_worth (fun vs H Q E h => ?_) (fun cdv A' outer s H vs Q E hr h => ?_)
  · obtain ⟨v1, k1, v2, k2, rfl, _⟩ := h
    rfl
  obtain ⟨v1, k1, v2, k2, rfl, h1, h2, q1, q2⟩ := h
  refine ⟨_, (pss_cons (ps_if (pt_not (pt_val (pe_has Gare_whole (hr.mono (by omega)) (pa_cons (pv 0) (pa_cons (pv 1) pa_nil))))) (pss_one (ps_ret (pe_tup (pa_cons pe_str (pa_cons pe_str pa_nil))))) pss_nil)
  (pss_one (ps_ret (pe_has Gbounded_number (hr.mono (by omega)) (pa_cons (pe_op op_sub (pv 0) (pv 1)) pa_nil))))), ?_⟩
  refine ⟨_, rfl, _, rfl, v1, k1, v2, k2, rfl, h1, h2, _, rfl, ?_⟩
  by_cases c1 : k1 = .int
  · by_cases c2 : k2 = .int
    · subst c1 c2
      obtain ⟨i, rfl⟩ := wk_int h1
      obtain ⟨j, rfl⟩ := wk_int h2
      refine ite2 (fun c => absurd c (by decide)) (fun _ => ?_)
      exact ⟨_, rfl, _, rfl, _, _, rfl, rfl, _, rfl, (q1 i j rfl rfl).2⟩
    · exact ite2 (fun _ => ⟨(by show 2 ≤ sizeLine; decide), told_new (q2 (.inr c2))⟩) (fun c => absurd (by simp [c2]) c)
  · exact ite2 (fun _ => ⟨(by show 2 ≤ sizeLine; decide), told_new (q2 (.inl c1))⟩) (fun c => absurd (by simp [c1]) c)
theorem ok_times (F : Fun K "times_worth" "times_worth" stimes_worth f fd) (Gare_whole : Has P w K mg base "are_whole" ["one", "two"] 2 (spWhole2 A)) (Gbounded_number : Has P w K mg base "bounded_number" ["number"] 1 spNum) : FnOk P w K mg base CX0 3 f fd ["one", "two"] (spAr A (· * ·) limT) := by
  refine F.ok sctimes_worth (fun vs H Q E h => ?_) (fun cdv A' outer s H vs Q E hr h => ?_)
  · obtain ⟨v1, k1, v2, k2, rfl, _⟩ := h
    rfl
  obtain ⟨v1, k1, v2, k2, rfl, h1, h2, q1, q2⟩ := h
  refine ⟨_, (pss_cons (ps_if (pt_not (pt_val (pe_has Gare_whole (hr.mono (by omega)) (pa_cons (pv 0) (pa_cons (pv 1) pa_nil))))) (pss_one (ps_ret (pe_tup (pa_cons pe_str (pa_cons pe_str pa_nil))))) pss_nil)
  (pss_one (ps_ret (pe_has Gbounded_number (hr.mono (by omega)) (pa_cons (pe_op op_mul (pv 0) (pv 1)) pa_nil))))), ?_⟩
  refine ⟨_, rfl, _, rfl, v1, k1, v2, k2, rfl, h1, h2, _, rfl, ?_⟩
  by_cases c1 : k1 = .int
  · by_cases c2 : k2 = .int
    · subst c1 c2
      obtain ⟨i, rfl⟩ := wk_int h1
      obtain ⟨j, rfl⟩ := wk_int h2
      refine ite2 (fun c => absurd c (by decide)) (fun _ => ?_)
      exact ⟨_, rfl, _, rfl, _, _, rfl, rfl, .inl (q1 i j rfl rfl).1, _, rfl, (q1 i j rfl rfl).2⟩
    · exact ite2 (fun _ => ⟨(by show 2 ≤ sizeLine; decide), told_new (q2 (.inr c2))⟩) (fun c => absurd (by simp [c2]) c)
  · exact ite2 (fun _ => ⟨(by show 2 ≤ sizeLine; decide), told_new (q2 (.inl c1))⟩) (fun c => absurd (by simp [c1]) c)
theorem ok_less (F : Fun K "less_worth" "less_worth" sless_worth f fd) (Gare_whole : Has P w K mg base "are_whole" ["one", "two"] 2 (spWhole2 A)) : FnOk P w K mg base CX0 3 f fd ["one", "two"] (spLess A) := by
  refine F.ok scless_worth (fun vs H Q E h => ?_) (fun cdv A' outer s H vs Q E hr h => ?_)
  · obtain ⟨v1, k1, v2, k2, rfl, _⟩ := h
    rfl
  obtain ⟨v1, k1, v2, k2, rfl, h1, h2, q1, q2⟩ := h
  refine ⟨_, (pss_cons (ps_if (pt_not (pt_val (pe_has Gare_whole (hr.mono (by omega)) (pa_cons (pv 0) (pa_cons (pv 1) pa_nil))))) (pss_one (ps_ret (pe_tup (pa_cons pe_str (pa_cons pe_str pa_nil))))) pss_nil)
  (pss_one (ps_ret (pe_tup (pa_cons pe_str (pa_cons (pe_cmpR op_lt (pv 0) (pv 1) (nomark _)) pa_nil)))))), ?_⟩
  refine ⟨_, rfl, _, rfl, v1, k1, v2, k2, rfl, h1, h2, _, rfl, ?_⟩
  by_cases c1 : k1 = .int
  · by_cases c2 : k2 = .int
    · subst c1 c2
      obtain ⟨i, rfl⟩ := wk_int h1
      obtain ⟨j, rfl⟩ := wk_int h2
      refine ite2 (fun c => absurd c (by decide)) (fun _ => ?_)
      exact ⟨_, rfl, _, rfl, _, _, rfl, rfl, (by show 2 ≤ sizeLine; decide), told_new (q1 i j rfl rfl)⟩
    · exact ite2 (fun _ => ⟨(by show 2 ≤ sizeLine; decide), told_new (q2 (.inr c2))⟩) (fun c => absurd (by simp [c2]) c)
  · exact ite2 (fun _ => ⟨(by show 2 ≤ sizeLine; decide), told_new (q2 (.inl c1))⟩) (fun c => absurd (by simp [c1]) c)
theorem ok_join (F : Fun K "joined_worth" "joined_worth" sjoined_worth f fd) (T : AllC K A) (m_isinstance : mg "isinstance" = none) (m_str : mg "str" = none) (m_len : mg "len" = none) (Gbounded_text : Has P w K mg base "bounded_text" ["text"] 1 (fun _ _ _ _ => False)) : FnOk P w K mg base CX0 3 f fd ["one", "two"] (spJoin A) := by
  refine F.ok scjoined_worth (fun vs H Q E h => ?_) (fun cdv A' outer s H vs Q E hr h => ?_)
  · obtain ⟨v1, k1, v2, rfl, _⟩ := h
    rfl
  obtain ⟨v1, k1, v2, rfl, h1, n1, q⟩ := h
  refine ⟨_, (pss_cons (ps_if (PW.pt (pw_or (pt_not (pt_val (pe_callB (call_isA T) rfl m_isinstance PyProof.Rows.Boot.isinstance (pa_cons (pv 0) (pa_cons (pe_bltn (v := .ty "str") rfl m_str PyProof.Rows.Boot.«str» rfl) pa_nil))))) (pw_or1 (pt_not (pt_val (pe_callB (call_isA T) rfl m_isinstance PyProof.Rows.Boot.isinstance (pa_cons (pv 1) (pa_cons (pe_bltn (v := .ty "str") rfl m_str PyProof.Rows.Boot.«str» rfl) pa_nil)))))))) (pss_one (ps_ret (pe_tup (pa_cons pe_str (pa_cons pe_str pa_nil))))) pss_nil)
  (pss_one (ps_ret (pe_has Gbounded_text (hr.mono (by omega)) (pa_cons (pe_op op_add (pv 0) (pv 1)) pa_nil))))), ?_⟩
  refine ⟨_, rfl, v1, k1, .str, rfl, h1, _, rfl, ?_⟩
  have e : isK k1 .str = false := by
    cases k1 with
    | str => exact absurd rfl n1
    | _ => rfl
  rw [e]
  exact ⟨(by show 2 ≤ sizeLine; decide), told_new q⟩
theorem ok_first (F : Fun K "first_worth" "first_worth" sfirst_worth f fd) (T : AllC K A) (m_isinstance : mg "isinstance" = none) (m_Pair : mg "Pair" = some (.ref A.pa)) : FnOk P w K mg base CX0 1 f fd ["one"] (spFirst A) := by
  refine F.ok scfirst_worth (fun vs H Q E h => ?_) (fun cdv A' outer s H vs Q E hr h => ?_)
  · obtain ⟨v1, k1, rfl, _⟩ := h
    rfl
  obtain ⟨v1, k1, rfl, h1, n1, q⟩ := h
  refine ⟨_, (pss_cons (ps_if (pt_not (pt_val (pe_callB (call_isA T) rfl m_isinstance PyProof.Rows.Boot.isinstance (pa_cons (pv 0) (pa_cons (pe_glob (v := .ref A.pa) rfl m_Pair rfl) pa_nil))))) (pss_one (ps_ret (pe_tup (pa_cons pe_str (pa_cons pe_str pa_nil))))) pss_nil)
  (pss_one (ps_ret (pe_tup (pa_cons pe_str (pa_cons (pe_fld (pv 0) rfl) pa_nil)))))), ?_⟩
  refine ⟨_, rfl, v1, k1, .pair, rfl, h1, _, rfl, ?_⟩
  have e : isK k1 .pair = false := by
    cases k1 with
    | pair => exact absurd rfl n1
    | _ => rfl
  rw [e]
  exact ⟨(by show 2 ≤ sizeLine; decide), told_new q⟩
theorem ok_kindW (F : Fun K "kind_worth" "kind_worth" skind_worth f fd) (Gkind_of : Has P w K mg base "kind_of" ["worth"] 1 (spKind A)) : FnOk P w K mg base CX0 2 f fd ["one"] (spKindW A) := by
  refine F.ok sckind_worth (fun vs H Q E h => ?_) (fun cdv A' outer s H vs Q E hr h => ?_)
  · obtain ⟨v1, k1, rfl, _⟩ := h
    rfl
  obtain ⟨v1, k1, rfl, h1, q⟩ := h
  refine ⟨_, (pss_one (ps_ret (pe_tup (pa_cons pe_str (pa_cons (pe_has Gkind_of (hr.mono (by omega)) (pa_cons (pv 0) pa_nil)) pa_nil))))), ?_⟩
  exact ⟨_, rfl, v1, k1, rfl, h1, (by show 2 ≤ sizeLine; decide), told_new q⟩
theorem ok_opW {aw : Addr} (F : Fun K "op_worth" "op_worth" sop_worth f fd) (m_ACTIONS_worths : mg "ACTIONS_worths" = some (.ref aw)) (hT : OpTab P w K mg base A aw) : FnOk P w K mg base (L2.CX P w) 10 f fd ["word", "worths"] (spOpW A) := by
  refine F.okX scop_worth (fun vs H Q E h => ?_) (fun cdv A' outer s H vs Q E hr h => ?_)
  · obtain ⟨z, l, ws, rfl, _⟩ := h
    rfl
  obtain ⟨z, l, ws, rfl, hz, hl, q⟩ := h
  refine ⟨_, (pss_cons (ps_set (i := 2) scop_worth.nd rfl (.inl rfl) (pe_ix ix_kdict (pe_glob (v := .ref aw) rfl m_ACTIONS_worths rfl) (pv 0) (fun _ _ => rfl)))
  (pss_one (ps_ret (pe_locS1 (k := 9) passX (hr.mono (by omega)) (i := 2) rfl (.inl rfl) (pv 1))))), ?_⟩
  obtain ⟨f, kd, hold⟩ := hT z hz
  refine ⟨_, rfl, aw, z, .ref f, rfl, rfl, kd, ?_⟩
  exact ⟨f, _, rfl, hold, _, rfl, l, ws, rfl, .inr (SqL.of hl), q⟩
end
end Wp
set_option Elab.async false
set_option linter.all false
set_option maxRecDepth 100000
set_option maxHeartbeats 1000000
namespace Wp
open PySem PySem.Spec PyProof.Rows L2
/-! ### what the terms do -/
-- act_literal: slots machine 0, place 1, env 2, worths 3
abbrev sact_literal : Stmt := top 60
theorem scact_literal : FnScope ["machine", "place", "env", "worths"] ["machine", "place", "env", "worths"] (defScope sact_literal) := ⟨rfl, rfl, rfl, by decide +kernel, rfl, by decide +kernel, by decide +kernel⟩
abbrev slact_literal : List Str := ["machine", "place", "env", "worths"]
-- act_yes: slots machine 0, place 1, env 2, worths 3
abbrev sact_yes : Stmt := top 61
theorem scact_yes : FnScope ["machine", "place", "env", "worths"] ["machine", "place", "env", "worths"] (defScope sact_yes) := ⟨rfl, rfl, rfl, by decide +kernel, rfl, by decide +kernel, by decide +kernel⟩
abbrev slact_yes : List Str := ["machine", "place", "env", "worths"]
-- act_no: slots machine 0, place 1, env 2, worths 3
abbrev sact_no : Stmt := top 62
theorem scact_no : FnScope ["machine", "place", "env", "worths"] ["machine", "place", "env", "worths"] (defScope sact_no) := ⟨rfl, rfl, rfl, by decide +kernel, rfl, by decide +kernel, by decide +kernel⟩
abbrev slact_no : List Str := ["machine", "place", "env", "worths"]
-- act_none: slots machine 0, place 1, env 2, worths 3
abbrev sact_none : Stmt := top 63
theorem scact_none : FnScope ["machine", "place", "env", "worths"] ["machine", "place", "env", "worths"] (defScope sact_none) := ⟨rfl, rfl, rfl, by decide +kernel, rfl, by decide +kernel, by decide +kernel⟩
abbrev slact_none : List Str := ["machine", "place", "env", "worths"]
-- act_name: slots machine 0, place 1, env 2, worths 3
abbrev sact_name : Stmt := top 64
theorem scact_name : FnScope ["machine", "place", "env", "worths"] ["machine", "place", "env", "worths"] (defScope sact_name) := ⟨rfl, rfl, rfl, by decide +kernel, rfl, by decide +kernel, by decide +kernel⟩
abbrev slact_name : List Str := ["machine", "place", "env", "worths"]
-- act_fun: slots machine 0, place 1, env 2, worths 3
abbrev sact_fun : Stmt := top 65
theorem scact_fun : FnScope ["machine", "place", "env", "worths"] ["machine", "place", "env", "worths"] (defScope sact_fun) := ⟨rfl, rfl, rfl, by decide +kernel, rfl, by decide +kernel, by decide +kernel⟩
abbrev slact_fun : List Str := ["machine", "place", "env", "worths"]
-- names_of: slots function 0
abbrev snames_of : Stmt := top 66
theorem scnames_of : FnScope ["function"] ["function"] (defScope snames_of) := ⟨rfl, rfl, rfl, by decide +kernel, rfl, by decide +kernel, by decide +kernel⟩
abbrev slnames_of : List Str := ["function"]
-- called_env: slots function 0, handed 1, env 2, name 3, worth 4
abbrev scalled_env : Stmt := top 67
theorem sccalled_env : FnScope ["function", "handed", "env", "name", "worth"] ["function", "handed"] (defScope scalled_env) := ⟨rfl, rfl, rfl, by decide +kernel, rfl, by decide +kernel, by decide +kernel⟩
abbrev slcalled_env : List Str := ["function", "handed", "env", "name", "worth"]
-- act_call: slots machine 0, place 1, env 2, worths 3, function 4, handed 5
abbrev sact_call : Stmt := top 68
theorem scact_call : FnScope ["machine", "place", "env", "worths", "function", "handed"] ["machine", "place", "env", "worths"] (defScope sact_call) := ⟨rfl, rfl, rfl, by decide +kernel, rfl, by decide +kernel, by decide +kernel⟩
abbrev slact_call : List Str := ["machine", "place", "env", "worths", "function", "handed"]
-- act_let: slots machine 0, place 1, env 2, worths 3
abbrev sact_let : Stmt := top 69
theorem scact_let : FnScope ["machine", "place", "env", "worths"] ["machine", "place", "env", "worths"] (defScope sact_let) := ⟨rfl, rfl, rfl, by decide +kernel, rfl, by decide +kernel, by decide +kernel⟩
abbrev slact_let : List Str := ["machine", "place", "env", "worths"]
-- act_if: slots machine 0, place 1, env 2, worths 3
abbrev sact_if : Stmt := top 70
theorem scact_if : FnScope ["machine", "place", "env", "worths"] ["machine", "place", "env", "worths"] (defScope sact_if) := ⟨rfl, rfl, rfl, by decide +kernel, rfl, by decide +kernel, by decide +kernel⟩
abbrev slact_if : List Str := ["machine", "place", "env", "worths"]
-- act_op: slots machine 0, place 1, env 2, worths 3, word 4, told 5
abbrev sact_op : Stmt := top 72
theorem scact_op : FnScope ["machine", "place", "env", "worths", "word", "told"] ["machine", "place", "env", "worths"] (defScope sact_op) := ⟨rfl, rfl, rfl, by decide +kernel, rfl, by decide +kernel, by decide +kernel⟩
abbrev slact_op : List Str := ["machine", "place", "env", "worths", "word", "told"]
-- act_cell: slots machine 0, place 1, env 2, worths 3
abbrev sact_cell : Stmt := top 73
theorem scact_cell : FnScope ["machine", "place", "env", "worths"] ["machine", "place", "env", "worths"] (defScope sact_cell) := ⟨rfl, rfl, rfl, by decide +kernel, rfl, by decide +kernel, by decide +kernel⟩
abbrev slact_cell : List Str := ["machine", "place", "env", "worths"]
-- act_get: slots machine 0, place 1, env 2, worths 3
abbrev sact_get : Stmt := top 74
theorem scact_get : FnScope ["machine", "place", "env", "worths"] ["machine", "place", "env", "worths"] (defScope sact_get) := ⟨rfl, rfl, rfl, by decide +kernel, rfl, by decide +kernel, by decide +kernel⟩
abbrev slact_get : List Str := ["machine", "place", "env", "worths"]
-- act_set: slots machine 0, place 1, env 2, worths 3, cell 4, worth 5
abbrev sact_set : Stmt := top 75
theorem scact_set : FnScope ["machine", "place", "env", "worths", "cell", "worth"] ["machine", "place", "env", "worths"] (defScope sact_set) := ⟨rfl, rfl, rfl, by decide +kernel, rfl, by decide +kernel, by decide +kernel⟩
abbrev slact_set : List Str := ["machine", "place", "env", "worths", "cell", "worth"]
-- act_say: slots machine 0, place 1, env 2, worths 3
abbrev sact_say : Stmt := top 76
theorem scact_say : FnScope ["machine", "place", "env", "worths"] ["machine", "place", "env", "worths"] (defScope sact_say) := ⟨rfl, rfl, rfl, by decide +kernel, rfl, by decide +kernel, by decide +kernel⟩
abbrev slact_say : List Str := ["machine", "place", "env", "worths"]
abbrev plNs : List Str := ["path", "term", "word", "parts", "waits"]
def Pz (A : Ad) (H : Hp) (x : Addr) (t : Addr) (z : Str) (lp : Addr) (k : Int) : Prop := ∃ dx pt, H x = some (.ins A.pl dx (plFs pt (.ref t) z lp k))
def GvQ (A : Ad) (m : Addr) (s : MSt) (H : Hp) (v : V) (Q : VK) : Prop := ∀ H', Gx m H H' → MAt A.ma H' m { s with st := "back", wv := v } → Q .non H'
def BgQ (A : Ad) (m : Addr) (s : MSt) (H : Hp) (y e : Addr) (Q : VK) : Prop := ∀ H', Gx m H H' → MAt A.ma H' m { s with st := "begin", x := y, en := e } → Q .non H'
/-- what every action is handed -/
structure Arg (A : Ad) (vs : List V) (H : Hp) (m x en tw : Addr) (s : MSt) (ws : List V) (t : Addr) (z : Str) (lp : Addr) (k : Int) : Prop where
  vs : vs = [.ref m, .ref x, .ref en, .ref tw]
  ma : MAt A.ma H m s
  pz : Pz A H x t z lp k
  tw : H tw = some (.tup ws)
abbrev Cap : Type := Ad → Addr → Addr → Addr → Addr → MSt → List V → Addr → Str → Addr → Int → Hp → VK → XK → Prop
def spAct (A : Ad) (c : Cap) : Sp := fun vs H Q E => ∃ m x en tw s ws t z lp k, Arg A vs H m x en tw s ws t z lp k ∧ c A m x en tw s ws t z lp k H Q E
def cLit : Cap := fun A m x en tw s ws t z lp k H Q E => ∃ a v r, H t = some (.tup (a :: v :: r)) ∧ GvQ A m s H v Q
def cGive (v : V) : Cap := fun A m x en tw s ws t z lp k H Q E => GvQ A m s H v Q
def cName : Cap := fun A m x en tw s ws t z lp k H Q E => ∃ a n r kvs v, H t = some (.tup (a :: .str n :: r)) ∧ H en = some (.dK kvs) ∧ valV kvs (Sum.inr n) = some v ∧ GvQ A m s H v Q
def cFun : Cap := fun A m x en tw s ws t z lp k H Q E => NewO A.fu [("place", .ref x), ("env", .ref en)] H fun v H1 => MAt A.ma H1 m s ∧ GvQ A m s H1 v Q
def putAll : List (Key × V) → List Str → List V → List (Key × V)
  | kvs, n :: ns, h :: hs => putAll (putK kvs (Sum.inr n) h) ns hs
  | kvs, _, _ => kvs
/-- a function, its place, its term, its names, its env -/
structure FnAt (A : Ad) (H : Hp) (fx y ty fe tn : Addr) (its : List V) (ns : List Str) (zy : Str) (lpy : Addr) (kvs : List (Key × V)) : Prop where
  hfx : ∃ dxf, H fx = some (.ins A.fu dxf [("place", .ref y), ("env", .ref fe)])
  hpz : ∃ k, Pz A H y ty zy lpy k
  hty : H ty = some (.tup its)
  atn : atI its (-2) = some (.ref tn)
  hns : H tn = some (.tup (ns.map V.str))
  hfe : H fe = some (.dK kvs)
  kl : kvs.length ≤ 500
  nl : ns.length ≤ 10
theorem FnAt.same {A : Ad} {H H' : Hp} {fx y ty fe tn : Addr} {its : List V} {ns : List Str} {zy : Str} {lpy : Addr} {kvs : List (Key × V)} (h : FnAt A H fx y ty fe tn its ns zy lpy kvs) (s : Same H H') : FnAt A H' fx y ty fe tn its ns zy lpy kvs := by
  obtain ⟨dxf, h1⟩ := h.hfx
  obtain ⟨k, dx, pt, h2⟩ := h.hpz
  exact ⟨⟨dxf, s _ _ h1⟩, ⟨k, dx, pt, s _ _ h2⟩, s _ _ h.hty, h.atn, s _ _ h.hns, s _ _ h.hfe, h.kl, h.nl⟩
def recEnv (zy : Str) (its : List V) (fx : Addr) (kvs : List (Key × V)) : List (Key × V) := if zy = "rec" then (match its with | _ :: .str g :: _ => putK kvs (Sum.inr g) (.ref fx) | _ => kvs) else kvs
def spNames (A : Ad) : Sp := fun vs H Q _ => ∃ fx y ty fe tn its ns zy lpy kvs, vs = [.ref fx] ∧ FnAt A H fx y ty fe tn its ns zy lpy kvs ∧ Q (.ref tn) H
def spCEnv (A : Ad) : Sp := fun vs H Q _ => ∃ fx y ty fe tn its ns zy lpy kvs th hs, vs = [.ref fx, .ref th] ∧ FnAt A H fx y ty fe tn its ns zy lpy kvs ∧ H th = some (.tup hs) ∧ ns.length = hs.length ∧ (zy = "rec" → ∃ a g r, its = a :: .str g :: r) ∧
  ∀ p H', Same H H' → H p = none → H' p = some (.dK (putAll (recEnv zy its fx kvs) ns hs)) → Q (.ref p) H'
def cCall : Cap := fun A m x en tw s ws t z lp k H Q E => ∃ fv hs kf, ws = fv :: hs ∧ Wk A H fv kf ∧ (kf ≠ .fn → StE A.sk H (.str "no function") E) ∧ (kf = .fn → ∃ fx y ty fe tn its ns zy lpy kvs, fv = .ref fx ∧ FnAt A H fx y ty fe tn its ns zy lpy kvs ∧
  (ns.length ≠ hs.length → StE A.sk H (.str "how many") E) ∧ (ns.length = hs.length → (zy = "rec" → ∃ a g r, its = a :: .str g :: r) ∧ ∃ bd r, H lpy = some (.lst (.ref bd :: r)) ∧
    ∀ p H1, Same H H1 → H p = none → H1 p = some (.dK (putAll (recEnv zy its fx kvs) ns hs)) → BgQ A m s H1 bd p Q))
def cLet : Cap := fun A m x en tw s ws t z lp k H Q E => ∃ a n r kvs v wr c0 p1, H t = some (.tup (a :: .str n :: r)) ∧ H en = some (.dK kvs) ∧ kvs.length ≤ 500 ∧ ws = v :: wr ∧ H lp = some (.lst [c0, .ref p1]) ∧
  ∀ p H1, Same H H1 → H p = none → H1 p = some (.dK (putK kvs (Sum.inr n) v)) → BgQ A m s H1 p1 p Q
def cIf : Cap := fun A m x en tw s ws t z lp k H Q E => ∃ c wr kc, ws = c :: wr ∧ Wk A H c kc ∧ (kc ≠ .bl → StE A.sk H (.str "no truth") E) ∧ ∀ b, c = .bl b → ∃ c0 p1 p2, H lp = some (.lst [c0, .ref p1, .ref p2]) ∧ BgQ A m s H (if b then p1 else p2) en Q
def OpK (A : Ad) (m : Addr) (s : MSt) (Q : VK) (E : XK) : VK := fun r H2 => ∃ p zz v, r = .ref p ∧ H2 p = some (.tup [.str zz, v]) ∧ MAt A.ma H2 m s ∧ (zz = "fault" → StE A.sk H2 v E) ∧ (zz ≠ "fault" → GvQ A m s H2 v Q)
def cOp (spT : Sp) : Cap := fun A m x en tw s ws t z lp k H Q E => ∃ a n r, H t = some (.tup (a :: .str n :: r)) ∧ ∀ l H1, Same H H1 → H l = none → H1 l = some (.lst ws) → spT [.ref m, .str n, .ref l] H1 (OpK A m s Q E) E
def cCell : Cap := fun A m x en tw s ws t z lp k H Q E => ∃ v wr, ws = v :: wr ∧ NewO A.ce [("held", v)] H fun u H1 => MAt A.ma H1 m s ∧ GvQ A m s H1 u Q
def cGet : Cap := fun A m x en tw s ws t z lp k H Q E => ∃ c wr kc, ws = c :: wr ∧ Wk A H c kc ∧ (kc ≠ .cell → StE A.sk H (.str "no cell") E) ∧ (kc = .cell → ∃ cx dxc v, c = .ref cx ∧ H cx = some (.ins A.ce dxc [("held", v)]) ∧ GvQ A m s H v Q)
def cSet : Cap := fun A m x en tw s ws t z lp k H Q E => ∃ c v kc, ws = [c, v] ∧ Wk A H c kc ∧ (kc ≠ .cell → StE A.sk H (.str "no cell") E) ∧ (kc = .cell → ∃ cx dxc v0, c = .ref cx ∧ H cx = some (.ins A.ce dxc [("held", v0)]) ∧ GvQ A m s (upd H cx (.ins A.ce dxc [("held", v)])) .non Q)
def cSay : Cap := fun A m x en tw s ws t z lp k H Q E => ∃ v wr cs n outs, ws = v :: wr ∧ Sh A H v cs n ∧ n ≤ 1000 ∧ cs.length ≤ 100000 ∧ H s.lo = some (.lst outs) ∧ outs.length ≤ 1000 ∧ ∀ (tx : Str) H1, tx.cps.toList = cs → Same H H1 → GvQ A m s (upd H1 s.lo (.lst (outs ++ [.str tx]))) .non Q
theorem MAt.same {M : Addr} {H H' : Hp} {m : Addr} {s : MSt} (h : MAt M H m s) (k : Same H H') : MAt M H' m s := by
  obtain ⟨dx, e⟩ := h
  exact ⟨dx, k _ _ e⟩
/-- give's promise -/
theorem give_q {A : Ad} {m : Addr} {s : MSt} {H : Hp} {v : V} {Q : VK} {E : XK} (h : MAt A.ma H m s) (q : GvQ A m s H v Q) : spGive A.ma [.ref m, v] H Q E := ⟨m, v, s, rfl, h, fun H' ⟨w1, w2⟩ => q H' (fun b o n e => by rw [w2 b n]; exact e) w1⟩
theorem begin_q {A : Ad} {m y e : Addr} {s : MSt} {H : Hp} {Q : VK} {E : XK} (h : MAt A.ma H m s) (q : BgQ A m s H y e Q) : spBegin A.ma [.ref m, .ref y, .ref e] H Q E := ⟨m, y, e, s, rfl, h, fun H' ⟨w1, w2⟩ => q H' (fun b o n e => by rw [w2 b n]; exact e) w1⟩
structure Mth (P : Program) (w : World) (K : PySem.W.Frag) (mg : Str → Option Value) (base : Heap) (A : Ad) : Prop where
  cl : Cls K A.ma
  no : TxC K A.ma mNs
  pl : TxC K A.pl plNs
  be : HasM P w K mg base A.ma "begin" ["self", "place", "env"] 1 (spBegin A.ma)
  gi : HasM P w K mg base A.ma "give" ["self", "worth"] 1 (spGive A.ma)
  fa : HasMX P w K mg base A.ma "faulted" ["self", "worth"] 3 (spFault A.sk)
section
variable {P : Program} {w : World} {K : PySem.W.Frag} {mg : Str → Option Value} {base : Heap} {f : Addr} {fd : FuncData} {A : Ad}
theorem ok_lit (F : Fun K "act_literal" "act_literal" sact_literal f fd) (M : Mth P w K mg base A) : FnOk P w K mg base (L2.CX P w) 9 f fd ["machine", "place", "env", "worths"] (spAct A cLit) := by
  have clM := M.cl
  have Mgive := M.gi
  have Mbegin := M.be
  have Mfaulted := M.fa
  refine F.okX scact_literal (fun vs H Q E h => ?_) (fun cdv A' outer s0 H vs Q E hr h => ?_)
  · obtain ⟨m, x, en, tw, s, ws, t, z, lp, k, ⟨rfl, _, _, _⟩, _⟩ := h
    rfl
  obtain ⟨m, x, en, tw, s, ws, t, z, lp, k, ⟨rfl, hm, ⟨dx, pt, hx⟩, htw⟩, a, v, r, ht, q⟩ := h
  refine ⟨_, (pss_one (ps_expr (pe_hasM clM Mgive (hr.mono (by omega)) (pv 0) (pa_cons (pe_ix ix_tup (pe_fld (pv 1) rfl) pe_int (fun _ _ => rfl)) pa_nil)))), ?_⟩
  obtain ⟨dm, hmm⟩ := id hm
  exact ⟨_, rfl, m, dm, _, rfl, hmm, rfl, _, rfl, x, A.pl, dx, _, _, rfl, hx, M.pl.cl, M.pl.no _ (by decide), rfl, t, _, 1, v, rfl, rfl, SqT.of ht, atI_nat (j := 1) rfl, give_q (E := E0) hm q⟩
theorem ok_yes (F : Fun K "act_yes" "act_yes" sact_yes f fd) (M : Mth P w K mg base A) : FnOk P w K mg base (L2.CX P w) 9 f fd ["machine", "place", "env", "worths"] (spAct A (cGive (.bl true))) := by
  have clM := M.cl
  have Mgive := M.gi
  have Mbegin := M.be
  have Mfaulted := M.fa
  refine F.okX scact_yes (fun vs H Q E h => ?_) (fun cdv A' outer s0 H vs Q E hr h => ?_)
  · obtain ⟨m, x, en, tw, s, ws, t, z, lp, k, ⟨rfl, _, _, _⟩, _⟩ := h
    rfl
  obtain ⟨m, x, en, tw, s, ws, t, z, lp, k, ⟨rfl, hm, ⟨dx, pt, hx⟩, htw⟩, q⟩ := h
  refine ⟨_, (pss_one (ps_expr (pe_hasM clM Mgive (hr.mono (by omega)) (pv 0) (pa_cons pe_bl pa_nil)))), ?_⟩
  obtain ⟨dm, hmm⟩ := id hm
  exact ⟨_, rfl, m, dm, _, rfl, hmm, rfl, give_q (E := E0) hm q⟩
theorem ok_no (F : Fun K "act_no" "act_no" sact_no f fd) (M : Mth P w K mg base A) : FnOk P w K mg base (L2.CX P w) 9 f fd ["machine", "place", "env", "worths"] (spAct A (cGive (.bl false))) := by
  have clM := M.cl
  have Mgive := M.gi
  have Mbegin := M.be
  have Mfaulted := M.fa
  refine F.okX scact_no (fun vs H Q E h => ?_) (fun cdv A' outer s0 H vs Q E hr h => ?_)
  · obtain ⟨m, x, en, tw, s, ws, t, z, lp, k, ⟨rfl, _, _, _⟩, _⟩ := h
    rfl
  obtain ⟨m, x, en, tw, s, ws, t, z, lp, k, ⟨rfl, hm, ⟨dx, pt, hx⟩, htw⟩, q⟩ := h
  refine ⟨_, (pss_one (ps_expr (pe_hasM clM Mgive (hr.mono (by omega)) (pv 0) (pa_cons pe_bl pa_nil)))), ?_⟩
  obtain ⟨dm, hmm⟩ := id hm
  exact ⟨_, rfl, m, dm, _, rfl, hmm, rfl, give_q (E := E0) hm q⟩
theorem ok_none (F : Fun K "act_none" "act_none" sact_none f fd) (M : Mth P w K mg base A) : FnOk P w K mg base (L2.CX P w) 9 f fd ["machine", "place", "env", "worths"] (spAct A (cGive .non)) := by
  have clM := M.cl
  have Mgive := M.gi
  have Mbegin := M.be
  have Mfaulted := M.fa
  refine F.okX scact_none (fun vs H Q E h => ?_) (fun cdv A' outer s0 H vs Q E hr h => ?_)
  · obtain ⟨m, x, en, tw, s, ws, t, z, lp, k, ⟨rfl, _, _, _⟩, _⟩ := h
    rfl
  obtain ⟨m, x, en, tw, s, ws, t, z, lp, k, ⟨rfl, hm, ⟨dx, pt, hx⟩, htw⟩, q⟩ := h
  refine ⟨_, (pss_one (ps_expr (pe_hasM clM Mgive (hr.mono (by omega)) (pv 0) (pa_cons pe_non pa_nil)))), ?_⟩
  obtain ⟨dm, hmm⟩ := id hm
  exact ⟨_, rfl, m, dm, _, rfl, hmm, rfl, give_q (E := E0) hm q⟩
theorem ok_name (F : Fun K "act_name" "act_name" sact_name f fd) (M : Mth P w K mg base A) : FnOk P w K mg base (L2.CX P w) 9 f fd ["machine", "place", "env", "worths"] (spAct A cName) := by
  have clM := M.cl
  have Mgive := M.gi
  have Mbegin := M.be
  have Mfaulted := M.fa
  refine F.okX scact_name (fun vs H Q E h => ?_) (fun cdv A' outer s0 H vs Q E hr h => ?_)
  · obtain ⟨m, x, en, tw, s, ws, t, z, lp, k, ⟨rfl, _, _, _⟩, _⟩ := h
    rfl
  obtain ⟨m, x, en, tw, s, ws, t, z, lp, k, ⟨rfl, hm, ⟨dx, pt, hx⟩, htw⟩, a, n, r, kvs, v, ht, he, hv, q⟩ := h
  refine ⟨_, (pss_one (ps_expr (pe_hasM clM Mgive (hr.mono (by omega)) (pv 0) (pa_cons (pe_dget (hu_of hr) (pv 2) (pe_ix ix_tup (pe_fld (pv 1) rfl) pe_int (fun _ _ => rfl)) (fun _ _ => rfl)) pa_nil)))), ?_⟩
  obtain ⟨dm, hmm⟩ := id hm
  refine ⟨_, rfl, m, dm, _, rfl, hmm, rfl, _, rfl, _, rfl, x, A.pl, dx, _, _, rfl, hx, M.pl.cl, M.pl.no _ (by decide), rfl, t, _, 1, .str n, rfl, rfl, SqT.of ht, atI_nat (j := 1) rfl, ?_⟩
  refine ⟨en, v, rfl, by rw [← hv]; exact DGet.k (k := Sum.inr n) he, ?_⟩
  exact give_q (E := E0) hm q
theorem ok_funA (F : Fun K "act_fun" "act_fun" sact_fun f fd) (M : Mth P w K mg base A) (CFun : HasC P w K mg base "Fun" A.fu ["self", "place", "env"] 1 (spIni A.fu ["place", "env"])) : FnOk P w K mg base (L2.CX P w) 9 f fd ["machine", "place", "env", "worths"] (spAct A cFun) := by
  have clM := M.cl
  have Mgive := M.gi
  have Mbegin := M.be
  have Mfaulted := M.fa
  refine F.okX scact_fun (fun vs H Q E h => ?_) (fun cdv A' outer s0 H vs Q E hr h => ?_)
  · obtain ⟨m, x, en, tw, s, ws, t, z, lp, k, ⟨rfl, _, _, _⟩, _⟩ := h
    rfl
  obtain ⟨m, x, en, tw, s, ws, t, z, lp, k, ⟨rfl, hm, ⟨dx, pt, hx⟩, htw⟩, q⟩ := h
  refine ⟨_, (pss_one (ps_expr (pe_hasM clM Mgive (hr.mono (by omega)) (pv 0) (pa_cons (pe_hasC CFun (hr.mono (by omega)) (pa_cons (pv 1) (pa_cons (pv 2) pa_nil))) pa_nil)))), ?_⟩
  obtain ⟨dm, hmm⟩ := id hm
  refine ⟨_, rfl, m, dm, _, rfl, hmm, rfl, _, rfl, _, rfl, new_ini (C := A.fu) (H := H) (Q := fun v H1 => spGive A.ma [.ref m, v] H1 (fun _ H2 => Q .non H2) E0) (fs := ["place", "env"]) (ws := [.ref x, .ref en]) rfl fun fx dxf H1 n1 n2 n3 h1 s1 h2 => ?_⟩
  obtain ⟨hm1, q1⟩ := q fx dxf H1 n1 n2 n3 h1 s1 h2
  exact give_q (E := E0) hm1 q1
theorem ok_let (F : Fun K "act_let" "act_let" sact_let f fd) (M : Mth P w K mg base A) : FnOk P w K mg base (L2.CX P w) 9 f fd ["machine", "place", "env", "worths"] (spAct A cLet) := by
  have clM := M.cl
  have Mgive := M.gi
  have Mbegin := M.be
  have Mfaulted := M.fa
  refine F.okX scact_let (fun vs H Q E h => ?_) (fun cdv A' outer s0 H vs Q E hr h => ?_)
  · obtain ⟨m, x, en, tw, s, ws, t, z, lp, k, ⟨rfl, _, _, _⟩, _⟩ := h
    rfl
  obtain ⟨m, x, en, tw, s, ws, t, z, lp, k, ⟨rfl, hm, ⟨dx, pt, hx⟩, htw⟩, a, n, r, kvs, v, wr, c0, p1, ht, he, hk, rfl, hlp, q⟩ := h
  refine ⟨_, (pss_one (ps_expr (pe_hasM clM Mbegin (hr.mono (by omega)) (pv 0) (pa_cons (pe_ix ix_list (pe_fld (pv 1) rfl) pe_int (fun _ _ => rfl)) (pa_cons (pe_starD (pv 2) (pe_ix ix_tup (pe_fld (pv 1) rfl) pe_int (fun _ _ => rfl)) (pe_ix ix_tup (pv 3) pe_int (fun _ _ => rfl))) pa_nil))))), ?_⟩
  obtain ⟨dm, hmm⟩ := id hm
  refine ⟨_, rfl, m, dm, _, rfl, hmm, rfl, _, rfl, x, A.pl, dx, _, _, rfl, hx, M.pl.cl, M.pl.no _ (by decide), rfl, lp, _, 1, .ref p1, rfl, rfl, SqL.of hlp, atI_nat (j := 1) rfl, ?_⟩
  intro p np
  have nep : en ≠ p := ne_of_none he np
  refine ⟨_, rfl, en, kvs, rfl, nep, by rw [upd_ne nep]; exact he, upd_same, by omega, fun p2 np2 => ?_⟩
  have n21 : p2 ≠ p := fun z => by rw [z, upd_same] at np2; cases np2
  have np2' : H p2 = none := by rw [upd_ne n21] at np2; exact np2
  have s3 : Same H (upd (upd (upd H p (.dK [])) p (.dK kvs)) p2 (.dK [])) := fun b o e => by
    rw [upd_ne (ne_of_none e np2'), upd_ne (ne_of_none e np), upd_ne (ne_of_none e np)]
    exact e
  refine ⟨_, rfl, x, A.pl, dx, _, _, rfl, s3 _ _ hx, M.pl.cl, M.pl.no _ (by decide), rfl, t, _, 1, .str n, rfl, rfl, SqT.of (s3 _ _ ht), atI_nat (j := 1) rfl, ?_⟩
  refine ⟨_, rfl, tw, _, 0, v, rfl, rfl, SqT.of (s3 _ _ htw), atI_nat (j := 0) rfl, ?_⟩
  refine ⟨n, rfl, by rw [upd_ne n21.symm, upd_same], upd_same, ?_⟩
  have s4 : Same H (upd (upd (upd (upd (upd H p (.dK [])) p (.dK kvs)) p2 (.dK [])) p2 (.dK [(Sum.inr n, v)])) p (.dK (putK kvs (Sum.inr n) v))) := fun b o e => by
    rw [upd_ne (ne_of_none e np), upd_ne (ne_of_none e np2')]
    exact s3 _ _ e
  exact begin_q (E := E0) (hm.same s4) (q p _ s4 np upd_same)
theorem ok_if (F : Fun K "act_if" "act_if" sact_if f fd) (M : Mth P w K mg base A) (T : AllC K A) (m_isinstance : mg "isinstance" = none) (m_bool : mg "bool" = none) : FnOk P w K mg base (L2.CX P w) 9 f fd ["machine", "place", "env", "worths"] (spAct A cIf) := by
  have clM := M.cl
  have Mgive := M.gi
  have Mbegin := M.be
  have Mfaulted := M.fa
  refine F.okX scact_if (fun vs H Q E h => ?_) (fun cdv A' outer s0 H vs Q E hr h => ?_)
  · obtain ⟨m, x, en, tw, s, ws, t, z, lp, k, ⟨rfl, _, _, _⟩, _⟩ := h
    rfl
  obtain ⟨m, x, en, tw, s, ws, t, z, lp, k, ⟨rfl, hm, ⟨dx, pt, hx⟩, htw⟩, c, wr, kc, rfl, hc, q1, q2⟩ := h
  refine ⟨_, (pss_one (ps_if (pt_not (pt_val (pe_callB (call_isA T) rfl m_isinstance PyProof.Rows.Boot.isinstance (pa_cons (pe_ix ix_tup (pv 3) pe_int (fun _ _ => rfl)) (pa_cons (pe_bltn (v := .ty "bool") rfl m_bool PyProof.Rows.Boot.«bool» rfl) pa_nil))))) (pss_one (ps_expr (pe_hasMX passX clM Mfaulted (hr.mono (by omega)) (pv 0) (pa_cons pe_str pa_nil)))) (pss_one (ps_expr (pe_hasM clM Mbegin (hr.mono (by omega)) (pv 0) (pa_cons (pe_ifExp (pt_val (pe_ix ix_tup (pv 3) pe_int (fun _ _ => rfl))) (pe_ix ix_list (pe_fld (pv 1) rfl) pe_int (fun _ _ => rfl)) (pe_ix ix_list (pe_fld (pv 1) rfl) pe_int (fun _ _ => rfl))) (pa_cons (pv 2) pa_nil))))))), ?_⟩
  obtain ⟨dm, hmm⟩ := id hm
  refine ⟨_, rfl, tw, _, 0, c, rfl, rfl, SqT.of htw, atI_nat (j := 0) rfl, c, kc, .bool, rfl, hc, _, rfl, ?_⟩
  by_cases e : kc = .bl
  · subst e
    cases hc with
    | bl b =>
      refine iteF ?_
      obtain ⟨c0, p1, p2, hlp, q⟩ := q2 b rfl
      refine ⟨_, rfl, m, dm, _, rfl, hmm, rfl, _, rfl, tw, _, 0, .bl b, rfl, rfl, SqT.of htw, atI_nat (j := 0) rfl, b, rfl, ?_⟩
      cases b with
      | true => exact ⟨_, rfl, x, A.pl, dx, _, _, rfl, hx, M.pl.cl, M.pl.no _ (by decide), rfl, lp, _, 1, .ref p1, rfl, rfl, SqL.of hlp, atI_nat (j := 1) rfl, _, rfl, begin_q (E := E0) hm q⟩
      | false => exact ⟨_, rfl, x, A.pl, dx, _, _, rfl, hx, M.pl.cl, M.pl.no _ (by decide), rfl, lp, _, 2, .ref p2, rfl, rfl, SqL.of hlp, atI_nat (j := 2) rfl, _, rfl, begin_q (E := E0) hm q⟩
  · have e1 : isK kc .bool = false := by
      cases kc with
      | bl => exact absurd rfl e
      | _ => rfl
    rw [e1]
    refine iteT ?_
    exact ⟨_, rfl, m, dm, _, rfl, hmm, rfl, .ref m, _, rfl, q1 e⟩
theorem ok_op (F : Fun K "act_op" "act_op" sact_op f fd) (M : Mth P w K mg base A) (spT : Sp) (Mop_told : HasMX P w K mg base A.ma "op_told" ["self", "word", "worths"] 13 (upS spT)) (m_list : mg "list" = none) : FnOk P w K mg base (L2.CX P w) 14 f fd ["machine", "place", "env", "worths"] (spAct A (cOp spT)) := by
  have clM := M.cl
  have Mgive := M.gi
  have Mbegin := M.be
  have Mfaulted := M.fa
  refine F.okX scact_op (fun vs H Q E h => ?_) (fun cdv A' outer s0 H vs Q E hr h => ?_)
  · obtain ⟨m, x, en, tw, s, ws, t, z, lp, k, ⟨rfl, _, _, _⟩, _⟩ := h
    rfl
  obtain ⟨m, x, en, tw, s, ws, t, z, lp, k, ⟨rfl, hm, ⟨dx, pt, hx⟩, htw⟩, a, n, r, ht, q⟩ := h
  refine ⟨_, (pss_cons (ps_asg (pe_hasMX passX clM Mop_told (hr.mono (by omega)) (pv 0) (pa_cons (pe_ix ix_tup (pe_fld (pv 1) rfl) pe_int (fun _ _ => rfl)) (pa_cons (pe_callTy call_list_of rfl m_list PyProof.Rows.Boot.«list» (pa_cons (pv 3) pa_nil)) pa_nil))) (pg_tup rfl (pgs_cons (pg_name (i := 4) scact_op.nd rfl (.inl rfl)) (pgs_cons (pg_name (i := 5) scact_op.nd rfl (.inl rfl)) pgs_nil))))
  (pss_one (ps_if (pt_cmpR op_eq (pv 4) pe_str (nomark _)) (pss_one (ps_expr (pe_hasMX passX clM Mfaulted (hr.mono (by omega)) (pv 0) (pa_cons (pv 5) pa_nil)))) (pss_one (ps_expr (pe_hasM clM Mgive (hr.mono (by omega)) (pv 0) (pa_cons (pv 5) pa_nil))))))), ?_⟩
  obtain ⟨dm, hmm⟩ := id hm
  refine ⟨_, rfl, m, dm, _, rfl, hmm, rfl, _, rfl, x, A.pl, dx, _, _, rfl, hx, M.pl.cl, M.pl.no _ (by decide), rfl, t, _, 1, .str n, rfl, rfl, SqT.of ht, atI_nat (j := 1) rfl, ?_⟩
  refine ⟨_, rfl, tw, ws, rfl, .inr (SqT.of htw), fun l nl => ?_⟩
  have s1 : Same H (upd H l (.lst ws)) := same_new nl
  refine ⟨_, q l _ s1 nl upd_same, ?_⟩
  rintro v2 H2 ⟨p, zz, v, rfl, hp, hm2, q1, q2⟩
  refine ⟨p, _, rfl, SqT.of hp, rfl, _, _, rfl, _, _, rfl, rfl, _, rfl, rfl, _, rfl, ?_⟩
  obtain ⟨dm2, hmm2⟩ := id hm2
  refine ite2 (fun c => ?_) (fun c => ?_)
  · exact ⟨_, rfl, m, dm2, _, rfl, hmm2, rfl, _, rfl, .ref m, v, rfl, q1 (V.str.inj (of_decide_eq_true c))⟩
  · exact ⟨_, rfl, m, dm2, _, rfl, hmm2, rfl, _, rfl, give_q (E := E0) hm2 (q2 fun z => c (decide_eq_true (by rw [z])))⟩
theorem ok_cellA (F : Fun K "act_cell" "act_cell" sact_cell f fd) (M : Mth P w K mg base A) (CCell : HasC P w K mg base "Cell" A.ce ["self", "held"] 1 (spIni A.ce ["held"])) : FnOk P w K mg base (L2.CX P w) 9 f fd ["machine", "place", "env", "worths"] (spAct A cCell) := by
  have clM := M.cl
  have Mgive := M.gi
  have Mbegin := M.be
  have Mfaulted := M.fa
  refine F.okX scact_cell (fun vs H Q E h => ?_) (fun cdv A' outer s0 H vs Q E hr h => ?_)
  · obtain ⟨m, x, en, tw, s, ws, t, z, lp, k, ⟨rfl, _, _, _⟩, _⟩ := h
    rfl
  obtain ⟨m, x, en, tw, s, ws, t, z, lp, k, ⟨rfl, hm, ⟨dx, pt, hx⟩, htw⟩, v, wr, rfl, q⟩ := h
  refine ⟨_, (pss_one (ps_expr (pe_hasM clM Mgive (hr.mono (by omega)) (pv 0) (pa_cons (pe_hasC CCell (hr.mono (by omega)) (pa_cons (pe_ix ix_tup (pv 3) pe_int (fun _ _ => rfl)) pa_nil)) pa_nil)))), ?_⟩
  obtain ⟨dm, hmm⟩ := id hm
  refine ⟨_, rfl, m, dm, _, rfl, hmm, rfl, _, rfl, tw, _, 0, v, rfl, rfl, SqT.of htw, atI_nat (j := 0) rfl, new_ini (C := A.ce) (H := H) (Q := fun v H1 => spGive A.ma [.ref m, v] H1 (fun _ H2 => Q .non H2) E0) (fs := ["held"]) (ws := [v]) rfl fun fx dxf H1 n1 n2 n3 h1 s1 h2 => ?_⟩
  obtain ⟨hm1, q1⟩ := q fx dxf H1 n1 n2 n3 h1 s1 h2
  exact give_q (E := E0) hm1 q1
theorem ok_get (F : Fun K "act_get" "act_get" sact_get f fd) (M : Mth P w K mg base A) (T : AllC K A) (TC : TxC K A.ce ["held"]) (m_isinstance : mg "isinstance" = none) (m_Cell : mg "Cell" = some (.ref A.ce)) : FnOk P w K mg base (L2.CX P w) 9 f fd ["machine", "place", "env", "worths"] (spAct A cGet) := by
  have clM := M.cl
  have Mgive := M.gi
  have Mbegin := M.be
  have Mfaulted := M.fa
  refine F.okX scact_get (fun vs H Q E h => ?_) (fun cdv A' outer s0 H vs Q E hr h => ?_)
  · obtain ⟨m, x, en, tw, s, ws, t, z, lp, k, ⟨rfl, _, _, _⟩, _⟩ := h
    rfl
  obtain ⟨m, x, en, tw, s, ws, t, z, lp, k, ⟨rfl, hm, ⟨dx, pt, hx⟩, htw⟩, c, wr, kc, rfl, hc, q1, q2⟩ := h
  refine ⟨_, (pss_one (ps_if (pt_not (pt_val (pe_callB (call_isA T) rfl m_isinstance PyProof.Rows.Boot.isinstance (pa_cons (pe_ix ix_tup (pv 3) pe_int (fun _ _ => rfl)) (pa_cons (pe_glob (v := .ref A.ce) rfl m_Cell rfl) pa_nil))))) (pss_one (ps_expr (pe_hasMX passX clM Mfaulted (hr.mono (by omega)) (pv 0) (pa_cons pe_str pa_nil)))) (pss_one (ps_expr (pe_hasM clM Mgive (hr.mono (by omega)) (pv 0) (pa_cons (pe_fld (pe_ix ix_tup (pv 3) pe_int (fun _ _ => rfl)) rfl) pa_nil)))))), ?_⟩
  obtain ⟨dm, hmm⟩ := id hm
  refine ⟨_, rfl, tw, _, 0, c, rfl, rfl, SqT.of htw, atI_nat (j := 0) rfl, c, kc, .cell, rfl, hc, _, rfl, ?_⟩
  by_cases e : kc = .cell
  · obtain ⟨cx, dxc, v0, rfl, hcx, q⟩ := q2 e
    subst e
    refine iteF ?_
    exact ⟨_, rfl, m, dm, _, rfl, hmm, rfl, _, rfl, tw, _, 0, .ref cx, rfl, rfl, SqT.of htw, atI_nat (j := 0) rfl, cx, A.ce, dxc, _, _, rfl, hcx, TC.cl, TC.no _ (by decide), rfl, give_q (E := E0) hm q⟩
  · have e1 : isK kc .cell = false := by
      cases kc with
      | cell => exact absurd rfl e
      | _ => rfl
    rw [e1]
    refine iteT ?_
    exact ⟨_, rfl, m, dm, _, rfl, hmm, rfl, .ref m, _, rfl, q1 e⟩
theorem ok_set (F : Fun K "act_set" "act_set" sact_set f fd) (M : Mth P w K mg base A) (T : AllC K A) (TC : TxC K A.ce ["held"]) (m_isinstance : mg "isinstance" = none) (m_Cell : mg "Cell" = some (.ref A.ce)) : FnOk P w K mg base (L2.CX P w) 9 f fd ["machine", "place", "env", "worths"] (spAct A cSet) := by
  have clM := M.cl
  have Mgive := M.gi
  have Mbegin := M.be
  have Mfaulted := M.fa
  refine F.okX scact_set (fun vs H Q E h => ?_) (fun cdv A' outer s0 H vs Q E hr h => ?_)
  · obtain ⟨m, x, en, tw, s, ws, t, z, lp, k, ⟨rfl, _, _, _⟩, _⟩ := h
    rfl
  obtain ⟨m, x, en, tw, s, ws, t, z, lp, k, ⟨rfl, hm, ⟨dx, pt, hx⟩, htw⟩, c, v, kc, rfl, hc, q1, q2⟩ := h
  refine ⟨_, (pss_cons (ps_asg (pv 3) (pg_tup rfl (pgs_cons (pg_name (i := 4) scact_set.nd rfl (.inl rfl)) (pgs_cons (pg_name (i := 5) scact_set.nd rfl (.inl rfl)) pgs_nil))))
  (pss_one (ps_if (pt_not (pt_val (pe_callB (call_isA T) rfl m_isinstance PyProof.Rows.Boot.isinstance (pa_cons (pv 4) (pa_cons (pe_glob (v := .ref A.ce) rfl m_Cell rfl) pa_nil))))) (pss_one (ps_expr (pe_hasMX passX clM Mfaulted (hr.mono (by omega)) (pv 0) (pa_cons pe_str pa_nil)))) (pss_cons (ps_fld (pv 4) (pv 5) rfl)
  (pss_one (ps_expr (pe_hasM clM Mgive (hr.mono (by omega)) (pv 0) (pa_cons pe_non pa_nil)))))))), ?_⟩
  obtain ⟨dm, hmm⟩ := id hm
  refine ⟨_, rfl, tw, _, rfl, SqT.of htw, rfl, _, _, rfl, _, _, rfl, rfl, ?_⟩
  refine ⟨_, rfl, c, kc, .cell, rfl, hc, _, rfl, ?_⟩
  by_cases e : kc = .cell
  · obtain ⟨cx, dxc, v0, rfl, hcx, q⟩ := q2 e
    subst e
    refine iteF ?_
    have ncm : m ≠ cx := fun z => by
      rw [z, hcx] at hmm
      have e1 := (HO.ins.inj (Option.some.inj hmm)).1
      have nd := T.nd
      simp only [List.nodup_cons, List.mem_cons, not_or] at nd
      exact nd.2.2.2.1.2.2.2.2.1 e1
    refine ⟨_, rfl, _, rfl, cx, A.ce, dxc, _, rfl, hcx, TC.cl, TC.no _ (by decide), (by show 1 < 1000; decide), ?_⟩
    refine ⟨_, rfl, m, dm, _, rfl, (by rw [upd_ne ncm]; exact hmm), rfl, ?_⟩
    exact give_q (E := E0) (s := s) ⟨dm, by rw [upd_ne ncm]; exact hmm⟩ q
  · have e1 : isK kc .cell = false := by
      cases kc with
      | cell => exact absurd rfl e
      | _ => rfl
    rw [e1]
    refine iteT ?_
    exact ⟨_, rfl, m, dm, _, rfl, hmm, rfl, .ref m, _, rfl, q1 e⟩
theorem ok_say (F : Fun K "act_say" "act_say" sact_say f fd) (M : Mth P w K mg base A) (Gshown : Has P w K mg base "shown" ["worth"] 3 (spShown A)) : FnOk P w K mg base (L2.CX P w) 9 f fd ["machine", "place", "env", "worths"] (spAct A cSay) := by
  have clM := M.cl
  have Mgive := M.gi
  have Mbegin := M.be
  have Mfaulted := M.fa
  refine F.okX scact_say (fun vs H Q E h => ?_) (fun cdv A' outer s0 H vs Q E hr h => ?_)
  · obtain ⟨m, x, en, tw, s, ws, t, z, lp, k, ⟨rfl, _, _, _⟩, _⟩ := h
    rfl
  obtain ⟨m, x, en, tw, s, ws, t, z, lp, k, ⟨rfl, hm, ⟨dx, pt, hx⟩, htw⟩, v, wr, cs, n, outs, rfl, hs, hn, hc, hlo, ho, q⟩ := h
  refine ⟨_, (pss_cons (ps_expr (pe_bm PySem.F.plainAttrs_list PySem.F.slot_list_append PySem.F.type_list_append mt_append (pe_fld (pv 0) rfl) (pa_cons (pe_has Gshown (hr.mono (by omega)) (pa_cons (pe_ix ix_tup (pv 3) pe_int (fun _ _ => rfl)) pa_nil)) pa_nil)))
  (pss_one (ps_expr (pe_hasM clM Mgive (hr.mono (by omega)) (pv 0) (pa_cons pe_non pa_nil))))), ?_⟩
  obtain ⟨dm, hmm⟩ := id hm
  refine ⟨_, rfl, m, A.ma, dm, _, _, rfl, hmm, M.no.cl, M.no.no _ (by decide), rfl, .inl ⟨rfl, _, SqL.of hlo⟩, ?_⟩
  refine ⟨_, rfl, tw, _, 0, v, rfl, rfl, SqT.of htw, atI_nat (j := 0) rfl, v, cs, n, rfl, hs, hn, hc, fun tx H1 htx s1 => ?_⟩
  refine ⟨s.lo, _, _, rfl, rfl, s1 _ _ hlo, by rw [sizeLine_eq]; omega, ?_⟩
  have nml : m ≠ s.lo := ne_of hmm hlo (by intro z; cases z)
  refine ⟨_, rfl, m, dm, _, rfl, (by rw [upd_ne nml]; exact s1 _ _ hmm), rfl, ?_⟩
  exact give_q (E := E0) (s := s) ⟨dm, by rw [upd_ne nml]; exact s1 _ _ hmm⟩ (q tx H1 htx s1)
end
end Wp
set_option Elab.async false
set_option linter.all false
set_option maxRecDepth 100000
set_option maxHeartbeats 1000000
namespace Wp
open PySem PySem.Spec PyProof.Rows L2
/-! ### calls -/
theorem putAll_snoc : ∀ (kvs : List (Key × V)) (ns : List Str) (hs : List V) (n : Str) (h : V), ns.length = hs.length → putAll kvs (ns ++ [n]) (hs ++ [h]) = putK (putAll kvs ns hs) (Sum.inr n) h
  | kvs, [], [], n, h, _ => rfl
  | kvs, n0 :: ns, h0 :: hs, n, h, l => by
    show putAll (putK kvs (Sum.inr n0) h0) (ns ++ [n]) (hs ++ [h]) = _
    rw [putAll_snoc _ ns hs n h (by simpa using l)]
    rfl
theorem putAll_len : ∀ (kvs : List (Key × V)) (ns : List Str) (hs : List V), (putAll kvs ns hs).length ≤ kvs.length + ns.length
  | kvs, [], _ => by simp [putAll]
  | kvs, n :: ns, [] => by simp [putAll]
  | kvs, n :: ns, h :: hs => by
    have e1 := putAll_len (putK kvs (Sum.inr n) h) ns hs
    have e2 := length_putK kvs (Sum.inr n) h
    show (putAll (putK kvs (Sum.inr n) h) ns hs).length ≤ _
    rw [List.length_cons]
    omega
theorem take_snoc {α : Type} {xs : List α} {i : Nat} {x : α} (h : xs[i]? = some x) : xs.take (i + 1) = xs.take i ++ [x] := by rw [List.take_add_one, h]; rfl
abbrev fuNs : List Str := ["place", "env"]
section
variable {P : Program} {w : World} {K : PySem.W.Frag} {mg : Str → Option Value} {base : Heap} {f : Addr} {fd : FuncData} {A : Ad}
theorem ok_names (F : Fun K "names_of" "names_of" snames_of f fd) (TF : TxC K A.fu fuNs) (TP : TxC K A.pl plNs) : FnOk P w K mg base CX0 1 f fd ["function"] (spNames A) := by
  refine F.ok scnames_of (fun vs H Q E h => ?_) (fun cdv A' outer s0 H vs Q E hr h => ?_)
  · obtain ⟨fx, y, ty, fe, tn, its, ns, zy, lpy, kvs, rfl, _⟩ := h
    rfl
  obtain ⟨fx, y, ty, fe, tn, its, ns, zy, lpy, kvs, rfl, h, q⟩ := h
  refine ⟨_, (pss_one (ps_ret (pe_ix ix_tup (pe_fld (pe_fld (pv 0) rfl) rfl) (pe_un un_neg pe_int) (fun _ _ => rfl)))), ?_⟩
  obtain ⟨dxf, hf⟩ := h.hfx
  obtain ⟨k, dx, pt, hy⟩ := h.hpz
  exact ⟨_, rfl, fx, A.fu, dxf, _, _, rfl, hf, TF.cl, TF.no _ (by decide), rfl, y, A.pl, dx, _, _, rfl, hy, TP.cl, TP.no _ (by decide), rfl, 2, rfl, ty, its, -2, .ref tn, rfl, rfl, SqT.of h.hty, h.atn, q⟩
theorem ok_cenv (F : Fun K "called_env" "called_env" scalled_env f fd) (TF : TxC K A.fu fuNs) (TP : TxC K A.pl plNs) (m_dict : mg "dict" = none) (m_zip : mg "zip" = none) (Gnames_of : Has P w K mg base "names_of" ["function"] 1 (spNames A)) : FnOk P w K mg base CX0 2 f fd ["function", "handed"] (spCEnv A) := by
  refine F.ok sccalled_env (fun vs H Q E h => ?_) (fun cdv A' outer s0 H vs Q E hr h => ?_)
  · obtain ⟨fx, y, ty, fe, tn, its, ns, zy, lpy, kvs, th, hs, rfl, _⟩ := h
    rfl
  obtain ⟨fx, y, ty, fe, tn, its, ns, zy, lpy, kvs, th, hs, rfl, h, hth, hl, hrec, q⟩ := h
  refine ⟨_, (pss_cons (ps_set (i := 2) sccalled_env.nd rfl (.inl rfl) (pe_callTy call_dictD rfl m_dict PyProof.Rows.Boot.«dict» (pa_cons (pe_fld (pv 0) rfl) pa_nil)))
  (pss_cons (ps_if (pt_cmpR op_eq (pe_fld (pe_fld (pv 0) rfl) rfl) pe_str (nomark _)) (pss_one (ps_dput (hu_of hr) (pv 2) (pe_ix ix_tup (pe_fld (pe_fld (pv 0) rfl) rfl) pe_int (fun _ _ => rfl)) (pv 0) rfl)) pss_nil)
  (pss_cons (ps_for PassesOwn.never rfl (RZ.pi_zipA rfl m_zip (pa_cons (pe_has Gnames_of (hr.mono (by omega)) (pa_cons (pv 0) pa_nil)) (pa_cons (pv 1) pa_nil))) (pg_tup rfl (pgs_cons (pg_name (i := 3) sccalled_env.nd rfl (.inl rfl)) (pgs_cons (pg_name (i := 4) sccalled_env.nd rfl (.inl rfl)) pgs_nil))) (pss_one (ps_dput (hu_of hr) (pv 2) (pv 3) (pv 4) rfl)))
  (pss_one (ps_ret (pv 2)))))), ?_⟩
  obtain ⟨dxf, hf⟩ := id h.hfx
  obtain ⟨k, dx, pt, hy⟩ := id h.hpz
  refine ⟨_, rfl, fx, A.fu, dxf, _, _, rfl, hf, TF.cl, TF.no _ (by decide), rfl, fe, kvs, rfl, .inl h.hfe, fun p np => ?_⟩
  have s1 : Same H (upd H p (.dK kvs)) := same_new np
  have hp1 : upd H p (.dK kvs) p = some (.dK kvs) := upd_same
  generalize upd H p (.dK kvs) = H1 at s1 hp1 ⊢
  refine ⟨_, rfl, fx, A.fu, dxf, _, _, rfl, s1 _ _ hf, TF.cl, TF.no _ (by decide), rfl, y, A.pl, dx, _, _, rfl, s1 _ _ hy, TP.cl, TP.no _ (by decide), rfl, rfl, _, rfl, ?_⟩
  have lr : (recEnv zy its fx kvs).length ≤ 501 := by
    have := h.kl
    unfold recEnv
    split
    · split
      · have := length_putK kvs (Sum.inr ‹Str›) (.ref fx)
        omega
      · omega
    · omega
  refine ite2 (fun c => ?_) (fun c => ?_)
  · have er : zy = "rec" := V.str.inj (of_decide_eq_true c)
    obtain ⟨a, g, r, rfl⟩ := hrec er
    have ee : recEnv zy (a :: .str g :: r) fx kvs = putK kvs (Sum.inr g) (.ref fx) := by
      unfold recEnv
      rw [if_pos er]
    refine ⟨_, rfl, _, rfl, _, rfl, fx, A.fu, dxf, _, _, rfl, s1 _ _ hf, TF.cl, TF.no _ (by decide), rfl, y, A.pl, dx, _, _, rfl, s1 _ _ hy, TP.cl, TP.no _ (by decide), rfl, ty, _, 1, .str g, rfl, rfl, SqT.of (s1 _ _ h.hty), atI_nat (j := 1) rfl, ?_⟩
    refine ⟨p, _, rfl, DPut.k (k := Sum.inr g) hp1 ?_, ?_⟩
    · have := h.kl
      rw [sizeLine_eq]
      omega
    have s2 : Same H (upd H1 p (.dK (putK kvs (Sum.inr g) (.ref fx)))) := fun b o e => by
      rw [upd_ne (ne_of_none e np)]
      exact s1 _ _ e
    have hp2 : upd H1 p (.dK (putK kvs (Sum.inr g) (.ref fx))) p = some (.dK (recEnv zy (a :: .str g :: r) fx kvs)) := by rw [ee, upd_same]
    generalize upd H1 p (.dK (putK kvs (Sum.inr g) (.ref fx))) = H2 at s2 hp2 ⊢
    generalize (a :: .str g :: r) = its at *
    refine ⟨_, rfl, fx, y, ty, fe, tn, its, ns, zy, lpy, kvs, rfl, h.same s2, ?_⟩
    refine ⟨_, rfl, tn, th, ns.map V.str, hs, rfl, .inr ⟨SqT.of (s2 _ _ h.hns), SqT.of (s2 _ _ hth), RZ.for_zipT (K := K) (xs := ns.map V.str) (ys := hs) (by rw [List.length_map]; exact hl)
      (fun i σ H' => ∃ o3 o4, σ = [some (.ref fx), some (.ref th), some (.ref p), o3, o4] ∧ Same H H' ∧ H' p = some (.dK (putAll (recEnv zy its fx kvs) (ns.take i) (hs.take i)))) ⟨none, none, rfl, s2, hp2⟩ ?_ ?_ ?_⟩⟩
    · rintro i σ H' ⟨_, _, _, s3, _⟩
      exact ⟨SqT.of (s3 _ _ h.hns), SqT.of (s3 _ _ hth)⟩
    · rintro i x0 y0 T σ H' hx0 hy0 ⟨o3, o4, rfl, s3, hp3⟩ nT
      rw [List.getElem?_map] at hx0
      obtain ⟨n0, hn0, rfl⟩ := Option.map_eq_some_iff.mp hx0
      have npT : p ≠ T := ne_of_none hp3 nT
      have hp4 : upd H' T (.tup [.str n0, y0]) p = _ := (upd_ne npT).trans hp3
      refine ⟨T, _, rfl, SqT.of upd_same, rfl, _, _, rfl, _, _, rfl, rfl, ?_⟩
      refine ⟨_, rfl, _, rfl, _, rfl, p, _, rfl, DPut.k (k := Sum.inr n0) hp4 ?_, ?_⟩
      · have e1 := putAll_len (recEnv zy its fx kvs) (ns.take i) (hs.take i)
        have e2 : (ns.take i).length ≤ ns.length := List.length_take_le' _ _
        have e3 := h.nl
        rw [sizeLine_eq]
        omega
      refine ⟨some (.str n0), some y0, rfl, fun b o e => ?_, ?_⟩
      · rw [upd_ne (ne_of_none e np), upd_ne (ne_of_none (s3 _ _ e) nT)]
        exact s3 _ _ e
      · rw [upd_same, take_snoc hn0, take_snoc hy0, putAll_snoc]
        rw [List.length_take, List.length_take, hl]
    · rintro σ H' ⟨o3, o4, rfl, s3, hp3⟩
      rw [List.length_map, List.take_of_length_le (Nat.le_refl _), hl, List.take_of_length_le (Nat.le_refl _)] at hp3
      exact ⟨_, rfl, q p H' s3 np hp3⟩
  · have er : zy ≠ "rec" := fun z => c (decide_eq_true (by rw [z]))
    have ee : recEnv zy its fx kvs = kvs := by
      unfold recEnv
      rw [if_neg er]
    have s2 := s1
    have hp2 : H1 p = some (.dK (recEnv zy its fx kvs)) := by rw [ee]; exact hp1
    refine ⟨_, rfl, fx, y, ty, fe, tn, its, ns, zy, lpy, kvs, rfl, h.same s2, ?_⟩
    refine ⟨_, rfl, tn, th, ns.map V.str, hs, rfl, .inr ⟨SqT.of (s2 _ _ h.hns), SqT.of (s2 _ _ hth), RZ.for_zipT (K := K) (xs := ns.map V.str) (ys := hs) (by rw [List.length_map]; exact hl)
      (fun i σ H' => ∃ o3 o4, σ = [some (.ref fx), some (.ref th), some (.ref p), o3, o4] ∧ Same H H' ∧ H' p = some (.dK (putAll (recEnv zy its fx kvs) (ns.take i) (hs.take i)))) ⟨none, none, rfl, s2, hp2⟩ ?_ ?_ ?_⟩⟩
    · rintro i σ H' ⟨_, _, _, s3, _⟩
      exact ⟨SqT.of (s3 _ _ h.hns), SqT.of (s3 _ _ hth)⟩
    · rintro i x0 y0 T σ H' hx0 hy0 ⟨o3, o4, rfl, s3, hp3⟩ nT
      rw [List.getElem?_map] at hx0
      obtain ⟨n0, hn0, rfl⟩ := Option.map_eq_some_iff.mp hx0
      have npT : p ≠ T := ne_of_none hp3 nT
      have hp4 : upd H' T (.tup [.str n0, y0]) p = _ := (upd_ne npT).trans hp3
      refine ⟨T, _, rfl, SqT.of upd_same, rfl, _, _, rfl, _, _, rfl, rfl, ?_⟩
      refine ⟨_, rfl, _, rfl, _, rfl, p, _, rfl, DPut.k (k := Sum.inr n0) hp4 ?_, ?_⟩
      · have e1 := putAll_len (recEnv zy its fx kvs) (ns.take i) (hs.take i)
        have e2 : (ns.take i).length ≤ ns.length := List.length_take_le' _ _
        have e3 := h.nl
        rw [sizeLine_eq]
        omega
      refine ⟨some (.str n0), some y0, rfl, fun b o e => ?_, ?_⟩
      · rw [upd_ne (ne_of_none e np), upd_ne (ne_of_none (s3 _ _ e) nT)]
        exact s3 _ _ e
      · rw [upd_same, take_snoc hn0, take_snoc hy0, putAll_snoc]
        rw [List.length_take, List.length_take, hl]
    · rintro σ H' ⟨o3, o4, rfl, s3, hp3⟩
      rw [List.length_map, List.take_of_length_le (Nat.le_refl _), hl, List.take_of_length_le (Nat.le_refl _)] at hp3
      exact ⟨_, rfl, q p H' s3 np hp3⟩
theorem cutV_tail (v : V) (hs : List V) : cutV (v :: hs) (some 1) none = hs := by
  rw [show cutV (v :: hs) (some 1) none = _ from rfl]
  simp [cutV, HT.sIx]
theorem ok_call (F : Fun K "act_call" "act_call" sact_call f fd) (M : Mth P w K mg base A) (T : AllC K A) (TF : TxC K A.fu fuNs) (m_isinstance : mg "isinstance" = none) (m_len : mg "len" = none) (m_Fun : mg "Fun" = some (.ref A.fu))
    (Gnames_of : Has P w K mg base "names_of" ["function"] 1 (spNames A)) (Gcalled_env : Has P w K mg base "called_env" ["function", "handed"] 2 (spCEnv A)) : FnOk P w K mg base (L2.CX P w) 9 f fd ["machine", "place", "env", "worths"] (spAct A cCall) := by
  have clM := M.cl
  have Mgive := M.gi
  have Mbegin := M.be
  have Mfaulted := M.fa
  refine F.okX scact_call (fun vs H Q E h => ?_) (fun cdv A' outer s0 H vs Q E hr h => ?_)
  · obtain ⟨m, x, en, tw, s, ws, t, z, lp, k, ⟨rfl, _, _, _⟩, _⟩ := h
    rfl
  obtain ⟨m, x, en, tw, s, ws, t, z, lp, k, ⟨rfl, hm, ⟨dx, pt, hx⟩, htw⟩, fv, hs, kf, rfl, hfv, q1, q2⟩ := h
  refine ⟨_, (pss_cons (ps_set (i := 4) scact_call.nd rfl (.inl rfl) (pe_ix ix_tup (pv 3) pe_int (fun _ _ => rfl)))
  (pss_cons (ps_set (i := 5) scact_call.nd rfl (.inl rfl) (pe_slice sl_tupA (pv 3) (po_some pe_int) po_none))
  (pss_one (ps_if (pt_not (pt_val (pe_callB (call_isA T) rfl m_isinstance PyProof.Rows.Boot.isinstance (pa_cons (pv 4) (pa_cons (pe_glob (v := .ref A.fu) rfl m_Fun rfl) pa_nil))))) (pss_one (ps_expr (pe_hasMX passX clM Mfaulted (hr.mono (by omega)) (pv 0) (pa_cons pe_str pa_nil)))) (pss_one (ps_if (pt_cmpR op_ne (pe_callB call_len_seq rfl m_len PySem.boot_len (pa_cons (pe_has Gnames_of (hr.mono (by omega)) (pa_cons (pv 4) pa_nil)) pa_nil)) (pe_callB call_len_seq rfl m_len PySem.boot_len (pa_cons (pv 5) pa_nil)) (nomark _)) (pss_one (ps_expr (pe_hasMX passX clM Mfaulted (hr.mono (by omega)) (pv 0) (pa_cons pe_str pa_nil)))) (pss_one (ps_expr (pe_hasM clM Mbegin (hr.mono (by omega)) (pv 0) (pa_cons (pe_ix ix_list (pe_fld (pe_fld (pv 4) rfl) rfl) pe_int (fun _ _ => rfl)) (pa_cons (pe_has Gcalled_env (hr.mono (by omega)) (pa_cons (pv 4) (pa_cons (pv 5) pa_nil))) pa_nil))))))))))), ?_⟩
  refine ⟨_, rfl, tw, _, 0, fv, rfl, rfl, SqT.of htw, atI_nat (j := 0) rfl, ?_⟩
  refine ⟨_, rfl, 1, rfl, tw, _, rfl, SqT.of htw, fun c => ?_, fun c th nth => ?_⟩
  · exfalso
    have e1 := c.1
    simp [HT.sIx] at e1
  rw [cutV_tail]
  have s1 : Same H (upd H th (.tup hs)) := same_new nth
  have hth : upd H th (.tup hs) th = some (.tup hs) := upd_same
  generalize upd H th (.tup hs) = H1 at s1 hth ⊢
  have hm1 := hm.same s1
  obtain ⟨dm, hmm⟩ := id hm1
  refine ⟨_, rfl, fv, kf, .fn, rfl, hfv.same s1, _, rfl, ?_⟩
  by_cases e : kf = .fn
  · obtain ⟨fx, y, ty, fe, tn, its, ns, zy, lpy, kvs, rfl, hfn, q3, q4⟩ := q2 e
    subst e
    refine iteF ?_
    have hfn1 := hfn.same s1
    obtain ⟨dxf, hf⟩ := id hfn1.hfx
    obtain ⟨ky, dxy, pty, hy⟩ := id hfn1.hpz
    refine ⟨_, rfl, fx, y, ty, fe, tn, its, ns, zy, lpy, kvs, rfl, hfn1, tn, _, rfl, .inr (SqT.of hfn1.hns), ?_⟩
    refine ⟨_, rfl, th, hs, rfl, .inr (SqT.of hth), rfl, _, rfl, ?_⟩
    rw [List.length_map]
    refine ite2 (fun c => ?_) (fun c => ?_)
    · have ne : ns.length ≠ hs.length := fun z => by
        rw [z] at c
        simp at c
      refine ⟨_, rfl, m, dm, _, rfl, hmm, rfl, .ref m, _, rfl, ?_⟩
      intro dd H' s2 nd hd
      exact q3 ne dd H' (fun b o e => s2 _ _ (s1 _ _ e)) (by
        cases e : H dd with
        | none => rfl
        | some o => rw [s1 _ _ e] at nd; cases nd) hd
    · have eq : ns.length = hs.length := by
        by_cases z : ns.length = hs.length
        · exact z
        · exfalso
          apply c
          simp
          omega
      obtain ⟨hrec, bd, r, hb, q⟩ := q4 eq
      refine ⟨_, rfl, m, dm, _, rfl, hmm, rfl, _, rfl, fx, A.fu, dxf, _, _, rfl, hf, TF.cl, TF.no _ (by decide), rfl, y, A.pl, dxy, _, _, rfl, hy, M.pl.cl, M.pl.no _ (by decide), rfl, lpy, _, 0, .ref bd, rfl, rfl, SqL.of (s1 _ _ hb), atI_nat (j := 0) rfl, ?_⟩
      refine ⟨_, rfl, _, rfl, fx, y, ty, fe, tn, its, ns, zy, lpy, kvs, th, hs, rfl, hfn1, hth, eq, hrec, fun p H' s2 np hp => ?_⟩
      refine begin_q (E := E0) (hm1.same s2) (q p H' (fun b o e => s2 _ _ (s1 _ _ e)) (by
        cases e : H p with
        | none => rfl
        | some o => rw [s1 _ _ e] at np; cases np) hp)
  · have e1 : isK kf .fn = false := by
      cases kf with
      | fn => exact absurd rfl e
      | _ => rfl
    rw [e1]
    refine iteT ?_
    refine ⟨_, rfl, m, dm, _, rfl, hmm, rfl, .ref m, _, rfl, ?_⟩
    intro dd H' s2 nd hd
    exact q1 e dd H' (fun b o e => s2 _ _ (s1 _ _ e)) (by
      cases e : H dd with
      | none => rfl
      | some o => rw [s1 _ _ e] at nd; cases nd) hd
end
end Wp
set_option Elab.async false
set_option linter.all false
set_option maxRecDepth 100000
set_option maxHeartbeats 1000000
namespace Wp
open PySem PySem.Spec PyProof.Rows L2
/-! ### the lesser machine's own ops -/
-- unchained: slots worth 0, worths 1, left 2
abbrev sunchained : Stmt := top 22
theorem scunchained : FnScope ["worth", "worths", "left"] ["worth"] (defScope sunchained) := ⟨rfl, rfl, rfl, by decide +kernel, rfl, by decide +kernel, by decide +kernel⟩
abbrev slunchained : List Str := ["worth", "worths", "left"]
-- pair_told: slots machine 0, first 1, rest 2
abbrev spair_told : Stmt := top 84
theorem scpair_told : FnScope ["machine", "first", "rest"] ["machine", "first", "rest"] (defScope spair_told) := ⟨rfl, rfl, rfl, by decide +kernel, rfl, by decide +kernel, by decide +kernel⟩
abbrev slpair_told : List Str := ["machine", "first", "rest"]
-- tried_told: slots machine 0, word 1, listed 2, worths 3, kind 4, told 5
abbrev stried_told : Stmt := top 85
theorem sctried_told : FnScope ["machine", "word", "listed", "worths", "kind", "told"] ["machine", "word", "listed"] (defScope stried_told) := ⟨rfl, rfl, rfl, by decide +kernel, rfl, by decide +kernel, by decide +kernel⟩
abbrev sltried_told : List Str := ["machine", "word", "listed", "worths", "kind", "told"]
-- wound_told: slots machine 0, way 1, number 2
abbrev swound_told : Stmt := top 86
theorem scwound_told : FnScope ["machine", "way", "number"] ["machine", "way", "number"] (defScope swound_told) := ⟨rfl, rfl, rfl, by decide +kernel, rfl, by decide +kernel, by decide +kernel⟩
abbrev slwound_told : List Str := ["machine", "way", "number"]
-- point_told: slots machine 0, held 1
abbrev spoint_told : Stmt := top 87
theorem scpoint_told : FnScope ["machine", "held"] ["machine", "held"] (defScope spoint_told) := ⟨rfl, rfl, rfl, by decide +kernel, rfl, by decide +kernel, by decide +kernel⟩
abbrev slpoint_told : List Str := ["machine", "held"]
-- part_told: slots machine 0, held 1
abbrev spart_told : Stmt := top 88
theorem scpart_told : FnScope ["machine", "held"] ["machine", "held"] (defScope spart_told) := ⟨rfl, rfl, rfl, by decide +kernel, rfl, by decide +kernel, by decide +kernel⟩
abbrev slpart_told : List Str := ["machine", "held"]
-- inside_told: slots machine 0, holder 1
abbrev sinside_told : Stmt := top 89
theorem scinside_told : FnScope ["machine", "holder"] ["machine", "holder"] (defScope sinside_told) := ⟨rfl, rfl, rfl, by decide +kernel, rfl, by decide +kernel, by decide +kernel⟩
abbrev slinside_told : List Str := ["machine", "holder"]
-- LesserMachine_op_told: slots self 0, word 1, worths 2, action 3
abbrev sLesserMachine_op_told : Stmt := inClass (top 83) 0
theorem scLesserMachine_op_told : FnScope ["self", "word", "worths", "action"] ["self", "word", "worths"] (defScope sLesserMachine_op_told) := ⟨rfl, rfl, rfl, by decide +kernel, rfl, by decide +kernel, by decide +kernel⟩
abbrev slLesserMachine_op_told : List Str := ["self", "word", "worths", "action"]
/-! a text among a written dict's keys -/
def InOk (K : PySem.W.Frag) (w : World) (d : Addr) (z : Str) (b : Bool) : Prop := ∃ es n r, KDict K w d es n ∧ PySem.W.nsIn K d z = some r ∧ r.isSome = b
def rInKd (K : PySem.W.Frag) (w : World) (neg : Bool) : R2 := fun x y H Q => ∃ (z : Str) (d : Addr) (b : Bool), x = .str z ∧ y = .ref d ∧ InOk K w d z b ∧ Q (.bl (if neg then !b else b)) H
theorem op_in_kdA {X : Cx} : OpR X (compareOp .In) (rInKd X.K X.w false) := by
  intro pins s σ H x y v u Q I rx ry h
  obtain ⟨z, d, b, rfl, rfl, ⟨es, n, r, D, e, rfl⟩, q⟩ := h
  exact op_in_kd D pins s σ H _ _ v u Q I rx ry ⟨z, r, rfl, rfl, e, q⟩
theorem op_notIn_kdA {X : Cx} : OpR X (compareOp .NotIn) (rInKd X.K X.w true) := by
  intro pins s σ H x y v u Q I rx ry h
  obtain ⟨z, d, b, rfl, rfl, ⟨es, n, r, D, e, rfl⟩, q⟩ := h
  exact op_notIn_kd D pins s σ H _ _ v u Q I rx ry ⟨z, r, rfl, rfl, e, q⟩
inductive Chv (A : Ad) (H : Hp) : V → List V → Prop
  | nil : Chv A H .non []
  | cons {x dx : Addr} {a b : V} {vs : List V} : H x = some (.ins A.pa dx [("first", a), ("rest", b)]) → Chv A H b vs → Chv A H (.ref x) (a :: vs)
theorem Chv.same {A : Ad} {H H' : Hp} {v : V} {vs : List V} (h : Chv A H v vs) (s : Same H H') : Chv A H' v vs := by
  induction h with
  | nil => exact .nil
  | cons h1 _ ih => exact .cons (s _ _ h1) ih
def spUnch (A : Ad) : Sp := fun vs H Q _ => ∃ v ws, vs = [v] ∧ Chv A H v ws ∧ ws.length ≤ 1000 ∧ ∀ l H', Same H H' → H l = none → H' l = some (.lst ws) → Q (.ref l) H'
def spMk (C : Addr) (fs : List Str) : Sp := fun vs H Q _ => ∃ m ws, vs = m :: ws ∧ ws.length = fs.length ∧ NewO C (fs.zip ws) H fun u H1 => Told H1 "worth" u Q
def opNs2 : List Str := ["plus", "minus", "times", "joined"]
def TriK (A : Ad) (Q : VK) : VK := fun r H2 => ∃ p zz v, r = .ref p ∧ H2 p = some (.tup [.str zz, v]) ∧ NewO A.pa [("first", .bl (decide (V.str zz = .str "worth"))), ("rest", v)] H2 fun u H3 => Told H3 "worth" u Q
def spTried (A : Ad) : Sp := fun vs H Q E => ∃ m z lv ws, vs = [m, .str z, lv] ∧ z ∈ opNs2 ∧ Chv A H lv ws ∧ ws.length = 2 ∧ ∀ l H1, Same H H1 → H1 l = some (.lst ws) → spOp A z ws H1 (TriK A Q) E
def spWound (A : Ad) : Sp := fun vs H Q _ => ∃ m way i s wnds, vs = [.ref m, .str way, .int i] ∧ (way = "in" ∨ way = "out") ∧ MAt A.ma H m s ∧ H s.lw = some (.lst wnds) ∧ wnds.length ≤ 1000 ∧
  ∀ t H1, Gx s.lw H H1 → H1 s.lw = some (.lst (wnds ++ [.ref t])) → H1 t = some (.tup [.str way, .int i]) → Told H1 "worth" .non Q
def spInside (A : Ad) : Sp := fun vs H Q _ => ∃ m v k, vs = [m, v] ∧ Wk A H v k ∧ (k ≠ .point → k ≠ .part → Told H "fault" (.str "no point") Q) ∧ (k = .point ∨ k = .part → ∃ x C dx u, v = .ref x ∧ (C = A.po ∨ C = A.pt) ∧ H x = some (.ins C dx [("held", u)]) ∧ Told H "worth" u Q)
def lsNs : List Str := ["pair", "tried", "wound", "point", "part", "inside"]
def spL (A : Ad) (z : Str) : Sp := if z = "pair" then spMk A.pa ["first", "rest"] else if z = "tried" then spTried A else if z = "wound" then spWound A else if z = "point" then spMk A.po ["held"] else if z = "part" then spMk A.pt ["held"] else spInside A
def LsTab (P : Program) (w : World) (K : PySem.W.Frag) (mg : Str → Option Value) (base : Heap) (A : Ad) (al : Addr) : Prop := ∀ z ∈ lsNs, InOk K w al z true ∧ ∃ f, KDct K w al z (.ref f) ∧ Hold P w K mg base 12 f (spL A z)
def spT (A : Ad) : Sp := fun vs H Q E => ∃ m z l ws, vs = [.ref m, .str z, .ref l] ∧ H l = some (.lst ws) ∧ ((z ∈ lsNs ∧ spL A z (.ref m :: ws) H Q E) ∨ (z ∈ opNs ∧ spOp A z ws H Q E))
section
variable {P : Program} {w : World} {K : PySem.W.Frag} {mg : Str → Option Value} {base : Heap} {f : Addr} {fd : FuncData} {A : Ad}
theorem ok_unch (F : Fun K "unchained" "unchained" sunchained f fd) (T : AllC K A) (TP : TxC K A.pa ["first", "rest"]) (m_isinstance : mg "isinstance" = none) (m_Pair : mg "Pair" = some (.ref A.pa)) : FnOk P w K mg base CX0 1 f fd ["worth"] (spUnch A) := by
  refine F.ok scunchained (fun vs H Q E h => ?_) (fun cdv A' outer s0 H vs Q E hr h => ?_)
  · obtain ⟨v, ws, rfl, _⟩ := h
    rfl
  obtain ⟨v, ws, rfl, hch, hl, q⟩ := h
  refine ⟨_, (pss_cons (ps_set (i := 1) scunchained.nd rfl (.inl rfl) (pe_lst pa_nil))
  (pss_cons (ps_set (i := 2) scunchained.nd rfl (.inl rfl) (pv 0))
  (pss_cons (ps_while PassesOwn.never (pt_val (pe_callB (call_isA T) rfl m_isinstance PyProof.Rows.Boot.isinstance (pa_cons (pv 2) (pa_cons (pe_glob (v := .ref A.pa) rfl m_Pair rfl) pa_nil)))) (pss_cons (ps_expr (pe_bm PySem.F.plainAttrs_list PySem.F.slot_list_append PySem.F.type_list_append mt_append (pv 1) (pa_cons (pe_fld (pv 2) rfl) pa_nil)))
  (pss_one (ps_set (i := 2) scunchained.nd rfl (.inl rfl) (pe_fld (pv 2) rfl)))))
  (pss_cons (ps_if (pt_cmpR op_notN (pv 2) pe_non (nomark _)) (pss_one ps_never) pss_nil)
  (pss_one (ps_ret (pv 1))))))), ?_⟩
  refine ⟨(by decide), fun l nl => ?_⟩
  refine ⟨_, rfl, ?_⟩
  refine ⟨fun m σ H' => ∃ done left u, σ = [some v, some (.ref l), some u] ∧ Same H H' ∧ H' l = some (.lst done) ∧ Chv A H u left ∧ done ++ left = ws ∧ m = left.length, ⟨_, [], ws, v, rfl, same_new nl, upd_same, hch, rfl, rfl⟩, ?_⟩
  rintro m σ H' ⟨done, left, u, rfl, s1, hd, hu, ed, rfl⟩
  cases hu with
  | nil =>
    refine ⟨_, rfl, .non, .non, .pair, rfl, .non, _, rfl, ?_⟩
    refine iteF ?_
    refine ⟨_, rfl, rfl, _, rfl, ?_⟩
    refine ite2 (fun c => absurd c (by simp)) (fun _ => ?_)
    rw [List.append_nil] at ed
    rw [ed] at hd
    exact ⟨_, rfl, q l H' s1 nl hd⟩
  | @cons x dx a b vs hx hb =>
    refine ⟨_, rfl, .ref x, .pair, .pair, rfl, .pair (s1 _ _ hx), _, rfl, ?_⟩
    refine iteT ?_
    refine ⟨fun σ2 H2 => ∃ m', m' < (a :: vs).length ∧ ∃ done left u, σ2 = [some v, some (.ref l), some u] ∧ Same H H2 ∧ H2 l = some (.lst done) ∧ Chv A H u left ∧ done ++ left = ws ∧ m' = left.length, fun σ2 H2 h => h, ?_⟩
    have ld : done.length + (vs.length + 1) = ws.length := by rw [← ed, List.length_append]; rfl
    refine ⟨_, rfl, .inl ⟨rfl, _, SqL.of hd⟩, _, rfl, x, A.pa, dx, _, _, rfl, s1 _ _ hx, TP.cl, TP.no _ (by decide), rfl, l, _, _, rfl, rfl, hd, by rw [sizeLine_eq]; omega, ?_⟩
    have nxl : x ≠ l := ne_of_none hx nl
    refine ⟨_, rfl, x, A.pa, dx, _, _, rfl, by rw [upd_ne nxl]; exact s1 _ _ hx, TP.cl, TP.no _ (by decide), rfl, ?_⟩
    refine ⟨vs.length, Nat.lt_succ_self _, done ++ [a], vs, b, rfl, fun c o e => ?_, upd_same, hb, by rw [← ed]; simp, rfl⟩
    rw [upd_ne (ne_of_none e nl)]
    exact s1 _ _ e
theorem ok_pairT (F : Fun K "pair_told" "pair_told" spair_told f fd) (CPair : HasC P w K mg base "Pair" A.pa ["self", "first", "rest"] 1 (spIni A.pa ["first", "rest"])) : FnOk P w K mg base CX0 3 f fd ["machine", "first", "rest"] (spMk A.pa ["first", "rest"]) := by
  refine F.ok scpair_told (fun vs H Q E h => ?_) (fun cdv A' outer s0 H vs Q E hr h => ?_)
  · obtain ⟨m, ws, rfl, hl, _⟩ := h
    rw [List.length_cons, hl]
    rfl
  obtain ⟨m, ws, rfl, hl, q⟩ := h
  match ws, hl with
  | [a, b], _ =>
  refine ⟨_, (pss_one (ps_ret (pe_tup (pa_cons pe_str (pa_cons (pe_hasC CPair (hr.mono (by omega)) (pa_cons (pv 1) (pa_cons (pv 2) pa_nil))) pa_nil))))), ?_⟩
  refine ⟨_, rfl, _, rfl, new_ini (C := A.pa) (H := H) (Q := fun v H1 => 2 ≤ sizeLine ∧ ∀ p, H1 p = none → Q (.ref p) (upd H1 p (.tup [.str "worth", v]))) (fs := ["first", "rest"]) (ws := [a, b]) rfl fun fx dxf H1 n1 n2 n3 h1 s1 h2 => ?_⟩
  exact ⟨by decide, told_new (q fx dxf H1 n1 n2 n3 h1 s1 h2)⟩
theorem ok_pointT (F : Fun K "point_told" "point_told" spoint_told f fd) (CPoint : HasC P w K mg base "Point" A.po ["self", "held"] 1 (spIni A.po ["held"])) : FnOk P w K mg base CX0 3 f fd ["machine", "held"] (spMk A.po ["held"]) := by
  refine F.ok scpoint_told (fun vs H Q E h => ?_) (fun cdv A' outer s0 H vs Q E hr h => ?_)
  · obtain ⟨m, ws, rfl, hl, _⟩ := h
    rw [List.length_cons, hl]
    rfl
  obtain ⟨m, ws, rfl, hl, q⟩ := h
  match ws, hl with
  | [a], _ =>
  refine ⟨_, (pss_one (ps_ret (pe_tup (pa_cons pe_str (pa_cons (pe_hasC CPoint (hr.mono (by omega)) (pa_cons (pv 1) pa_nil)) pa_nil))))), ?_⟩
  refine ⟨_, rfl, new_ini (C := A.po) (H := H) (Q := fun v H1 => 2 ≤ sizeLine ∧ ∀ p, H1 p = none → Q (.ref p) (upd H1 p (.tup [.str "worth", v]))) (fs := ["held"]) (ws := [a]) rfl fun fx dxf H1 n1 n2 n3 h1 s1 h2 => ?_⟩
  exact ⟨by decide, told_new (q fx dxf H1 n1 n2 n3 h1 s1 h2)⟩
theorem ok_partT (F : Fun K "part_told" "part_told" spart_told f fd) (CPart : HasC P w K mg base "Part" A.pt ["self", "held"] 1 (spIni A.pt ["held"])) : FnOk P w K mg base CX0 3 f fd ["machine", "held"] (spMk A.pt ["held"]) := by
  refine F.ok scpart_told (fun vs H Q E h => ?_) (fun cdv A' outer s0 H vs Q E hr h => ?_)
  · obtain ⟨m, ws, rfl, hl, _⟩ := h
    rw [List.length_cons, hl]
    rfl
  obtain ⟨m, ws, rfl, hl, q⟩ := h
  match ws, hl with
  | [a], _ =>
  refine ⟨_, (pss_one (ps_ret (pe_tup (pa_cons pe_str (pa_cons (pe_hasC CPart (hr.mono (by omega)) (pa_cons (pv 1) pa_nil)) pa_nil))))), ?_⟩
  refine ⟨_, rfl, new_ini (C := A.pt) (H := H) (Q := fun v H1 => 2 ≤ sizeLine ∧ ∀ p, H1 p = none → Q (.ref p) (upd H1 p (.tup [.str "worth", v]))) (fs := ["held"]) (ws := [a]) rfl fun fx dxf H1 n1 n2 n3 h1 s1 h2 => ?_⟩
  exact ⟨by decide, told_new (q fx dxf H1 n1 n2 n3 h1 s1 h2)⟩
theorem ok_wound (F : Fun K "wound_told" "wound_told" swound_told f fd) (T : AllC K A) (TM : TxC K A.ma mNs) (m_isinstance : mg "isinstance" = none) (m_str : mg "str" = none) (Gis_whole : Has P w K mg base "is_whole" ["thing"] 1 (spWhole A)) : FnOk P w K mg base CX0 3 f fd ["machine", "way", "number"] (spWound A) := by
  refine F.ok scwound_told (fun vs H Q E h => ?_) (fun cdv A' outer s0 H vs Q E hr h => ?_)
  · obtain ⟨m, way, i, s, wnds, rfl, _⟩ := h
    rfl
  obtain ⟨m, way, i, s, wnds, rfl, hway, ⟨dm, hm⟩, hw, hl, q⟩ := h
  refine ⟨_, (pss_cons (ps_if (PW.pt (pw_or (pt_not (pt_val (pe_callB (call_isA T) rfl m_isinstance PyProof.Rows.Boot.isinstance (pa_cons (pv 1) (pa_cons (pe_bltn (v := .ty "str") rfl m_str PyProof.Rows.Boot.«str» rfl) pa_nil))))) (pw_or1 (pt_cmpR op_notIn_seq (pv 1) (pe_tup (pa_cons pe_str (pa_cons pe_str pa_nil))) rfl)))) (pss_one (ps_ret (pe_tup (pa_cons pe_str (pa_cons pe_str pa_nil))))) pss_nil)
  (pss_cons (ps_if (pt_not (pt_val (pe_has Gis_whole (hr.mono (by omega)) (pa_cons (pv 2) pa_nil)))) (pss_one (ps_ret (pe_tup (pa_cons pe_str (pa_cons pe_str pa_nil))))) pss_nil)
  (pss_cons (ps_expr (pe_bm PySem.F.plainAttrs_list PySem.F.slot_list_append PySem.F.type_list_append mt_append (pe_fld (pv 0) rfl) (pa_cons (pe_tup (pa_cons (pv 1) (pa_cons (pv 2) pa_nil))) pa_nil)))
  (pss_one (ps_ret (pe_tup (pa_cons pe_str (pa_cons pe_non pa_nil)))))))), ?_⟩
  refine ⟨_, rfl, .str way, .str, .str, rfl, .str way, _, rfl, ?_⟩
  refine iteF ?_
  refine ⟨_, rfl, (by show 2 ≤ sizeLine; decide), fun t0 nt0 => ?_⟩
  refine ⟨t0, _, rfl, .inr (SqT.of upd_same), rfl, rfl, _, rfl, ?_⟩
  have s1 : Same H (upd H t0 (.tup [.str "in", .str "out"])) := same_new nt0
  generalize upd H t0 (.tup [.str "in", .str "out"]) = H1 at s1 ⊢
  have e0 : inV (.str way) [.str "in", .str "out"] = true := by
    rcases hway with rfl | rfl <;> decide +kernel
  rw [e0]
  refine iteF ?_
  refine ⟨_, rfl, .int i, .int, rfl, .int i, _, rfl, ?_⟩
  refine iteF ?_
  have hw1 := s1 _ _ hw
  refine ⟨_, rfl, m, A.ma, dm, _, _, rfl, s1 _ _ hm, TM.cl, TM.no _ (by decide), rfl, .inl ⟨rfl, _, SqL.of hw1⟩, _, rfl, _, rfl, (by show 2 ≤ sizeLine; decide), fun t nt => ?_⟩
  refine ⟨s.lw, _, _, rfl, rfl, (by rw [upd_ne (ne_of_none hw1 nt)]; exact hw1), by rw [sizeLine_eq]; omega, ?_⟩
  obtain ⟨g, h1, h2⟩ := pushed (vs := [.str way, .int i]) hw1 nt
  exact ⟨(by show 2 ≤ sizeLine; decide), told_new (q t _ (fun b o n e => g _ _ n (s1 _ _ e)) h1 h2)⟩
theorem ok_inside (F : Fun K "inside_told" "inside_told" sinside_told f fd) (T : AllC K A) (TO : TxC K A.po ["held"]) (TT : TxC K A.pt ["held"]) (m_isinstance : mg "isinstance" = none) (m_Point : mg "Point" = some (.ref A.po)) (m_Part : mg "Part" = some (.ref A.pt)) : FnOk P w K mg base CX0 1 f fd ["machine", "holder"] (spInside A) := by
  refine F.ok scinside_told (fun vs H Q E h => ?_) (fun cdv A' outer s0 H vs Q E hr h => ?_)
  · obtain ⟨m, v, k, rfl, _⟩ := h
    rfl
  obtain ⟨m, v, k, rfl, hk, q1, q2⟩ := h
  refine ⟨_, (pss_cons (ps_if (pt_not (pt_val (pe_callB call_isiT rfl m_isinstance PyProof.Rows.Boot.isinstance (pa_cons (pv 1) (pa_cons (pe_tup (pa_cons (pe_glob (v := .ref A.po) rfl m_Point rfl) (pa_cons (pe_glob (v := .ref A.pt) rfl m_Part rfl) pa_nil))) pa_nil))))) (pss_one (ps_ret (pe_tup (pa_cons pe_str (pa_cons pe_str pa_nil))))) pss_nil)
  (pss_one (ps_ret (pe_tup (pa_cons pe_str (pa_cons (pe_fld (pv 1) rfl) pa_nil)))))), ?_⟩
  refine ⟨_, rfl, (by show 2 ≤ sizeLine; decide), fun t0 nt0 => ?_⟩
  have s1 : Same H (upd H t0 (.tup [.ref A.po, .ref A.pt])) := same_new nt0
  have ht0 : upd H t0 (.tup [.ref A.po, .ref A.pt]) t0 = some (.tup [.ref A.po, .ref A.pt]) := upd_same
  generalize upd H t0 (.tup [.ref A.po, .ref A.pt]) = H1 at s1 ht0 ⊢
  obtain ⟨t, ty, g⟩ := isi_ty T (hk.same s1)
  obtain ⟨u1, cv1, kt1⟩ := g .point
  obtain ⟨u2, cv2, kt2⟩ := g .part
  have ka : PySem.W.kitAny K t [u1, u2] = some (isK k .point || isK k .part) := by
    unfold PySem.W.kitAny
    rw [kt1]
    cases isK k .point with
    | true => rfl
    | false =>
      show PySem.W.kitAny K t [u2] = some (isK k .part)
      unfold PySem.W.kitAny
      rw [kt2]
      cases isK k .part <;> rfl
  refine ⟨v, t0, _, t, [u1, u2], _, rfl, ht0, .cons cv1 (.cons cv2 .nil), ty, ka, _, rfl, ?_⟩
  by_cases e : k = .point ∨ k = .part
  · have eb : (isK k .point || isK k .part) = true := by rcases e with rfl | rfl <;> rfl
    rw [eb]
    refine iteF ?_
    obtain ⟨x, C, dx, u, rfl, hC, hx, q⟩ := q2 e
    rcases hC with rfl | rfl
    · exact ⟨_, rfl, x, _, dx, _, _, rfl, s1 _ _ hx, TO.cl, TO.no _ (by decide), rfl, (by show 2 ≤ sizeLine; decide), told_new (q.same s1)⟩
    · exact ⟨_, rfl, x, _, dx, _, _, rfl, s1 _ _ hx, TT.cl, TT.no _ (by decide), rfl, (by show 2 ≤ sizeLine; decide), told_new (q.same s1)⟩
  · have n1 : k ≠ .point := fun z => e (.inl z)
    have n2 : k ≠ .part := fun z => e (.inr z)
    have eb : (isK k .point || isK k .part) = false := by
      cases k with
      | point => exact absurd rfl n1
      | part => exact absurd rfl n2
      | _ => rfl
    rw [eb]
    refine iteT ?_
    exact ⟨(by show 2 ≤ sizeLine; decide), told_new ((q1 n1 n2).same s1)⟩
end
end Wp
set_option Elab.async false
set_option linter.all false
set_option maxRecDepth 100000
set_option maxHeartbeats 1000000
namespace Wp
open PySem PySem.Spec PyProof.Rows L2
section
variable {P : Program} {w : World} {K : PySem.W.Frag} {mg : Str → Option Value} {base : Heap} {f : Addr} {fd : FuncData} {A : Ad}
theorem op2_in {z : Str} (h : z ∈ opNs2) : z ∈ opNs := by
  simp only [opNs2, List.mem_cons, List.not_mem_nil, or_false] at h
  rcases h with rfl | rfl | rfl | rfl <;> decide
theorem ok_tried {ops : Addr} (F : Fun K "tried_told" "tried_told" stried_told f fd) (T : AllC K A) (m_isinstance : mg "isinstance" = none) (m_str : mg "str" = none) (m_len : mg "len" = none) (m_OPS : mg "OPS" = some (.ref ops)) (hO : ∀ z ∈ opNs2, InOk K w ops z true ∧ KDct K w ops z (.int 2))
    (Gunchained : Has P w K mg base "unchained" ["worth"] 1 (spUnch A)) (Gop_worth : HX P w K mg base "op_worth" ["word", "worths"] 10 (upS (spOpW A))) (CPair : HasC P w K mg base "Pair" A.pa ["self", "first", "rest"] 1 (spIni A.pa ["first", "rest"])) : FnOk P w K mg base (L2.CX P w) 11 f fd ["machine", "word", "listed"] (spTried A) := by
  refine F.okX sctried_told (fun vs H Q E h => ?_) (fun cdv A' outer s0 H vs Q E hr h => ?_)
  · obtain ⟨m, z, lv, ws, rfl, _⟩ := h
    rfl
  obtain ⟨m, z, lv, ws, rfl, hz, hch, hl, q⟩ := h
  refine ⟨_, (pss_cons (ps_if (PW.pt (pw_or (pt_not (pt_val (pe_callB (call_isA T) rfl m_isinstance PyProof.Rows.Boot.isinstance (pa_cons (pv 1) (pa_cons (pe_bltn (v := .ty "str") rfl m_str PyProof.Rows.Boot.«str» rfl) pa_nil))))) (pw_or1 (pt_cmpR op_notIn_kdA (pv 1) (pe_glob (v := .ref ops) rfl m_OPS rfl) rfl)))) (pss_one (ps_ret (pe_tup (pa_cons pe_str (pa_cons pe_str pa_nil))))) pss_nil)
  (pss_cons (ps_try_thru0 (pss_one (ps_set (i := 3) sctried_told.nd rfl (.inl rfl) (pe_has Gunchained (hr.mono (by omega)) (pa_cons (pv 2) pa_nil)))))
  (pss_cons (ps_if (pt_cmpR op_ne (pe_callB call_len_seq rfl m_len PySem.boot_len (pa_cons (pv 3) pa_nil)) (pe_ix ix_kdict (pe_glob (v := .ref ops) rfl m_OPS rfl) (pv 1) (fun _ _ => rfl)) (nomark _)) (pss_one (ps_ret (pe_tup (pa_cons pe_str (pa_cons pe_str pa_nil))))) pss_nil)
  (pss_cons (ps_asg (pe_hx passX Gop_worth (hr.mono (by omega)) (pa_cons (pv 1) (pa_cons (pv 3) pa_nil))) (pg_tup rfl (pgs_cons (pg_name (i := 4) sctried_told.nd rfl (.inl rfl)) (pgs_cons (pg_name (i := 5) sctried_told.nd rfl (.inl rfl)) pgs_nil))))
  (pss_one (ps_ret (pe_tup (pa_cons pe_str (pa_cons (pe_hasC CPair (hr.mono (by omega)) (pa_cons (pe_cmpR op_eq (pv 4) pe_str (nomark _)) (pa_cons (pv 5) pa_nil))) pa_nil))))))))), ?_⟩
  obtain ⟨i1, i2⟩ := hO z hz
  refine ⟨_, rfl, .str z, .str, .str, rfl, .str z, _, rfl, ?_⟩
  refine iteF ?_
  refine ⟨_, rfl, z, ops, true, rfl, rfl, i1, _, rfl, ?_⟩
  refine iteF ?_
  refine ⟨_, rfl, lv, ws, rfl, hch, by omega, fun l H1 s1 nl h1 => ?_⟩
  refine ⟨_, rfl, l, ws, rfl, .inl (SqL.of h1), _, rfl, ops, z, .int 2, rfl, rfl, i2, rfl, _, rfl, ?_⟩
  rw [hl]
  refine ite2 (fun c => absurd c (by decide)) (fun _ => ?_)
  refine ⟨_, rfl, _, rfl, TriK A Q, ⟨z, l, ws, rfl, op2_in hz, h1, q l H1 s1 h1⟩, ?_⟩
  rintro r H2 ⟨p, zz, v, rfl, hp, q2⟩
  refine ⟨p, _, rfl, SqT.of hp, rfl, _, _, rfl, _, _, rfl, rfl, ?_⟩
  refine ⟨_, rfl, rfl, _, rfl, new_ini (C := A.pa) (H := H2) (Q := fun v H1 => 2 ≤ sizeLine ∧ ∀ p, H1 p = none → Q (.ref p) (upd H1 p (.tup [.str "worth", v]))) (fs := ["first", "rest"]) (ws := [.bl (decide (V.str zz = .str "worth")), v]) rfl fun fx dxf H3 n1 n2 n3 h3 s3 h4 => ?_⟩
  exact ⟨by decide, told_new (q2 fx dxf H3 n1 n2 n3 h3 s3 h4)⟩
theorem ls_not {z : Str} (h : z ∈ opNs) : z ∉ lsNs := by
  simp only [opNs, List.mem_cons, List.not_mem_nil, or_false] at h
  rcases h with rfl | rfl | rfl | rfl | rfl | rfl | rfl <;> decide
theorem ok_told {al : Addr} (F : Fun K "op_told" "LesserMachine.op_told" sLesserMachine_op_told f fd) (m_LESSER_ACTIONS : mg "LESSER_ACTIONS" = some (.ref al)) (hT : LsTab P w K mg base A al) (hN : ∀ z ∈ opNs, InOk K w al z false)
    (Gop_worth : HX P w K mg base "op_worth" ["word", "worths"] 10 (upS (spOpW A))) : FnOk P w K mg base (L2.CX P w) 13 f fd ["self", "word", "worths"] (spT A) := by
  refine F.okX scLesserMachine_op_told (fun vs H Q E h => ?_) (fun cdv A' outer s0 H vs Q E hr h => ?_)
  · obtain ⟨m, z, l, ws, rfl, _⟩ := h
    rfl
  obtain ⟨m, z, l, ws, rfl, hl, q⟩ := h
  refine ⟨_, (pss_cons (ps_if (pt_cmpR op_in_kdA (pv 1) (pe_glob (v := .ref al) rfl m_LESSER_ACTIONS rfl) rfl) (pss_cons (ps_set (i := 3) scLesserMachine_op_told.nd rfl (.inl rfl) (pe_ix ix_kdict (pe_glob (v := .ref al) rfl m_LESSER_ACTIONS rfl) (pv 1) (fun _ _ => rfl)))
  (pss_one (ps_ret (pe_locS2 (k := 12) passX (hr.mono (by omega)) (i := 3) rfl (.inl rfl) (pa_cons (pv 0) (StX.pa_star (pv 2) pa_nil)))))) pss_nil)
  (pss_one (ps_ret (pe_hx passX Gop_worth (hr.mono (by omega)) (pa_cons (pv 1) (pa_cons (pv 2) pa_nil)))))), ?_⟩
  rcases q with ⟨hz, q⟩ | ⟨hz, q⟩
  · obtain ⟨i1, g, kd, hold⟩ := hT z hz
    refine ⟨_, rfl, z, al, true, rfl, rfl, i1, _, rfl, ?_⟩
    refine iteT ?_
    refine ⟨_, rfl, al, z, .ref g, rfl, rfl, kd, ?_⟩
    exact ⟨g, _, rfl, hold, _, rfl, _, rfl, l, ws, rfl, .inr (SqL.of hl), by show spL A z (.ref m :: (ws ++ [])) H _ _; rw [List.append_nil]; exact q⟩
  · refine ⟨_, rfl, z, al, false, rfl, rfl, hN z hz, _, rfl, ?_⟩
    refine iteF ?_
    exact ⟨_, rfl, _, rfl, Q, ⟨z, l, ws, rfl, hz, hl, q⟩, fun _ _ h => h⟩
end
end Wp
set_option Elab.async false
set_option linter.all false
set_option maxRecDepth 100000
set_option maxHeartbeats 1000000
namespace Wp
open PySem PySem.Spec PyProof.Rows L2
/-! ### the machine's steps -/
-- work_out: slots machine 0, place 1, env 2, worths 3
abbrev swork_out : Stmt := top 54
theorem scwork_out : FnScope ["machine", "place", "env", "worths"] ["machine", "place", "env", "worths"] (defScope swork_out) := ⟨rfl, rfl, rfl, by decide +kernel, rfl, by decide +kernel, by decide +kernel⟩
abbrev slwork_out : List Str := ["machine", "place", "env", "worths"]
-- take_step: slots machine 0
abbrev stake_step : Stmt := top 55
theorem sctake_step : FnScope ["machine"] ["machine"] (defScope stake_step) := ⟨rfl, rfl, rfl, by decide +kernel, rfl, by decide +kernel, by decide +kernel⟩
abbrev sltake_step : List Str := ["machine"]
-- act: slots machine 0, place 1, env 2, worths 3, action 4
abbrev sact : Stmt := top 56
theorem scact : FnScope ["machine", "place", "env", "worths", "action"] ["machine", "place", "env", "worths"] (defScope sact) := ⟨rfl, rfl, rfl, by decide +kernel, rfl, by decide +kernel, by decide +kernel⟩
abbrev slact : List Str := ["machine", "place", "env", "worths", "action"]
-- go_back: slots machine 0, frame 1, word 2, place 3, env 4, worths 5, told 6
abbrev sgo_back : Stmt := top 57
theorem scgo_back : FnScope ["machine", "frame", "word", "place", "env", "worths", "told"] ["machine"] (defScope sgo_back) := ⟨rfl, rfl, rfl, by decide +kernel, rfl, by decide +kernel, by decide +kernel⟩
abbrev slgo_back : List Str := ["machine", "frame", "word", "place", "env", "worths", "told"]
-- advance: slots machine 0, many 1, left 2
abbrev sadvance : Stmt := top 58
theorem scadvance : FnScope ["machine", "many", "left"] ["machine", "many"] (defScope sadvance) := ⟨rfl, rfl, rfl, by decide +kernel, rfl, by decide +kernel, by decide +kernel⟩
abbrev sladvance : List Str := ["machine", "many", "left"]
def G2 (m f : Addr) (H H' : Hp) : Prop := ∀ b o, b ≠ m → b ≠ f → H b = some o → H' b = some o
def spWO (A : Ad) : Sp := fun vs H Q _ => ∃ m x en tw s ws t z lp k frs ps c, Arg A vs H m x en tw s ws t z lp k ∧ FsAt A.fr A.no H s.f frs ∧ H lp = some (.lst ps) ∧ ps[ws.length]? = some (.ref c) ∧ ws.length ≤ 1000 ∧
  ∀ H', G2 m s.f H H' → FsAt A.fr A.no H' s.f (⟨x, en, ws⟩ :: frs) → MAt A.ma H' m { s with st := "begin", x := c, en := en } → Q .non H'
def actNs : List Str := ["num", "text", "yes", "no", "none", "name", "fun", "rec", "call", "let", "if", "op", "cell", "get", "set", "say"]
def capOf (A : Ad) (z : Str) : Cap :=
  if z = "num" ∨ z = "text" then cLit else if z = "yes" then cGive (.bl true) else if z = "no" then cGive (.bl false) else if z = "none" then cGive .non else if z = "name" then cName else if z = "fun" ∨ z = "rec" then cFun
  else if z = "call" then cCall else if z = "let" then cLet else if z = "if" then cIf else if z = "op" then cOp (spT A) else if z = "cell" then cCell else if z = "get" then cGet else if z = "set" then cSet else cSay
def AcTab (P : Program) (w : World) (K : PySem.W.Frag) (mg : Str → Option Value) (base : Heap) (A : Ad) (am : Addr) : Prop := ∀ z ∈ actNs, InOk K w am z true ∧ ∃ f, KDct K w am z (.ref f) ∧ Hold P w K mg base 14 f (spAct A (capOf A z))
def spAD (A : Ad) : Sp := fun vs H Q E => ∃ m x en tw s ws t z lp k, Arg A vs H m x en tw s ws t z lp k ∧ z ∈ actNs ∧ capOf A z A m x en tw s ws t z lp k H (fun _ H' => Q .non H') E
def spGB (A : Ad) : Sp := fun vs H Q E => ∃ m s frs, vs = [.ref m] ∧ MAt A.ma H m s ∧ FsAt A.fr A.no H s.f frs ∧
  (frs = [] → ∀ H', Gx m H H' → MAt A.ma H' m { s with st := "end", kd := "worth" } → Q .non H') ∧
  ∀ fr fs, frs = fr :: fs → ∃ t z lp k, Pz A H fr.x t z lp k ∧ fr.ws.length ≤ 100 ∧ ∀ tw H1, Gx s.f H H1 → FsAt A.fr A.no H1 s.f fs → H1 tw = some (.tup (fr.ws ++ [s.wv])) →
    ((((fr.ws.length + 1 : Nat) : Int) < k → ∃ ps c, H lp = some (.lst ps) ∧ ps[fr.ws.length + 1]? = some (.ref c) ∧ ∀ H', G2 m s.f H1 H' → FsAt A.fr A.no H' s.f (⟨fr.x, fr.en, fr.ws ++ [s.wv]⟩ :: fs) → MAt A.ma H' m { s with st := "begin", x := c, en := fr.en } → Q .non H') ∧
     (¬ ((fr.ws.length + 1 : Nat) : Int) < k → spAD A [.ref m, .ref fr.x, .ref fr.en, .ref tw] H1 Q E))
def Bk (A : Ad) (m : Addr) (Q : Hp → Prop) (E : XK) : Nat → Hp → Prop
  | 0, _ => False
  | n + 1, H => ∃ s, MAt A.ma H m s ∧ ((s.st ≠ "back" ∧ Q H) ∨ (s.st = "back" ∧ spGB A [.ref m] H (fun _ H' => Bk A m Q E n H') E))
def stepS (s : MSt) (n : Nat) : MSt := { s with stp := s.stp + 1, hgt := if (n : Int) > s.hgt then (n : Int) else s.hgt }
def spTS (A : Ad) : Sp := fun vs H Q E => ∃ m s frs t z lp k, vs = [.ref m] ∧ MAt A.ma H m s ∧ FsAt A.fr A.no H s.f frs ∧ Pz A H s.x t z lp k ∧
  ∀ H1, Gx m H H1 → MAt A.ma H1 m (stepS s frs.length) → FsAt A.fr A.no H1 s.f frs → ∃ n,
    (0 < k → ∃ ps c, H1 lp = some (.lst ps) ∧ ps[0]? = some (.ref c) ∧ ∀ H', G2 m s.f H1 H' → FsAt A.fr A.no H' s.f (⟨s.x, s.en, []⟩ :: frs) → MAt A.ma H' m { stepS s frs.length with st := "begin", x := c, en := s.en } → Bk A m (fun H' => Q .non H') E n H') ∧
    (¬ 0 < k → ∀ tw H2, Same H1 H2 → H2 tw = some (.tup []) → spAD A [.ref m, .ref s.x, .ref s.en, .ref tw] H2 (fun _ H' => Bk A m (fun H' => Q .non H') E n H') E)
def Go (A : Ad) (m : Addr) (Q : Hp → Prop) (E : XK) : Nat → Hp → Prop
  | 0, H => ∃ s, MAt A.ma H m s ∧ s.st = "end" ∧ Q H
  | n + 1, H => (∃ s, MAt A.ma H m s ∧ s.st = "end" ∧ Q H) ∨ (∃ s, MAt A.ma H m s ∧ s.st = "begin" ∧ spTS A [.ref m] H (fun _ H' => Go A m Q E n H') E)
def spAdv (A : Ad) : Sp := fun vs H Q E => ∃ (m : Addr) (many : Int) (n : Nat), vs = [.ref m, .int many] ∧ (n : Int) < many ∧ Go A m (fun H' => Q (.bl true) H') E n H
theorem FsAt.same {Fc N : Addr} {H H' : Hp} {x : Addr} {frs : List Fr} (h : FsAt Fc N H x frs) (s : Same H H') : FsAt Fc N H' x frs := by
  obtain ⟨dx, v, h1, h2⟩ := h
  exact ⟨dx, v, s _ _ h1, h2.keep (fun _ _ _ e => s _ _ e) fun _ _ e => s _ _ e⟩
/-- what a change of m leaves -/
theorem FsAt.gx {A : Ad} {H H' : Hp} {m x : Addr} {s : MSt} {frs : List Fr} (hm : MAt A.ma H m s) (n1 : A.fr ≠ A.ma) (n2 : A.no ≠ A.ma) (h : FsAt A.fr A.no H x frs) (g : Gx m H H') : FsAt A.fr A.no H' x frs := by
  obtain ⟨dx, v, h1, h2⟩ := h
  obtain ⟨dm, hm⟩ := hm
  refine ⟨dx, v, g _ _ (fun z => ?_) h1, h2.keep (fun b _ _ e => g _ _ (fun z => ?_) e) fun b xs e => g _ _ (ne_of e hm (by intro z; cases z)) e⟩
  · rw [z, hm] at h1
    exact n1 (HO.ins.inj (Option.some.inj h1)).1.symm
  · rw [z, hm] at e
    exact n2 (HO.ins.inj (Option.some.inj e)).1.symm
theorem AllC.ne2 {K : PySem.W.Frag} {A : Ad} (T : AllC K A) : A.fr ≠ A.ma ∧ A.no ≠ A.ma ∧ A.no ≠ A.fr ∧ A.pl ≠ A.ma ∧ A.pl ≠ A.fr := by
  have h := T.nd
  simp only [List.nodup_cons, List.mem_cons, not_or] at h
  exact ⟨h.2.2.2.2.2.2.2.1.1, h.2.2.2.2.2.2.1.2.1, h.2.2.2.2.2.2.1.1, h.1.2.2.2.2.2.2.2.1, h.1.2.2.2.2.2.2.1⟩
structure Frm (P : Program) (w : World) (K : PySem.W.Frag) (mg : Str → Option Value) (base : Heap) (A : Ad) : Prop where
  cl : Cls K A.fr
  pu : HasM P w K mg base A.fr "push" ["self", "frame"] 3 (spPush A.fr A.no)
  pl : HasM P w K mg base A.fr "pull" ["self"] 1 (spPull A.fr A.no)
  ma : HasM P w K mg base A.fr "many" ["self"] 1 (spMany A.fr A.no)
section
variable {P : Program} {w : World} {K : PySem.W.Frag} {mg : Str → Option Value} {base : Heap} {f : Addr} {fd : FuncData} {A : Ad}
theorem ok_wo (F : Fun K "work_out" "work_out" swork_out f fd) (T : AllC K A) (M : Mth P w K mg base A) (R : Frm P w K mg base A) (m_len : mg "len" = none) : FnOk P w K mg base CX0 4 f fd ["machine", "place", "env", "worths"] (spWO A) := by
  have clM := M.cl
  have clF := R.cl
  have Mbegin := M.be
  have Mpush := R.pu
  refine F.ok scwork_out (fun vs H Q E h => ?_) (fun cdv A' outer s0 H vs Q E hr h => ?_)
  · obtain ⟨m, x, en, tw, s, ws, t, z, lp, k, frs, ps, c, ⟨rfl, _, _, _⟩, _⟩ := h
    rfl
  obtain ⟨m, x, en, tw, s, ws, t, z, lp, k, frs, ps, c, ⟨rfl, hm, ⟨dx, pt, hx⟩, htw⟩, hfs, hlp, hc, hl, q⟩ := h
  refine ⟨_, (pss_cons (ps_expr (pe_hasM clF Mpush (hr.mono (by omega)) (pe_fld (pv 0) rfl) (pa_cons (pe_tup (pa_cons pe_str (pa_cons (pv 1) (pa_cons (pv 2) (pa_cons (pv 3) pa_nil))))) pa_nil)))
  (pss_one (ps_expr (pe_hasM clM Mbegin (hr.mono (by omega)) (pv 0) (pa_cons (pe_ix ix_list (pe_fld (pv 1) rfl) (pe_callB call_len_seq rfl m_len PySem.boot_len (pa_cons (pv 3) pa_nil)) (fun _ _ => rfl)) (pa_cons (pv 2) pa_nil)))))), ?_⟩
  obtain ⟨dm, hmm⟩ := id hm
  obtain ⟨df, fv, hff, hch⟩ := id hfs
  obtain ⟨n1, n2, n3, n4, n5⟩ := T.ne2
  have nmf : m ≠ s.f := fun z => by rw [z, hff] at hmm; exact n1 (HO.ins.inj (Option.some.inj hmm)).1
  have nxm : x ≠ m := fun z => by rw [z, hmm] at hx; exact n4 (HO.ins.inj (Option.some.inj hx)).1.symm
  have nxf : x ≠ s.f := fun z => by rw [z, hff] at hx; exact n5 (HO.ins.inj (Option.some.inj hx)).1.symm
  refine ⟨_, rfl, m, A.ma, dm, _, _, rfl, hmm, M.no.cl, M.no.no _ (by decide), rfl, s.f, df, _, rfl, hff, rfl, ?_⟩
  refine ⟨_, rfl, _, rfl, _, rfl, (by show 4 ≤ sizeLine; decide), fun tf ntf => ?_⟩
  have s1 : Same H (upd H tf (.tup [.str "wait", .ref x, .ref en, .ref tw])) := same_new ntf
  have htf : upd H tf (.tup [.str "wait", .ref x, .ref en, .ref tw]) tf = some (.tup [.str "wait", .ref x, .ref en, .ref tw]) := upd_same
  generalize upd H tf (.tup [.str "wait", .ref x, .ref en, .ref tw]) = H1 at s1 htf ⊢
  refine ⟨s.f, tf, ⟨x, en, ws⟩, frs, rfl, hfs.same s1, ⟨tw, htf, s1 _ _ htw⟩, fun H2 hfs2 k2 => ?_⟩
  have hm2 := k2 _ _ nmf (s1 _ _ hmm)
  refine ⟨_, rfl, m, dm, _, rfl, hm2, rfl, ?_⟩
  refine ⟨_, rfl, x, A.pl, dx, _, _, rfl, k2 _ _ nxf (s1 _ _ hx), M.pl.cl, M.pl.no _ (by decide), rfl, ?_⟩
  have ntw : tw ≠ s.f := ne_of htw hff (by intro z; cases z)
  have nlp : lp ≠ s.f := ne_of hlp hff (by intro z; cases z)
  refine ⟨_, rfl, tw, ws, rfl, .inr (SqT.of (k2 _ _ ntw (s1 _ _ htw))), lp, ps, _, .ref c, rfl, rfl, SqL.of (k2 _ _ nlp (s1 _ _ hlp)), atI_nat (j := ws.length) hc, _, rfl, ?_⟩
  refine begin_q (E := E0) (s := s) ⟨dm, hm2⟩ fun H3 g3 hm3 => ?_
  refine q H3 (fun b o nb nf e => g3 _ _ nb (k2 _ _ nf (s1 _ _ e))) (FsAt.gx (A := A) (s := s) ⟨dm, hm2⟩ n1 n2 hfs2 g3) hm3
theorem ok_act {am : Addr} (F : Fun K "act" "act" sact f fd) (M : Mth P w K mg base A) (m_ACTIONS_machine : mg "ACTIONS_machine" = some (.ref am)) (hT : AcTab P w K mg base A am) (Mact_more : HasMX P w K mg base A.ma "act_more" ["self", "place", "env", "worths"] 3 (fun _ _ _ _ => False)) : FnOk P w K mg base (L2.CX P w) 15 f fd ["machine", "place", "env", "worths"] (spAD A) := by
  have clM := M.cl
  refine F.okX scact (fun vs H Q E h => ?_) (fun cdv A' outer s0 H vs Q E hr h => ?_)
  · obtain ⟨m, x, en, tw, s, ws, t, z, lp, k, ⟨rfl, _, _, _⟩, _⟩ := h
    rfl
  obtain ⟨m, x, en, tw, s, ws, t, z, lp, k, ⟨rfl, hm, ⟨dx, pt, hx⟩, htw⟩, hz, q⟩ := h
  refine ⟨_, (pss_one (ps_if (pt_cmpR op_in_kdA (pe_fld (pv 1) rfl) (pe_glob (v := .ref am) rfl m_ACTIONS_machine rfl) rfl) (pss_cons (ps_set (i := 4) scact.nd rfl (.inl rfl) (pe_ix ix_kdict (pe_glob (v := .ref am) rfl m_ACTIONS_machine rfl) (pe_fld (pv 1) rfl) (fun _ _ => rfl)))
  (pss_one (ps_expr (pe_loc (k := 14) passX (hr.mono (by omega)) (i := 4) rfl (.inl rfl) (pa_cons (pv 0) (pa_cons (pv 1) (pa_cons (pv 2) (pa_cons (pv 3) pa_nil)))))))) (pss_one (ps_expr (pe_hasMX passX clM Mact_more (hr.mono (by omega)) (pv 0) (pa_cons (pv 1) (pa_cons (pv 2) (pa_cons (pv 3) pa_nil)))))))), ?_⟩
  obtain ⟨i1, g, kd, hold⟩ := hT z hz
  refine ⟨_, rfl, x, A.pl, dx, _, _, rfl, hx, M.pl.cl, M.pl.no _ (by decide), rfl, z, am, true, rfl, rfl, i1, _, rfl, ?_⟩
  refine iteT ?_
  refine ⟨_, rfl, x, A.pl, dx, _, _, rfl, hx, M.pl.cl, M.pl.no _ (by decide), rfl, am, z, .ref g, rfl, rfl, kd, ?_⟩
  exact ⟨g, _, rfl, hold, _, rfl, _, rfl, _, rfl, _, rfl, m, x, en, tw, s, ws, t, z, lp, k, ⟨rfl, hm, ⟨dx, pt, hx⟩, htw⟩, q⟩
theorem ok_gb (F : Fun K "go_back" "go_back" sgo_back f fd) (T : AllC K A) (M : Mth P w K mg base A) (R : Frm P w K mg base A) (m_len : mg "len" = none) (Mend : HasM P w K mg base A.ma "end" ["self", "kind", "worth"] 1 (spEnd A.ma)) (Gwork_out : HX P w K mg base "work_out" ["machine", "place", "env", "worths"] 4 (spWO A)) (Gact : HX P w K mg base "act" ["machine", "place", "env", "worths"] 15 (spAD A))
    (Mback_to : HasMX P w K mg base A.ma "back_to" ["self", "frame"] 3 (fun _ _ _ _ => False)) : FnOk P w K mg base (L2.CX P w) 16 f fd ["machine"] (spGB A) := by
  have clM := M.cl
  have clF := R.cl
  have Mmany := R.ma
  have Mpull := R.pl
  refine F.okX scgo_back (fun vs H Q E h => ?_) (fun cdv A' outer s0 H vs Q E hr h => ?_)
  · obtain ⟨m, s, frs, rfl, _⟩ := h
    rfl
  obtain ⟨m, s, frs, rfl, hm, hfs, q0, q1⟩ := h
  refine ⟨_, (pss_cons (ps_if (pt_cmpR op_eq (pe_hasM0 clF Mmany (hr.mono (by omega)) (pe_fld (pv 0) rfl)) pe_int (nomark _)) (pss_cons (ps_expr (pe_hasM clM Mend (hr.mono (by omega)) (pv 0) (pa_cons pe_str (pa_cons (pe_fld (pv 0) rfl) pa_nil))))
  (pss_one ps_retN)) pss_nil)
  (pss_cons (ps_set (i := 1) scgo_back.nd rfl (.inl rfl) (pe_hasM0 clF Mpull (hr.mono (by omega)) (pe_fld (pv 0) rfl)))
  (pss_one (ps_if (pt_cmpR op_eq (pe_ix ix_tup (pv 1) pe_int (fun _ _ => rfl)) pe_str (nomark _)) (pss_cons (ps_asg (pv 1) (pg_tup rfl (pgs_cons (pg_name (i := 2) scgo_back.nd rfl (.inl rfl)) (pgs_cons (pg_name (i := 3) scgo_back.nd rfl (.inl rfl)) (pgs_cons (pg_name (i := 4) scgo_back.nd rfl (.inl rfl)) (pgs_cons (pg_name (i := 5) scgo_back.nd rfl (.inl rfl)) pgs_nil))))))
  (pss_cons (ps_set (i := 6) scgo_back.nd rfl (.inl rfl) (pe_op op_catA (pv 5) (pe_tup (pa_cons (pe_fld (pv 0) rfl) pa_nil))))
  (pss_one (ps_if (pt_cmpR op_lt (pe_callB call_len_seq rfl m_len PySem.boot_len (pa_cons (pv 6) pa_nil)) (pe_fld (pv 3) rfl) (nomark _)) (pss_one (ps_expr (pe_hx passX Gwork_out (hr.mono (by omega)) (pa_cons (pv 0) (pa_cons (pv 3) (pa_cons (pv 4) (pa_cons (pv 6) pa_nil))))))) (pss_one (ps_expr (pe_hx passX Gact (hr.mono (by omega)) (pa_cons (pv 0) (pa_cons (pv 3) (pa_cons (pv 4) (pa_cons (pv 6) pa_nil))))))))))) (pss_one (ps_expr (pe_hasMX passX clM Mback_to (hr.mono (by omega)) (pv 0) (pa_cons (pv 1) pa_nil)))))))), ?_⟩
  obtain ⟨dm, hmm⟩ := id hm
  obtain ⟨df, fv, hff, hch⟩ := id hfs
  obtain ⟨n1, n2, n3, n4, n5⟩ := T.ne2
  have nmf : m ≠ s.f := fun z => by rw [z, hff] at hmm; exact n1 (HO.ins.inj (Option.some.inj hmm)).1
  refine ⟨_, rfl, m, A.ma, dm, _, _, rfl, hmm, M.no.cl, M.no.no _ (by decide), rfl, s.f, df, _, rfl, hff, rfl, s.f, frs, rfl, hfs, rfl, _, rfl, ?_⟩
  cases frs with
  | nil =>
    refine ite2 (fun _ => ?_) (fun c => absurd (by decide) c)
    refine ⟨_, rfl, m, dm, _, rfl, hmm, rfl, _, rfl, m, A.ma, dm, _, _, rfl, hmm, M.no.cl, M.no.no _ (by decide), rfl, m, _, _, s, rfl, hm, fun H' ⟨w1, w2⟩ => ?_⟩
    exact q0 rfl H' (fun b o n e => by rw [w2 b n]; exact e) w1
  | cons fr fs =>
    refine ite2 (fun c => ?_) (fun _ => ?_)
    · exfalso
      have c1 := V.int.inj (of_decide_eq_true c)
      have c2 : ((fr :: fs).length : Int) = 0 := c1
      rw [List.length_cons] at c2
      omega
    obtain ⟨t, z, lp, k, ⟨dx, pt, hx⟩, hl, q⟩ := q1 fr fs rfl
    refine ⟨_, rfl, m, A.ma, dm, _, _, rfl, hmm, M.no.cl, M.no.no _ (by decide), rfl, s.f, df, _, rfl, hff, rfl, s.f, fr, fs, rfl, hfs, fun tf H1 hfr hfs1 same1 => ?_⟩
    obtain ⟨tw0, htf, htw0⟩ := hfr
    have g1 : Gx s.f H H1 := fun b o n e => by rw [same1 b n]; exact e
    have hm1 : H1 m = some (.ins A.ma dm (mFs s)) := g1 _ _ nmf hmm
    refine ⟨_, rfl, tf, _, 0, .str "wait", rfl, rfl, SqT.of htf, atI_nat (j := 0) rfl, rfl, _, rfl, ?_⟩
    refine ite2 (fun _ => ?_) (fun c => absurd (by decide) c)
    refine ⟨_, rfl, tf, _, rfl, SqT.of htf, rfl, _, _, rfl, _, _, rfl, _, _, rfl, _, _, rfl, rfl, ?_⟩
    refine ⟨_, rfl, _, rfl, m, A.ma, dm, _, _, rfl, hm1, M.no.cl, M.no.no _ (by decide), rfl, (by show 1 ≤ sizeLine; decide), fun t1 nt1 => ?_⟩
    have s2 : Same H1 (upd H1 t1 (.tup [s.wv])) := same_new nt1
    have ht1 : upd H1 t1 (.tup [s.wv]) t1 = some (.tup [s.wv]) := upd_same
    generalize upd H1 t1 (.tup [s.wv]) = H2 at s2 ht1 ⊢
    have nxf : fr.x ≠ s.f := fun z => by rw [z, hff] at hx; exact n5 (HO.ins.inj (Option.some.inj hx)).1.symm
    refine ⟨tw0, t1, fr.ws, [s.wv], rfl, rfl, SqT.of (s2 _ _ htw0), SqT.of ht1, ?_, fun e => ?_, fun _ e => ?_, fun _ _ p np => ?_⟩
    · rw [sizeLine_eq]
      show fr.ws.length + 1 ≤ _
      omega
    · have htw : H2 t1 = some (.tup (fr.ws ++ [s.wv])) := by rw [e]; exact ht1
      have s3 : Same H2 H2 := fun b o e => e
      have gH3 : Gx s.f H H2 := fun b o n e => s3 _ _ (s2 _ _ (g1 _ _ n e))
      have hfs3 : FsAt A.fr A.no H2 s.f fs := (hfs1.same s2).same s3
      obtain ⟨q2, q3⟩ := q t1 H2 gH3 hfs3 htw
      have hx3 := gH3 _ _ nxf hx
      have hm3 := gH3 _ _ nmf hmm
      refine ⟨_, rfl, t1, _, rfl, .inr (SqT.of htw), _, rfl, fr.x, A.pl, dx, _, _, rfl, hx3, M.pl.cl, M.pl.no _ (by decide), rfl, _, _, rfl, rfl, _, rfl, ?_⟩
      rw [List.length_append]
      refine ite2 (fun c => ?_) (fun c => ?_)
      · obtain ⟨ps, cc, hps, hcc, q4⟩ := q2 (of_decide_eq_true c)
        have nlp : lp ≠ s.f := ne_of hps hff (by intro z; cases z)
        refine ⟨_, rfl, _, rfl, _, rfl, _, rfl, m, fr.x, fr.en, t1, s, fr.ws ++ [s.wv], t, z, lp, k, fs, ps, cc, ⟨rfl, ⟨dm, hm3⟩, ⟨dx, pt, hx3⟩, htw⟩, hfs3, gH3 _ _ nlp hps, by rw [List.length_append]; exact hcc, by rw [List.length_append]; show fr.ws.length + 1 ≤ _; omega, q4⟩
      · exact ⟨_, rfl, _, rfl, _, rfl, _, rfl, q3 fun z => c (decide_eq_true z)⟩
    · cases e
    · have s3 : Same H2 (upd H2 p (.tup (fr.ws ++ [s.wv]))) := same_new np
      have htw : upd H2 p (.tup (fr.ws ++ [s.wv])) p = some (.tup (fr.ws ++ [s.wv])) := upd_same
      generalize upd H2 p (.tup (fr.ws ++ [s.wv])) = H3 at s3 htw ⊢
      have gH3 : Gx s.f H H3 := fun b o n e => s3 _ _ (s2 _ _ (g1 _ _ n e))
      have hfs3 : FsAt A.fr A.no H3 s.f fs := (hfs1.same s2).same s3
      obtain ⟨q2, q3⟩ := q p H3 gH3 hfs3 htw
      have hx3 := gH3 _ _ nxf hx
      have hm3 := gH3 _ _ nmf hmm
      refine ⟨_, rfl, p, _, rfl, .inr (SqT.of htw), _, rfl, fr.x, A.pl, dx, _, _, rfl, hx3, M.pl.cl, M.pl.no _ (by decide), rfl, _, _, rfl, rfl, _, rfl, ?_⟩
      rw [List.length_append]
      refine ite2 (fun c => ?_) (fun c => ?_)
      · obtain ⟨ps, cc, hps, hcc, q4⟩ := q2 (of_decide_eq_true c)
        have nlp : lp ≠ s.f := ne_of hps hff (by intro z; cases z)
        refine ⟨_, rfl, _, rfl, _, rfl, _, rfl, m, fr.x, fr.en, p, s, fr.ws ++ [s.wv], t, z, lp, k, fs, ps, cc, ⟨rfl, ⟨dm, hm3⟩, ⟨dx, pt, hx3⟩, htw⟩, hfs3, gH3 _ _ nlp hps, by rw [List.length_append]; exact hcc, by rw [List.length_append]; show fr.ws.length + 1 ≤ _; omega, q4⟩
      · exact ⟨_, rfl, _, rfl, _, rfl, _, rfl, q3 fun z => c (decide_eq_true z)⟩
end
end Wp
set_option Elab.async false
set_option linter.all false
set_option maxRecDepth 100000
set_option maxHeartbeats 1000000
namespace Wp
open PySem PySem.Spec PyProof.Rows L2
theorem Pz.gx {A : Ad} {H H' : Hp} {m x t lp : Addr} {z : Str} {k : Int} {s : MSt} (hm : MAt A.ma H m s) (n4 : A.pl ≠ A.ma) (h : Pz A H x t z lp k) (g : Gx m H H') : Pz A H' x t z lp k := by
  obtain ⟨dm, hm⟩ := hm
  obtain ⟨dx, pt, hx⟩ := h
  exact ⟨dx, pt, g _ _ (fun z => by rw [z, hm] at hx; exact n4 (HO.ins.inj (Option.some.inj hx)).1.symm) hx⟩
theorem Pz.same {A : Ad} {H H' : Hp} {x t lp : Addr} {z : Str} {k : Int} (h : Pz A H x t z lp k) (g : Same H H') : Pz A H' x t z lp k := by
  obtain ⟨dx, pt, hx⟩ := h
  exact ⟨dx, pt, g _ _ hx⟩
section
variable {P : Program} {w : World} {K : PySem.W.Frag} {mg : Str → Option Value} {base : Heap} {f : Addr} {fd : FuncData} {A : Ad}
theorem ok_ts (F : Fun K "take_step" "take_step" stake_step f fd) (T : AllC K A) (M : Mth P w K mg base A) (R : Frm P w K mg base A) (m_max : mg "max" = none) (Gwork_out : HX P w K mg base "work_out" ["machine", "place", "env", "worths"] 4 (spWO A)) (Gact : HX P w K mg base "act" ["machine", "place", "env", "worths"] 15 (upS (spAD A)))
    (Ggo_back : HX P w K mg base "go_back" ["machine"] 16 (upS (spGB A))) : FnOk P w K mg base (L2.CX P w) 17 f fd ["machine"] (spTS A) := by
  have clM := M.cl
  have clF := R.cl
  have Mmany := R.ma
  refine F.okX sctake_step (fun vs H Q E h => ?_) (fun cdv A' outer s0 H vs Q E hr h => ?_)
  · obtain ⟨m, s, frs, t, z, lp, k, rfl, _⟩ := h
    rfl
  obtain ⟨m, s, frs, t, z, lp, k, rfl, hm, hfs, hx, q⟩ := h
  refine ⟨_, (pss_cons (ps_fldaug (pv 0) pe_int in_add)
  (pss_cons (ps_fld (pv 0) (pe_callB (call_max2 rfl) rfl m_max PyProof.Rows.Boot.max (pa_cons (pe_fld (pv 0) rfl) (pa_cons (pe_hasM0 clF Mmany (hr.mono (by omega)) (pe_fld (pv 0) rfl)) pa_nil))) rfl)
  (pss_cons (ps_if (pt_cmpR op_gt (pe_fld (pe_fld (pv 0) rfl) rfl) pe_int (nomark _)) (pss_one (ps_expr (pe_hx passX Gwork_out (hr.mono (by omega)) (pa_cons (pv 0) (pa_cons (pe_fld (pv 0) rfl) (pa_cons (pe_fld (pv 0) rfl) (pa_cons (pe_tup pa_nil) pa_nil))))))) (pss_one (ps_expr (pe_hx passX Gact (hr.mono (by omega)) (pa_cons (pv 0) (pa_cons (pe_fld (pv 0) rfl) (pa_cons (pe_fld (pv 0) rfl) (pa_cons (pe_tup pa_nil) pa_nil))))))))
  (pss_one (ps_while (passes_of rfl) (pt_cmpR op_eq (pe_fld (pv 0) rfl) pe_str (nomark _)) (pss_one (ps_expr (pe_hx passX Ggo_back (hr.mono (by omega)) (pa_cons (pv 0) pa_nil))))))))), ?_⟩
  obtain ⟨dm, hmm⟩ := id hm
  obtain ⟨n1, n2, n3, n4, n5⟩ := T.ne2
  refine ⟨_, rfl, m, A.ma, dm, _, _, rfl, hmm, M.no.cl, M.no.no _ (by decide), rfl, ?_⟩
  refine ⟨_, _, rfl, rfl, dm, _, hmm, (by show 10 < 1000; decide), ?_⟩
  have g1 : Gx m H (upd H m (.ins A.ma dm (mFs { s with stp := s.stp + 1 }))) := fun b o n e => by rw [upd_ne n]; exact e
  have hm1 : upd H m (.ins A.ma dm (mFs { s with stp := s.stp + 1 })) m = some (.ins A.ma dm (mFs { s with stp := s.stp + 1 })) := upd_same
  have ev : upd H m (.ins A.ma dm (putF "steps" (.int (s.stp + 1)) (mFs s))) = upd H m (.ins A.ma dm (mFs { s with stp := s.stp + 1 })) := rfl
  rw [ev]
  generalize upd H m (.ins A.ma dm (mFs { s with stp := s.stp + 1 })) = H1 at g1 hm1 ⊢
  have hfs1 := FsAt.gx hm n1 n2 hfs g1
  obtain ⟨df, fv, hff, hch⟩ := id hfs1
  refine ⟨_, rfl, m, A.ma, dm, _, _, rfl, hm1, M.no.cl, M.no.no _ (by decide), rfl, _, rfl, m, A.ma, dm, _, _, rfl, hm1, M.no.cl, M.no.no _ (by decide), rfl, s.f, df, _, rfl, hff, rfl, s.f, frs, rfl, hfs1, ?_⟩
  refine ⟨_, _, rfl, _, rfl, m, A.ma, dm, _, rfl, hm1, M.no.cl, M.no.no _ (by decide), (by show 10 < 1000; decide), ?_⟩
  have g2 : Gx m H (upd H1 m (.ins A.ma dm (mFs (stepS s frs.length)))) := fun b o n e => by rw [upd_ne n]; exact g1 _ _ n e
  have hm2 : upd H1 m (.ins A.ma dm (mFs (stepS s frs.length))) m = some (.ins A.ma dm (mFs (stepS s frs.length))) := upd_same
  have ev2 : upd H1 m (.ins A.ma dm (putF "height" (.int (if (frs.length : Int) > s.hgt then (frs.length : Int) else s.hgt)) (mFs { s with stp := s.stp + 1 }))) = upd H1 m (.ins A.ma dm (mFs (stepS s frs.length))) := rfl
  rw [ev2]
  generalize upd H1 m (.ins A.ma dm (mFs (stepS s frs.length))) = H2 at g2 hm2 ⊢
  have hfs2 := FsAt.gx hm n1 n2 hfs g2
  have hx2 := Pz.gx hm n4 hx g2
  obtain ⟨dx, pt, hxx⟩ := id hx2
  obtain ⟨n, q1, q2⟩ := q H2 g2 ⟨dm, hm2⟩ hfs2
  have loop : ∀ H', Bk A m (fun H' => Q .non H') E n H' → tWhile (tTest (tOp rEq (tFld K (tVar 0) "stage") (tC (.str "back")))) (tDrop (tCall (upS (spGB A)) [] E (tCons (tVar 0) tNil))) { nx := fun _ H' => Q .non H', rt := Q } [some (.ref m)] H' := by
    intro H' hb
    refine ⟨fun n σ H' => σ = [some (.ref m)] ∧ Bk A m (fun H' => Q .non H') E n H', ⟨n, rfl, hb⟩, ?_⟩
    rintro n1 σ H3 ⟨rfl, hb3⟩
    cases n1 with
    | zero => exact hb3.elim
    | succ n2 =>
      obtain ⟨s3, ⟨dm3, hm3⟩, q3⟩ := hb3
      refine ⟨_, rfl, m, A.ma, dm3, _, _, rfl, hm3, M.no.cl, M.no.no _ (by decide), rfl, rfl, _, rfl, ?_⟩
      rcases q3 with ⟨e, q3⟩ | ⟨e, q3⟩
      · exact ite2 (fun c => absurd (V.str.inj (of_decide_eq_true c)) e) (fun _ => q3)
      · refine ite2 (fun _ => ?_) (fun c => absurd (decide_eq_true (by rw [e])) c)
        refine ⟨fun σ' H' => σ' = [some (.ref m)] ∧ Bk A m (fun H' => Q .non H') E n2 H', fun σ' H' h => ⟨n2, Nat.lt_succ_self _, h⟩, ?_⟩
        exact ⟨_, rfl, _, q3, fun _ H' h => ⟨rfl, h⟩⟩
  refine ⟨_, rfl, m, A.ma, dm, _, _, rfl, hm2, M.no.cl, M.no.no _ (by decide), rfl, s.x, A.pl, dx, _, _, rfl, hxx, M.pl.cl, M.pl.no _ (by decide), rfl, _, _, rfl, rfl, _, rfl, ?_⟩
  refine ite2 (fun c => ?_) (fun c => ?_)
  · obtain ⟨ps, cc, hps, hcc, q3⟩ := q1 (of_decide_eq_true c)
    refine ⟨_, rfl, _, rfl, m, A.ma, dm, _, _, rfl, hm2, M.no.cl, M.no.no _ (by decide), rfl, _, rfl, m, A.ma, dm, _, _, rfl, hm2, M.no.cl, M.no.no _ (by decide), rfl, (by show 0 ≤ sizeLine; decide), fun tw ntw => ?_⟩
    have s3 : Same H2 (upd H2 tw (.tup [])) := same_new ntw
    refine ⟨m, s.x, s.en, tw, stepS s frs.length, [], t, z, lp, k, frs, ps, cc, ⟨rfl, MAt.same ⟨dm, hm2⟩ s3, hx2.same s3, upd_same⟩, hfs2.same s3, s3 _ _ hps, hcc, by decide, fun H' g' hfs' hm' => ?_⟩
    exact loop H' (q3 H' (fun b o n1 n2 e => g' _ _ n1 n2 (s3 _ _ e)) hfs' hm')
  · refine ⟨_, rfl, _, rfl, m, A.ma, dm, _, _, rfl, hm2, M.no.cl, M.no.no _ (by decide), rfl, _, rfl, m, A.ma, dm, _, _, rfl, hm2, M.no.cl, M.no.no _ (by decide), rfl, (by show 0 ≤ sizeLine; decide), fun tw ntw => ?_⟩
    exact ⟨_, q2 (fun z => c (decide_eq_true z)) tw _ (same_new ntw) upd_same, fun _ H' h => loop H' h⟩
end
end Wp
set_option Elab.async false
set_option linter.all false
set_option maxRecDepth 100000
set_option maxHeartbeats 1000000
namespace Wp
open PySem PySem.Spec PyProof.Rows L2
/-! ### a whole run -/
-- result_of: slots machine 0, worth 1
abbrev sresult_of : Stmt := top 59
theorem scresult_of : FnScope ["machine", "worth"] ["machine"] (defScope sresult_of) := ⟨rfl, rfl, rfl, by decide +kernel, rfl, by decide +kernel, by decide +kernel⟩
abbrev slresult_of : List Str := ["machine", "worth"]
-- Machine___init__: slots self 0, term 1, given 2, frames 3
abbrev sMachine___init__ : Stmt := inClass (top 53) 0
theorem scMachine___init__ : FnScope ["self", "term", "given", "frames"] ["self", "term", "given", "frames"] (defScope sMachine___init__) := ⟨rfl, rfl, rfl, by decide +kernel, rfl, by decide +kernel, by decide +kernel⟩
abbrev slMachine___init__ : List Str := ["self", "term", "given", "frames"]
-- is_end: slots worth 0
abbrev sis_end : Stmt := top 91
theorem scis_end : FnScope ["worth"] ["worth"] (defScope sis_end) := ⟨rfl, rfl, rfl, by decide +kernel, rfl, by decide +kernel, by decide +kernel⟩
abbrev slis_end : List Str := ["worth"]
-- run_turned: slots term 0, given 1, most 2, machine 3, result 4, end 5
abbrev srun_turned : Stmt := top 92
theorem scrun_turned : FnScope ["term", "given", "most", "machine", "result", "end"] ["term", "given", "most"] (defScope srun_turned) := ⟨rfl, rfl, rfl, by decide +kernel, rfl, by decide +kernel, by decide +kernel⟩
abbrev slrun_turned : List Str := ["term", "given", "most", "machine", "result", "end"]
-- Result___init__: slots self 0, kind 1, worth 2, output 3, winds 4, steps 5, height 6
abbrev sResult___init__ : Stmt := inClass (top 51) 0
theorem scResult___init__ : FnScope ["self", "kind", "worth", "output", "winds", "steps", "height"] ["self", "kind", "worth", "output", "winds", "steps", "height"] (defScope sResult___init__) := ⟨rfl, rfl, rfl, by decide +kernel, rfl, by decide +kernel, by decide +kernel⟩
abbrev slResult___init__ : List Str := ["self", "kind", "worth", "output", "winds", "steps", "height"]
abbrev reNs : List Str := ["kind", "worth", "output", "winds", "steps", "height"]
abbrev reFs (kd wv : V) (lo lw : Addr) (st hg : V) : List (Str × V) := [("kind", kd), ("worth", wv), ("output", .ref lo), ("winds", .ref lw), ("steps", st), ("height", hg)]
def ResAt (A : Ad) (H : Hp) (r : Addr) (kd wv : V) (outs wnds : List V) (st hg : V) : Prop := ∃ dx lo lw, H r = some (.ins A.re dx (reFs kd wv lo lw st hg)) ∧ H lo = some (.lst outs) ∧ H lw = some (.lst wnds)
def spRI (A : Ad) : Sp := fun vs H Q _ => ∃ (r dx lo lw : Addr) (kd wv st hg : V) (outs wnds : List V), vs = [.ref r, kd, wv, .ref lo, .ref lw, st, hg] ∧ H r = some (.ins A.re dx []) ∧ H lo = some (.lst outs) ∧ H lw = some (.lst wnds) ∧
  ∀ H', ResAt A H' r kd wv outs wnds st hg → Gx r H H' → Q .non H'
def NewR (A : Ad) (kd wv : V) (outs wnds : List V) (st hg : V) (H : Hp) (Q : VK) : Prop := ∀ r H', H r = none → ResAt A H' r kd wv outs wnds st hg → Same H H' → Q (.ref r) H'
theorem newR_ini {A : Ad} {kd wv st hg : V} {outs wnds : List V} {H : Hp} {Q : VK} {E : XK} {lo lw : Addr} (h1 : H lo = some (.lst outs)) (h2 : H lw = some (.lst wnds)) (q : NewR A kd wv outs wnds st hg H Q) : ∀ x dx, H x = none → H dx = none → dx ≠ x → spRI A (.ref x :: ([kd, wv, .ref lo, .ref lw, st, hg] ++ [])) (upd (upd H dx (.own x)) x (.ins A.re dx [])) (fun u H2 => u = .non ∧ Q (.ref x) H2) E := by
  intro x dx nx nd ne
  rw [List.append_nil]
  have s1 : ∀ b o, H b = some o → upd (upd H dx (.own x)) x (.ins A.re dx []) b = some o := fun b o e => by
    rw [upd_ne (ne_of_none e nx), upd_ne (ne_of_none e nd)]
    exact e
  exact ⟨x, dx, lo, lw, kd, wv, st, hg, outs, wnds, rfl, upd_same, s1 _ _ h1, s1 _ _ h2, fun H' r g => ⟨rfl, q x H' nx r fun b o e => g _ _ (ne_of_none e nx) (s1 _ _ e)⟩⟩
def spRO (A : Ad) : Sp := fun vs H Q _ => ∃ m s outs wnds, vs = [.ref m] ∧ MAt A.ma H m s ∧ s.st = "end" ∧ H s.lo = some (.lst outs) ∧ H s.lw = some (.lst wnds) ∧ NewR A (.str s.kd) s.wv outs wnds (.int s.stp) (.int s.hgt) H Q
def spIE (A : Ad) : Sp := fun vs H Q _ => ∃ p dx v, vs = [.ref p] ∧ H p = some (.ins A.pa dx [("first", .str "worth"), ("rest", v)]) ∧ ∀ H', Same H H' → Q (.bl true) H'
def s0M (f x en lo lw : Addr) : MSt := ⟨f, "begin", x, en, "steps", .non, lo, lw, 0, 0⟩
/-- a machine at its beginning; H0: the heap when its places stand -/
structure Ini (A : Ad) (H : Hp) (m f x en lo lw : Addr) (d : PyData) (gv : V) (H0 H' : Hp) : Prop where
  nm : H m = none
  nf : H f = none
  k0 : Same H H0
  tr : PTr A.pl H0 x d
  k1 : Gx m H0 H'
  nlo : H0 lo = none
  nlw : H0 lw = none
  ne : lo ≠ lw
  ma : MAt A.ma H' m (s0M f x en lo lw)
  fs : FsAt A.fr A.no H' f []
  m0 : ∃ dm fs, H0 m = some (.ins A.ma dm fs)
  f0 : ∃ df fs, H0 f = some (.ins A.fr df fs)
  en : H' en = some (.dK [(Sum.inr "input", gv)])
  lo : H' lo = some (.lst [])
  lw : H' lw = some (.lst [])
def spMI (A : Ad) : Sp := fun vs H Q _ => ∃ (m dm f a : Addr) (tv gv : V) (d : PyData) (n : Nat), vs = [.ref m, tv, gv, .ref f] ∧ H m = some (.ins A.ma dm []) ∧ FsAt A.fr A.no H f [] ∧ Dq a H tv d ∧ Fm n d ∧ n ≤ 100 ∧ cw d ≤ 20000 ∧
  ∀ x en lo lw H0 H', Gx m H H0 → PTr A.pl H0 x d → Gx m H0 H' → H0 lo = none → H0 lw = none → lo ≠ lw → (∃ dm fs, H0 m = some (.ins A.ma dm fs)) → MAt A.ma H' m (s0M f x en lo lw) → H' en = some (.dK [(Sum.inr "input", gv)]) → H' lo = some (.lst []) → H' lw = some (.lst []) → Q .non H'
def EndQ (A : Ad) (m : Addr) (Q : VK) (H2 : Hp) : Prop := ∃ s p dxp v outs wnds, MAt A.ma H2 m s ∧ s.st = "end" ∧ s.kd = "worth" ∧ s.wv = .ref p ∧ H2 p = some (.ins A.pa dxp [("first", .str "worth"), ("rest", v)]) ∧ H2 s.lo = some (.lst outs) ∧ H2 s.lw = some (.lst wnds) ∧
  ∀ r H3, ResAt A H3 r (.str "worth") v outs wnds (.int s.stp) (.int s.hgt) → Same H2 H3 → Q (.ref r) H3
def spRT (A : Ad) : Sp := fun vs H Q E => ∃ (a : Addr) (tv gv : V) (most : Int) (d : PyData) (n : Nat), vs = [tv, gv, .int most] ∧ Dq a H tv d ∧ Fm n d ∧ n ≤ 100 ∧ cw d ≤ 20000 ∧
  ∀ m f x en lo lw H0 H' (QF : Hp → Prop), Ini A H m f x en lo lw d gv H0 H' → (∀ H2, EndQ A m Q H2 → QF H2) → ∃ k : Nat, (k : Int) < most ∧ Go A m QF E k H'
section
variable {P : Program} {w : World} {K : PySem.W.Frag} {mg : Str → Option Value} {base : Heap} {f : Addr} {fd : FuncData} {A : Ad}
theorem ok_adv (F : Fun K "advance" "advance" sadvance f fd) (M : Mth P w K mg base A) (Gtake_step : HX P w K mg base "take_step" ["machine"] 17 (upS (spTS A))) : FnOk P w K mg base (L2.CX P w) 18 f fd ["machine", "many"] (spAdv A) := by
  refine F.okX scadvance (fun vs H Q E h => ?_) (fun cdv A' outer s0 H vs Q E hr h => ?_)
  · obtain ⟨m, many, n, rfl, _⟩ := h
    rfl
  obtain ⟨m, many, n, rfl, hn, q⟩ := h
  refine ⟨_, (pss_cons (ps_set (i := 2) scadvance.nd rfl (.inl rfl) (pv 1))
  (pss_cons (ps_while (passes_of rfl) (PW.pt (pw_and (pt_cmpR op_gt (pv 2) pe_int (nomark _)) (pw_and1 (pt_cmpR op_eq (pe_fld (pv 0) rfl) pe_str (nomark _))))) (pss_cons (ps_expr (pe_hx passX Gtake_step (hr.mono (by omega)) (pa_cons (pv 0) pa_nil)))
  (pss_one (ps_aug (i := 2) scadvance.nd rfl (.inl rfl) pe_int ip_sub))))
  (pss_one (ps_ret (pe_cmpR op_eq (pe_fld (pv 0) rfl) pe_str (nomark _)))))), ?_⟩
  refine ⟨_, rfl, ?_⟩
  refine ⟨fun n σ H' => ∃ left : Int, (n : Int) < left ∧ σ = [some (.ref m), some (.int many), some (.int left)] ∧ Go A m (fun H' => Q (.bl true) H') E n H', ⟨n, many, hn, rfl, q⟩, ?_⟩
  rintro n1 σ H1 ⟨left, hl, rfl, hg⟩
  refine ⟨_, rfl, _, _, rfl, rfl, _, rfl, ?_⟩
  refine ite2 (fun _ => ?_) (fun c => absurd (decide_eq_true (by omega)) c)
  have fin : ∀ {s : MSt}, MAt A.ma H1 m s → s.st = "end" → Q (.bl true) H1 → tFld K (tVar 0) "stage" [some (.ref m), some (.int many), some (.int left)] H1 (fun v H2 => V.str "end" = v ∧ H2 = H1) := fun {s} ⟨dm, hm⟩ e _ => ⟨_, rfl, m, A.ma, dm, _, _, rfl, hm, M.no.cl, M.no.no _ (by decide), rfl, by rw [e], rfl⟩
  have cases2 : (∃ s, MAt A.ma H1 m s ∧ s.st = "end" ∧ Q (.bl true) H1) ∨ ∃ n2 s, n1 = n2 + 1 ∧ MAt A.ma H1 m s ∧ s.st = "begin" ∧ spTS A [.ref m] H1 (fun _ H' => Go A m (fun H' => Q (.bl true) H') E n2 H') E := by
    cases n1 with
    | zero => exact .inl hg
    | succ n2 =>
      rcases hg with h | ⟨s, h⟩
      · exact .inl h
      · exact .inr ⟨n2, s, rfl, h⟩
  rcases cases2 with ⟨s, ⟨dm, hm⟩, e, q1⟩ | ⟨n2, s, rfl, ⟨dm, hm⟩, e, q1⟩
  · refine ⟨_, rfl, m, A.ma, dm, _, _, rfl, hm, M.no.cl, M.no.no _ (by decide), rfl, rfl, _, rfl, ?_⟩
    rw [e]
    refine iteF ?_
    refine ⟨_, rfl, m, A.ma, dm, _, _, rfl, hm, M.no.cl, M.no.no _ (by decide), rfl, rfl, ?_⟩
    rw [e]
    exact q1
  · refine ⟨_, rfl, m, A.ma, dm, _, _, rfl, hm, M.no.cl, M.no.no _ (by decide), rfl, rfl, _, rfl, ?_⟩
    rw [e]
    refine iteT ?_
    refine ⟨fun σ' H' => ∃ m', m' < n2 + 1 ∧ ∃ left : Int, (m' : Int) < left ∧ σ' = [some (.ref m), some (.int many), some (.int left)] ∧ Go A m (fun H' => Q (.bl true) H') E m' H', fun σ' H' h => h, ?_⟩
    refine ⟨_, rfl, _, q1, fun _ H2 h2 => ?_⟩
    exact ⟨_, rfl, _, _, rfl, rfl, n2, Nat.lt_succ_self _, left - 1, by omega, rfl, h2⟩
theorem ok_ri (F : Fun K "__init__" "Result.__init__" sResult___init__ f fd) (TR : TxC K A.re reNs) (m_list : mg "list" = none) : FnOk P w K mg base CX0 1 f fd ["self", "kind", "worth", "output", "winds", "steps", "height"] (spRI A) := by
  refine F.ok scResult___init__ (fun vs H Q E h => ?_) (fun cdv A' outer s0 H vs Q E hr h => ?_)
  · obtain ⟨r, dx, lo, lw, kd, wv, st, hg, outs, wnds, rfl, _⟩ := h
    rfl
  obtain ⟨r, dx, lo, lw, kd, wv, st, hg, outs, wnds, rfl, hr0, h1, h2, q⟩ := h
  refine ⟨_, (pss_cons (ps_fld (pv 0) (pv 1) rfl)
  (pss_cons (ps_fld (pv 0) (pv 2) rfl)
  (pss_cons (ps_fld (pv 0) (pe_callTy call_list_of rfl m_list PyProof.Rows.Boot.«list» (pa_cons (pv 3) pa_nil)) rfl)
  (pss_cons (ps_fld (pv 0) (pe_callTy call_list_of rfl m_list PyProof.Rows.Boot.«list» (pa_cons (pv 4) pa_nil)) rfl)
  (pss_cons (ps_fld (pv 0) (pv 5) rfl)
  (pss_one (ps_fld (pv 0) (pv 6) rfl))))))), ?_⟩
  have n1 : lo ≠ r := ne_of h1 hr0 (by intro z; cases z)
  have n2 : lw ≠ r := ne_of h2 hr0 (by intro z; cases z)
  refine ⟨_, rfl, _, rfl, r, A.re, dx, _, rfl, hr0, TR.cl, TR.no _ (by decide), (by show 0 < 1000; decide), ?_⟩
  refine ⟨_, rfl, _, rfl, r, A.re, dx, _, rfl, upd_same, TR.cl, TR.no _ (by decide), (by show 1 < 1000; decide), ?_⟩
  refine ⟨_, rfl, lo, outs, rfl, .inl (SqL.of (by rw [upd_ne n1, upd_ne n1]; exact h1)), fun l1 nl1 => ?_⟩
  have n3 : l1 ≠ r := fun z => by rw [z, upd_same] at nl1; cases nl1
  have nl1' : H l1 = none := by rw [upd_ne n3, upd_ne n3] at nl1; exact nl1
  refine ⟨_, rfl, r, A.re, dx, _, rfl, (by rw [upd_ne n3.symm, upd_same]), TR.cl, TR.no _ (by decide), (by show 2 < 1000; decide), ?_⟩
  have n4 : lw ≠ l1 := ne_of_none h2 nl1'
  refine ⟨_, rfl, lw, wnds, rfl, .inl (SqL.of (by rw [upd_ne n2, upd_ne n4, upd_ne n2, upd_ne n2]; exact h2)), fun l2 nl2 => ?_⟩
  have n5 : l2 ≠ r := fun z => by rw [z, upd_same] at nl2; cases nl2
  have n6 : l2 ≠ l1 := fun z => by rw [upd_ne n5, z, upd_same] at nl2; cases nl2
  have nl2' : H l2 = none := by rw [upd_ne n5, upd_ne n6, upd_ne n5, upd_ne n5] at nl2; exact nl2
  refine ⟨_, rfl, r, A.re, dx, _, rfl, (by rw [upd_ne n5.symm, upd_same]), TR.cl, TR.no _ (by decide), (by show 3 < 1000; decide), ?_⟩
  refine ⟨_, rfl, _, rfl, r, A.re, dx, _, rfl, upd_same, TR.cl, TR.no _ (by decide), (by show 4 < 1000; decide), ?_⟩
  refine ⟨_, rfl, _, rfl, r, A.re, dx, _, rfl, upd_same, TR.cl, TR.no _ (by decide), (by show 5 < 1000; decide), ?_⟩
  refine q _ ⟨dx, l1, l2, upd_same, ?_, ?_⟩ fun b o nb e => ?_
  · rw [upd_ne n3, upd_ne n3, upd_ne n3, upd_ne n6.symm, upd_ne n3, upd_same]
  · rw [upd_ne n5, upd_ne n5, upd_ne n5, upd_same]
  · rw [upd_ne nb, upd_ne nb, upd_ne nb, upd_ne (ne_of_none e nl2'), upd_ne nb, upd_ne (ne_of_none e nl1'), upd_ne nb, upd_ne nb]
    exact e
theorem ok_ro (F : Fun K "result_of" "result_of" sresult_of f fd) (M : Mth P w K mg base A) (CResult : HasC P w K mg base "Result" A.re ["self", "kind", "worth", "output", "winds", "steps", "height"] 1 (spRI A)) : FnOk P w K mg base CX0 3 f fd ["machine"] (spRO A) := by
  refine F.ok scresult_of (fun vs H Q E h => ?_) (fun cdv A' outer s0 H vs Q E hr h => ?_)
  · obtain ⟨m, s, outs, wnds, rfl, _⟩ := h
    rfl
  obtain ⟨m, s, outs, wnds, rfl, ⟨dm, hm⟩, e, h1, h2, q⟩ := h
  refine ⟨_, (pss_cons (ps_set (i := 1) scresult_of.nd rfl (.inl rfl) (pe_ifExp (pt_cmpR op_eq (pe_fld (pv 0) rfl) pe_str (nomark _)) (pe_fld (pv 0) rfl) pe_non))
  (pss_one (ps_ret (pe_hasC CResult (hr.mono (by omega)) (pa_cons (pe_fld (pv 0) rfl) (pa_cons (pv 1) (pa_cons (pe_fld (pv 0) rfl) (pa_cons (pe_fld (pv 0) rfl) (pa_cons (pe_fld (pv 0) rfl) (pa_cons (pe_fld (pv 0) rfl) pa_nil)))))))))), ?_⟩
  have fl : ∀ (fn : Str), fn ∈ mNs → NoAttr K A.ma fn := M.no.no
  refine ⟨_, rfl, m, A.ma, dm, _, _, rfl, hm, M.no.cl, M.no.no _ (by decide), rfl, rfl, _, rfl, ?_⟩
  refine ite2 (fun _ => ?_) (fun c => absurd (decide_eq_true (by rw [e])) c)
  refine ⟨_, rfl, m, A.ma, dm, _, _, rfl, hm, M.no.cl, M.no.no _ (by decide), rfl, ?_⟩
  refine ⟨_, rfl, m, A.ma, dm, _, _, rfl, hm, M.no.cl, M.no.no _ (by decide), rfl, _, rfl, _, rfl, m, A.ma, dm, _, _, rfl, hm, M.no.cl, M.no.no _ (by decide), rfl, _, rfl, m, A.ma, dm, _, _, rfl, hm, M.no.cl, M.no.no _ (by decide), rfl, _, rfl, m, A.ma, dm, _, _, rfl, hm, M.no.cl, M.no.no _ (by decide), rfl, _, rfl, m, A.ma, dm, _, _, rfl, hm, M.no.cl, M.no.no _ (by decide), rfl, ?_⟩
  exact newR_ini (Q := Q) h1 h2 q
theorem ok_ie (F : Fun K "is_end" "is_end" sis_end f fd) (T : AllC K A) (TP : TxC K A.pa ["first", "rest"]) (m_isinstance : mg "isinstance" = none) (m_str : mg "str" = none) (m_Pair : mg "Pair" = some (.ref A.pa)) : FnOk P w K mg base CX0 1 f fd ["worth"] (spIE A) := by
  refine F.ok scis_end (fun vs H Q E h => ?_) (fun cdv A' outer s0 H vs Q E hr h => ?_)
  · obtain ⟨p, dx, v, rfl, _⟩ := h
    rfl
  obtain ⟨p, dx, v, rfl, hp, q⟩ := h
  refine ⟨_, (pss_one (ps_ret (pe_and (pe_callB (call_isA T) rfl m_isinstance PyProof.Rows.Boot.isinstance (pa_cons (pv 0) (pa_cons (pe_glob (v := .ref A.pa) rfl m_Pair rfl) pa_nil))) (pe_and (pe_callB (call_isA T) rfl m_isinstance PyProof.Rows.Boot.isinstance (pa_cons (pe_fld (pv 0) rfl) (pa_cons (pe_bltn (v := .ty "str") rfl m_str PyProof.Rows.Boot.«str» rfl) pa_nil))) (pe_one (pe_cmpR op_in_seq (pe_fld (pv 0) rfl) (pe_tup (pa_cons pe_str (pa_cons pe_str pa_nil))) rfl)))))), ?_⟩
  refine ⟨_, rfl, .ref p, .pair, .pair, rfl, .pair hp, _, rfl, ?_⟩
  refine iteT ?_
  refine ⟨_, rfl, p, A.pa, dx, _, _, rfl, hp, TP.cl, TP.no _ (by decide), rfl, .str "worth", .str, .str, rfl, .str "worth", _, rfl, ?_⟩
  refine iteT ?_
  refine ⟨_, rfl, p, A.pa, dx, _, _, rfl, hp, TP.cl, TP.no _ (by decide), rfl, (by show 2 ≤ sizeLine; decide), fun t nt => ?_⟩
  refine ⟨t, _, rfl, .inr (SqT.of upd_same), rfl, rfl, ?_⟩
  have e0 : inV (.str "worth") [.str "worth", .str "fault"] = true := by decide +kernel
  rw [e0]
  exact q _ (same_new nt)
end
end Wp
set_option Elab.async false
set_option linter.all false
set_option maxRecDepth 100000
set_option maxHeartbeats 1000000
namespace Wp
open PySem PySem.Spec PyProof.Rows L2
section
variable {X : Cx} {x m : Str} {C : Addr} {ps : List Str} {k : Nat} {sp : Sp} {p pos : Pos}
theorem pe_hasC0 (h : HasC X.prog X.w X.K X.mg X.base x C ps k sp) (hr : Room (k + 1) X.A) (hg : Gl X x := by rfl) (hdb : (x == ("__debug__" : Str)) = false := by decide) :
    PE X (.Call (.Name x p) [] [] pos) (tMake C sp [] E0 tNil) := by
  obtain ⟨f, fd, F, M, mC, b⟩ := h
  exact pe_make0 M F hr hg mC b .nil pass0 hdb
end
section
variable {P : Program} {w : World} {K : PySem.W.Frag} {mg : Str → Option Value} {base : Heap} {f : Addr} {fd : FuncData} {A : Ad}
theorem ok_mi (F : Fun K "__init__" "Machine.__init__" sMachine___init__ f fd) (TM : TxC K A.ma mNs) (n4 : A.pl ≠ A.ma) (Gplaced : Has P w K mg base "placed" ["term"] 5 (spPlacedT A.pl)) : FnOk P w K mg base CX0 6 f fd ["self", "term", "given", "frames"] (spMI A) := by
  refine F.ok scMachine___init__ (fun vs H Q E h => ?_) (fun cdv A' outer s0 H vs Q E hr h => ?_)
  · obtain ⟨m, dm, f, a, tv, gv, d, n, rfl, _⟩ := h
    rfl
  obtain ⟨m, dm, f, a, tv, gv, d, n, rfl, hm, hfs, hd, fm, hn, hc, q⟩ := h
  refine ⟨_, (pss_cons (ps_fld (pv 0) (pv 3) rfl)
  (pss_cons (ps_fld (pv 0) pe_str rfl)
  (pss_cons (ps_fld (pv 0) (pe_has Gplaced (hr.mono (by omega)) (pa_cons (pv 1) pa_nil)) rfl)
  (pss_cons (ps_fld (pv 0) (pe_disp (pps_cons pe_str (pv 2) pps_nil) rfl rfl (List.cons_ne_nil _ _) (by decide)) rfl)
  (pss_cons (ps_fld (pv 0) pe_str rfl)
  (pss_cons (ps_fld (pv 0) pe_non rfl)
  (pss_cons (ps_fld (pv 0) (pe_lst pa_nil) rfl)
  (pss_cons (ps_fld (pv 0) (pe_lst pa_nil) rfl)
  (pss_cons (ps_fld (pv 0) pe_int rfl)
  (pss_one (ps_fld (pv 0) pe_int rfl))))))))))), ?_⟩
  refine ⟨_, rfl, _, rfl, m, A.ma, dm, _, rfl, hm, TM.cl, TM.no _ (by decide), (by show 0 < 1000; decide), ?_⟩
  refine ⟨_, rfl, m, A.ma, dm, _, rfl, upd_same, TM.cl, TM.no _ (by decide), (by show 1 < 1000; decide), ?_⟩
  have gA : Gx m H (upd (upd H m (.ins A.ma dm (putF "frames" (.ref f) []))) m (.ins A.ma dm (putF "stage" (.str "begin") (putF "frames" (.ref f) [])))) := fun b o nb e => by
    rw [upd_ne nb, upd_ne nb]
    exact e
  have hA : upd (upd H m (.ins A.ma dm (putF "frames" (.ref f) []))) m (.ins A.ma dm (putF "stage" (.str "begin") (putF "frames" (.ref f) []))) m = some (.ins A.ma dm [("frames", .ref f), ("stage", .str "begin")]) := upd_same
  generalize upd (upd H m (.ins A.ma dm (putF "frames" (.ref f) []))) m (.ins A.ma dm (putF "stage" (.str "begin") (putF "frames" (.ref f) []))) = HA at gA hA ⊢
  have hdA : Dq a HA tv d := hd.st fun p xs _ e => gA _ _ (ne_of e hm (by intro z; cases z)) e
  refine ⟨_, rfl, a, tv, d, n, rfl, hdA, fm, hn, hc, fun x H0 s1 tr => ?_⟩
  have hm0 := s1 _ _ hA
  refine ⟨_, rfl, m, A.ma, dm, _, rfl, hm0, TM.cl, TM.no _ (by decide), (by show 2 < 1000; decide), ?_⟩
  have g1 : Gx m H0 (upd H0 m (.ins A.ma dm (putF "place" (.ref x) [("frames", .ref f), ("stage", .str "begin")]))) := fun b o nb e => by rw [upd_ne nb]; exact e
  have h1 : upd H0 m (.ins A.ma dm (putF "place" (.ref x) [("frames", .ref f), ("stage", .str "begin")])) m = some (.ins A.ma dm [("frames", .ref f), ("stage", .str "begin"), ("place", .ref x)]) := upd_same
  have z1 : ∀ b, b ≠ m → H0 b = none → upd H0 m (.ins A.ma dm (putF "place" (.ref x) [("frames", .ref f), ("stage", .str "begin")])) b = none := fun b nb e => by rw [upd_ne nb]; exact e
  have z1' : ∀ b, upd H0 m (.ins A.ma dm (putF "place" (.ref x) [("frames", .ref f), ("stage", .str "begin")])) b = none → H0 b = none := fun b e => by
    by_cases hb : b = m
    · rw [hb, upd_same] at e; cases e
    · rw [upd_ne hb] at e; exact e
  generalize upd H0 m (.ins A.ma dm (putF "place" (.ref x) [("frames", .ref f), ("stage", .str "begin")])) = H1 at g1 h1 z1 z1' ⊢
  intro en nen
  refine ⟨_, rfl, upd_same, [(Sum.inr "input", gv)], rfl, by show 1 ≤ 15; decide, ?_⟩
  have nme : m ≠ en := ne_of_none h1 nen
  refine ⟨_, rfl, m, A.ma, dm, _, rfl, (by rw [upd_ne nme, upd_ne nme]; exact h1), TM.cl, TM.no _ (by decide), (by show 3 < 1000; decide), ?_⟩
  refine ⟨_, rfl, m, A.ma, dm, _, rfl, upd_same, TM.cl, TM.no _ (by decide), (by show 4 < 1000; decide), ?_⟩
  refine ⟨_, rfl, m, A.ma, dm, _, rfl, upd_same, TM.cl, TM.no _ (by decide), (by show 5 < 1000; decide), ?_⟩
  generalize hB : upd (upd (upd (upd (upd H1 en (.dK [])) en (.dK (mergeK [] [(Sum.inr "input", gv)]))) m _) m _) m _ = HB
  have b1 : Gx m H1 HB := fun b o nb e => by
    rw [← hB, upd_ne nb, upd_ne nb, upd_ne nb, upd_ne (ne_of_none e nen), upd_ne (ne_of_none e nen)]
    exact e
  have b2 : HB m = some (.ins A.ma dm [("frames", .ref f), ("stage", .str "begin"), ("place", .ref x), ("env", .ref en), ("kind", .str "steps"), ("worth", .non)]) := by rw [← hB]; exact upd_same
  have b3 : HB en = some (.dK [(Sum.inr "input", gv)]) := by
    rw [← hB, upd_ne nme.symm, upd_ne nme.symm, upd_ne nme.symm, upd_same]
    rfl
  have b4 : ∀ b, HB b = none → H1 b = none := fun b e => by
    by_cases hb : b = m
    · rw [hb, b2] at e; cases e
    · by_cases hb2 : b = en
      · rw [hb2]; exact nen
      · rw [← hB, upd_ne hb, upd_ne hb, upd_ne hb, upd_ne hb2, upd_ne hb2] at e
        exact e
  refine ⟨(by decide), fun lo nlo => ?_⟩
  have d1 : m ≠ lo := ne_of_none b2 nlo
  have d2 : en ≠ lo := ne_of_none b3 nlo
  refine ⟨_, rfl, m, A.ma, dm, _, rfl, (by rw [upd_ne d1]; exact b2), TM.cl, TM.no _ (by decide), (by show 6 < 1000; decide), ?_⟩
  refine ⟨(by decide), fun lw nlw => ?_⟩
  have d3 : m ≠ lw := fun z => by rw [← z, upd_same] at nlw; cases nlw
  have d4 : lo ≠ lw := fun z => by rw [← z, upd_ne d1.symm, upd_same] at nlw; cases nlw
  have nlw' : HB lw = none := by rw [upd_ne d3.symm, upd_ne d4.symm] at nlw; exact nlw
  have d5 : en ≠ lw := ne_of_none b3 nlw'
  refine ⟨_, rfl, m, A.ma, dm, _, rfl, (by rw [upd_ne d3, upd_same]), TM.cl, TM.no _ (by decide), (by show 7 < 1000; decide), ?_⟩
  refine ⟨_, rfl, m, A.ma, dm, _, rfl, upd_same, TM.cl, TM.no _ (by decide), (by show 8 < 1000; decide), ?_⟩
  refine ⟨_, rfl, m, A.ma, dm, _, rfl, upd_same, TM.cl, TM.no _ (by decide), (by show 9 < 1000; decide), ?_⟩
  refine q x en lo lw H0 _ (fun b o nb e => s1 _ _ (gA _ _ nb e)) tr (fun b o nb e => ?_) (z1' _ (b4 _ nlo)) (z1' _ (b4 _ nlw')) d4 ⟨_, _, hm0⟩ ⟨dm, upd_same⟩ ?_ ?_ ?_
  · have e1 := b1 _ _ nb (g1 _ _ nb e)
    rw [upd_ne nb, upd_ne nb, upd_ne nb, upd_ne (ne_of_none e1 nlw'), upd_ne nb, upd_ne (ne_of_none e1 nlo)]
    exact e1
  · rw [upd_ne nme.symm, upd_ne nme.symm, upd_ne nme.symm, upd_ne d5, upd_ne nme.symm, upd_ne d2]
    exact b3
  · rw [upd_ne d1.symm, upd_ne d1.symm, upd_ne d1.symm, upd_ne d4, upd_ne d1.symm, upd_same]
  · rw [upd_ne d3.symm, upd_ne d3.symm, upd_ne d3.symm, upd_same]
theorem ex_of {m : Addr} {most : Int} {H : Hp} {QF : Hp → Prop} {E : XK} (h : ∃ k : Nat, (k : Int) < most ∧ Go A m QF E k H) : ∃ n : Nat, [V.ref m, V.int most] = [.ref m, .int most] ∧ (n : Int) < most ∧ Go A m QF E n H := by
  obtain ⟨k, hk, go⟩ := h
  exact ⟨k, rfl, hk, go⟩
theorem ok_rt (F : Fun K "run_turned" "run_turned" srun_turned f fd) (T : AllC K A) (M : Mth P w K mg base A) (TR : TxC K A.re reNs) (TP : TxC K A.pa ["first", "rest"]) (CLesserMachine : HasC P w K mg base "LesserMachine" A.ma ["self", "term", "given", "frames"] 6 (spMI A)) (CHeapFrames : HasC P w K mg base "HeapFrames" A.fr ["self"] 1 (spFini A.fr))
    (Gadvance : HX P w K mg base "advance" ["machine", "many"] 18 (spAdv A)) (Gresult_of : Has P w K mg base "result_of" ["machine"] 3 (spRO A)) (Gis_end : Has P w K mg base "is_end" ["worth"] 1 (spIE A)) (CResult : HasC P w K mg base "Result" A.re ["self", "kind", "worth", "output", "winds", "steps", "height"] 1 (spRI A)) : FnOk P w K mg base (L2.CX P w) 19 f fd ["term", "given", "most"] (spRT A) := by
  refine F.okX scrun_turned (fun vs H Q E h => ?_) (fun cdv A' outer s0 H vs Q E hr h => ?_)
  · obtain ⟨a, tv, gv, most, d, n, rfl, _⟩ := h
    rfl
  obtain ⟨a, tv, gv, most, d, n, rfl, hd, fm, hn, hc, q⟩ := h
  refine ⟨_, (pss_cons (ps_set (i := 3) scrun_turned.nd rfl (.inl rfl) (pe_hasC CLesserMachine (hr.mono (by omega)) (pa_cons (pv 0) (pa_cons (pv 1) (pa_cons (pe_hasC0 CHeapFrames (hr.mono (by omega))) pa_nil)))))
  (pss_cons (ps_expr (pe_hx passX Gadvance (hr.mono (by omega)) (pa_cons (pv 3) (pa_cons (pv 2) pa_nil))))
  (pss_cons (ps_set (i := 4) scrun_turned.nd rfl (.inl rfl) (pe_has Gresult_of (hr.mono (by omega)) (pa_cons (pv 3) pa_nil)))
  (pss_cons (ps_if (PW.pt (pw_and (pt_cmpR op_eq (pe_fld (pv 4) rfl) pe_str (nomark _)) (pw_and1 (pt_val (pe_has Gis_end (hr.mono (by omega)) (pa_cons (pe_fld (pv 4) rfl) pa_nil)))))) (pss_cons (ps_set (i := 5) scrun_turned.nd rfl (.inl rfl) (pe_fld (pv 4) rfl))
  (pss_one (ps_ret (pe_hasC CResult (hr.mono (by omega)) (pa_cons (pe_fld (pv 5) rfl) (pa_cons (pe_fld (pv 5) rfl) (pa_cons (pe_fld (pv 4) rfl) (pa_cons (pe_fld (pv 4) rfl) (pa_cons (pe_fld (pv 4) rfl) (pa_cons (pe_fld (pv 4) rfl) pa_nil)))))))))) pss_nil)
  (pss_one (ps_ret (pv 4))))))), ?_⟩
  refine ⟨_, rfl, _, rfl, fun f df nf ndf nef => ?_⟩
  refine ⟨f, df, rfl, upd_same, rfl, ?_⟩
  have sF : Same H (upd (upd (upd H df (.own f)) f (.ins A.fr df [])) f (.ins A.fr df [("top", .non)])) := fun b o e => by
    rw [upd_ne (ne_of_none e nf), upd_ne (ne_of_none e nf), upd_ne (ne_of_none e ndf)]
    exact e
  have hF : upd (upd (upd H df (.own f)) f (.ins A.fr df [])) f (.ins A.fr df [("top", .non)]) f = some (.ins A.fr df [("top", .non)]) := upd_same
  generalize upd (upd (upd H df (.own f)) f (.ins A.fr df [])) f (.ins A.fr df [("top", .non)]) = HF at sF hF ⊢
  intro m dm nm ndm nem
  have sM : Same HF (upd (upd HF dm (.own m)) m (.ins A.ma dm [])) := fun b o e => by
    rw [upd_ne (ne_of_none e nm), upd_ne (ne_of_none e ndm)]
    exact e
  have hM : upd (upd HF dm (.own m)) m (.ins A.ma dm []) m = some (.ins A.ma dm []) := upd_same
  generalize upd (upd HF dm (.own m)) m (.ins A.ma dm []) = HM at sM hM ⊢
  have hdM : Dq a HM tv d := hd.tp fun b xs e => sM _ _ (sF _ _ e)
  have hmn : H m = none := by
    cases e : H m with
    | none => rfl
    | some o => rw [sF _ _ e] at nm; cases nm
  refine ⟨m, dm, f, a, tv, gv, d, n, rfl, hM, ⟨df, .non, sM _ _ hF, .nil⟩, hdM, fm, hn, hc, fun x en lo lw H0 H' k0 tr k1 nlo nlw nll hm0 hma hen hlo hlw => ⟨rfl, ?_⟩⟩
  have nfm : f ≠ m := ne_of_none hF nm
  have hf0 := k0 _ _ nfm (sM _ _ hF)
  have hf1 := k1 _ _ nfm hf0
  have ini : Ini A H m f x en lo lw d gv H0 H' := ⟨hmn, nf, fun b o e => k0 _ _ (ne_of_none e hmn) (sM _ _ (sF _ _ e)), tr, k1, nlo, nlw, nll, hma, ⟨df, .non, hf1, .nil⟩, hm0, ⟨_, _, hf0⟩, hen, hlo, hlw⟩
  refine ⟨_, rfl, _, rfl, m, most, ex_of (q m f x en lo lw H0 H' _ ini fun H2 h2 => ?_)⟩
  obtain ⟨s, p, dxp, v, outs, wnds, hm2, e1, e2, e3, hp, ho, hw, qr⟩ := h2
  refine ⟨_, rfl, m, s, outs, wnds, rfl, hm2, e1, ho, hw, fun r H3 nr hr3 s3 => ?_⟩
  obtain ⟨dxr, lo2, lw2, hrr, hlo2, hlw2⟩ := id hr3
  rw [e2, e3] at hrr
  refine ⟨_, rfl, r, A.re, dxr, _, _, rfl, hrr, TR.cl, TR.no _ (by decide), rfl, rfl, _, rfl, ?_⟩
  refine iteT ?_
  refine ⟨_, rfl, r, A.re, dxr, _, _, rfl, hrr, TR.cl, TR.no _ (by decide), rfl, p, dxp, v, rfl, s3 _ _ hp, fun H4 s4 => ?_⟩
  refine ⟨_, rfl, ?_⟩
  refine iteT ?_
  have hr4 := s4 _ _ hrr
  have hp4 := s4 _ _ (s3 _ _ hp)
  refine ⟨_, rfl, r, A.re, dxr, _, _, rfl, hr4, TR.cl, TR.no _ (by decide), rfl, ?_⟩
  refine ⟨_, rfl, p, A.pa, dxp, _, _, rfl, hp4, TP.cl, TP.no _ (by decide), rfl, _, rfl, p, A.pa, dxp, _, _, rfl, hp4, TP.cl, TP.no _ (by decide), rfl, ?_⟩
  refine ⟨_, rfl, r, A.re, dxr, _, _, rfl, hr4, TR.cl, TR.no _ (by decide), rfl, _, rfl, r, A.re, dxr, _, _, rfl, hr4, TR.cl, TR.no _ (by decide), rfl, _, rfl, r, A.re, dxr, _, _, rfl, hr4, TR.cl, TR.no _ (by decide), rfl, _, rfl, r, A.re, dxr, _, _, rfl, hr4, TR.cl, TR.no _ (by decide), rfl, ?_⟩
  exact newR_ini (Q := Q) (s4 _ _ hlo2) (s4 _ _ hlw2) fun r5 H5 n5 hr5 s5 => qr r5 H5 hr5 fun b o e => s5 _ _ (s4 _ _ (s3 _ _ e))
end
end Wp
set_option Elab.async false
set_option linter.all false
set_option maxRecDepth 100000
set_option maxHeartbeats 1000000
namespace Wp
open PySem PySem.Spec PyProof.Rows L2
/-! ### runs by configurations -/
structure Stat (A : Ad) (m f lo lw : Addr) (H0 : Hp) : Prop where
  n1 : A.fr ≠ A.ma
  n2 : A.no ≠ A.ma
  oc : ∀ C, C = A.pl ∨ C = A.pa ∨ C = A.fu ∨ C = A.ce ∨ C = A.po ∨ C = A.pt → C ≠ A.ma ∧ C ≠ A.fr
  m0 : ∃ dm fs, H0 m = some (.ins A.ma dm fs)
  f0 : ∃ df fs, H0 f = some (.ins A.fr df fs)
  nlo : H0 lo = none
  nlw : H0 lw = none
  ne : lo ≠ lw
structure Cf (A : Ad) (m f lo lw : Addr) (H0 : Hp) (B : Int) (H : Hp) (s : MSt) (frs : List Fr) (outs wnds : List V) : Prop where
  k0 : G2 m f H0 H
  ma : MAt A.ma H m s
  sf : s.f = f
  slo : s.lo = lo
  slw : s.lw = lw
  fs : FsAt A.fr A.no H f frs
  ho : H lo = some (.lst outs)
  hw : H lw = some (.lst wnds)
  hb : s.hgt ≤ B
def Kx (m f lo lw : Addr) (H H' : Hp) : Prop := ∀ b o, b ≠ m → b ≠ f → b ≠ lo → b ≠ lw → H b = some o → H' b = some o
section
variable {A : Ad} {m f lo lw : Addr} {H0 : Hp} {B : Int} {QF : Hp → Prop} {E : XK}
theorem Kx.refl {H : Hp} : Kx m f lo lw H H := fun _ _ _ _ _ _ e => e
theorem Kx.trans {H H1 H2 : Hp} (a : Kx m f lo lw H H1) (b : Kx m f lo lw H1 H2) : Kx m f lo lw H H2 := fun c o n1 n2 n3 n4 e => b c o n1 n2 n3 n4 (a c o n1 n2 n3 n4 e)
theorem Kx.gx {H H' : Hp} (g : Gx m H H') : Kx m f lo lw H H' := fun b o n1 _ _ _ e => g b o n1 e
theorem Kx.g2 {H H' : Hp} (g : G2 m f H H') : Kx m f lo lw H H' := fun b o n1 n2 _ _ e => g b o n1 n2 e
theorem Kx.same {H H' : Hp} (g : Same H H') : Kx m f lo lw H H' := fun b o _ _ _ _ e => g b o e
variable {H H' : Hp} {s s' : MSt} {frs : List Fr} {outs wnds : List V}
/-- an object of another kind is none of the four -/
theorem Cf.ne4 (c : Cf A m f lo lw H0 B H s frs outs wnds) {x : Addr} {o : HO} (h : H x = some o) (h1 : ∀ C dx fs, o = .ins C dx fs → C ≠ A.ma ∧ C ≠ A.fr) (h2 : ∀ xs, o ≠ .lst xs) : x ≠ m ∧ x ≠ f ∧ x ≠ lo ∧ x ≠ lw := by
  obtain ⟨dm, hm⟩ := c.ma
  obtain ⟨df, v, hf, _⟩ := c.fs
  refine ⟨fun z => ?_, fun z => ?_, fun z => ?_, fun z => ?_⟩
  · rw [z, hm] at h
    exact (h1 _ _ _ (Option.some.inj h).symm).1 rfl
  · rw [z, hf] at h
    exact (h1 _ _ _ (Option.some.inj h).symm).2 rfl
  · rw [z, c.ho] at h
    exact h2 _ (Option.some.inj h).symm
  · rw [z, c.hw] at h
    exact h2 _ (Option.some.inj h).symm
theorem Cf.ki (c : Cf A m f lo lw H0 B H s frs outs wnds) (S : Stat A m f lo lw H0) (k : Kx m f lo lw H H') {x C dx : Addr} {fs : List (Str × V)} (hC : C = A.pl ∨ C = A.pa ∨ C = A.fu ∨ C = A.ce ∨ C = A.po ∨ C = A.pt) (h : H x = some (.ins C dx fs)) : H' x = some (.ins C dx fs) := by
  obtain ⟨a, b, d, e⟩ := c.ne4 h (fun C' _ _ z => by cases z; exact S.oc _ hC) (fun _ z => by cases z)
  exact k _ _ a b d e h
theorem Cf.kt (c : Cf A m f lo lw H0 B H s frs outs wnds) (k : Kx m f lo lw H H') {x : Addr} {xs : List V} (h : H x = some (.tup xs)) : H' x = some (.tup xs) := by
  obtain ⟨a, b, d, e⟩ := c.ne4 h (fun C' _ _ z => by cases z) (fun _ z => by cases z)
  exact k _ _ a b d e h
theorem Cf.kd (c : Cf A m f lo lw H0 B H s frs outs wnds) (k : Kx m f lo lw H H') {x : Addr} {xs : List (Key × V)} (h : H x = some (.dK xs)) : H' x = some (.dK xs) := by
  obtain ⟨a, b, d, e⟩ := c.ne4 h (fun C' _ _ z => by cases z) (fun _ z => by cases z)
  exact k _ _ a b d e h
theorem Cf.t0 (c : Cf A m f lo lw H0 B H s frs outs wnds) (S : Stat A m f lo lw H0) {x : Addr} {xs : List V} (h : H0 x = some (.tup xs)) : H x = some (.tup xs) := by
  obtain ⟨dm, fm, hm⟩ := S.m0
  obtain ⟨df, ff, hf⟩ := S.f0
  exact c.k0 _ _ (ne_of h hm (by intro z; cases z)) (ne_of h hf (by intro z; cases z)) h
theorem Cf.l0 (c : Cf A m f lo lw H0 B H s frs outs wnds) (S : Stat A m f lo lw H0) {x : Addr} {xs : List V} (h : H0 x = some (.lst xs)) : H x = some (.lst xs) := by
  obtain ⟨dm, fm, hm⟩ := S.m0
  obtain ⟨df, ff, hf⟩ := S.f0
  exact c.k0 _ _ (ne_of h hm (by intro z; cases z)) (ne_of h hf (by intro z; cases z)) h
theorem Cf.p0 (c : Cf A m f lo lw H0 B H s frs outs wnds) (S : Stat A m f lo lw H0) {x t lp : Addr} {z : Str} {k : Int} (h : Pz A H0 x t z lp k) : Pz A H x t z lp k := by
  obtain ⟨dm, fm, hm⟩ := S.m0
  obtain ⟨df, ff, hf⟩ := S.f0
  obtain ⟨dx, pt, hx⟩ := h
  have o := S.oc A.pl (.inl rfl)
  exact ⟨dx, pt, c.k0 _ _ (fun z => by rw [z, hm] at hx; exact o.1 (HO.ins.inj (Option.some.inj hx)).1.symm) (fun z => by rw [z, hf] at hx; exact o.2 (HO.ins.inj (Option.some.inj hx)).1.symm) hx⟩
theorem Cf.gx (c : Cf A m f lo lw H0 B H s frs outs wnds) (S : Stat A m f lo lw H0) (g : Gx m H H') (hm : MAt A.ma H' m s') (e1 : s'.f = f) (e2 : s'.lo = lo) (e3 : s'.lw = lw) (e4 : s'.hgt ≤ B) : Cf A m f lo lw H0 B H' s' frs outs wnds := by
  obtain ⟨dm, hmm⟩ := id c.ma
  exact ⟨fun b o n1 n2 e => g _ _ n1 (c.k0 _ _ n1 n2 e), hm, e1, e2, e3, FsAt.gx c.ma S.n1 S.n2 c.fs g, g _ _ (ne_of c.ho hmm (by intro z; cases z)) c.ho, g _ _ (ne_of c.hw hmm (by intro z; cases z)) c.hw, e4⟩
theorem Cf.g2 (c : Cf A m f lo lw H0 B H s frs outs wnds) (g : G2 m f H H') (hm : MAt A.ma H' m s') {frs' : List Fr} (hf : FsAt A.fr A.no H' f frs') (e1 : s'.f = f) (e2 : s'.lo = lo) (e3 : s'.lw = lw) (e4 : s'.hgt ≤ B) : Cf A m f lo lw H0 B H' s' frs' outs wnds := by
  obtain ⟨dm, hmm⟩ := id c.ma
  obtain ⟨df, v, hff, _⟩ := id c.fs
  exact ⟨fun b o n1 n2 e => g _ _ n1 n2 (c.k0 _ _ n1 n2 e), hm, e1, e2, e3, hf, g _ _ (ne_of c.ho hmm (by intro z; cases z)) (ne_of c.ho hff (by intro z; cases z)) c.ho, g _ _ (ne_of c.hw hmm (by intro z; cases z)) (ne_of c.hw hff (by intro z; cases z)) c.hw, e4⟩
theorem Cf.same (c : Cf A m f lo lw H0 B H s frs outs wnds) (g : Same H H') : Cf A m f lo lw H0 B H' s frs outs wnds := ⟨fun b o n1 n2 e => g _ _ (c.k0 _ _ n1 n2 e), c.ma.same g, c.sf, c.slo, c.slw, c.fs.same g, g _ _ c.ho, g _ _ c.hw, c.hb⟩
def Bg (A : Ad) (m f lo lw : Addr) (H0 : Hp) (B : Int) (H : Hp) (x en : Addr) (n : Int) (frs : List Fr) (outs wnds : List V) : Prop := ∃ s, Cf A m f lo lw H0 B H s frs outs wnds ∧ s.st = "begin" ∧ s.x = x ∧ s.en = en ∧ s.stp = n
def Bq (A : Ad) (m f lo lw : Addr) (H0 : Hp) (B : Int) (H : Hp) (v : V) (n : Int) (frs : List Fr) (outs wnds : List V) : Prop := ∃ s, Cf A m f lo lw H0 B H s frs outs wnds ∧ s.st = "back" ∧ s.wv = v ∧ s.stp = n
def KB (A : Ad) (m : Addr) (QF : Hp → Prop) (E : XK) (k l : Nat) (H : Hp) : Prop := Bk A m (fun H' => Go A m QF E k H') E (l + 2) H
/-- what the next action finds -/
structure Nx (A : Ad) (m f lo lw : Addr) (H0 : Hp) (B : Int) (H2 : Hp) (s : MSt) (n : Int) (frs : List Fr) (outs wnds : List V) (tw : Addr) (ws : List V) : Prop where
  cf : Cf A m f lo lw H0 B H2 s frs outs wnds
  sn : s.stp = n
  tw : H2 tw = some (.tup ws)
variable {n : Int} {x en : Addr} {v : V} {k : Nat}
theorem kb_begin {l : Nat} {y e : Addr} {k : Nat} (b : Bg A m f lo lw H0 B H y e n frs outs wnds) (g : Go A m QF E k H) : KB A m QF E k l H := by
  obtain ⟨s, c, e1, _⟩ := b
  exact ⟨s, c.ma, .inl ⟨by rw [e1]; decide, g⟩⟩
theorem gv_q {l : Nat} (S : Stat A m f lo lw H0) (c : Cf A m f lo lw H0 B H s frs outs wnds) (q : ∀ H', Kx m f lo lw H H' → Bq A m f lo lw H0 B H' v s.stp frs outs wnds → KB A m QF E k l H') : GvQ A m s H v (fun _ H' => KB A m QF E k l H') := fun H' g hm =>
  q H' (Kx.gx g) ⟨_, c.gx S g hm c.sf c.slo c.slw c.hb, rfl, rfl, rfl⟩
theorem bg_q {l : Nat} {y e : Addr} (S : Stat A m f lo lw H0) (c : Cf A m f lo lw H0 B H s frs outs wnds) (q : ∀ H', Kx m f lo lw H H' → Bg A m f lo lw H0 B H' y e s.stp frs outs wnds → Go A m QF E k H') : BgQ A m s H y e (fun _ H' => KB A m QF E k l H') := fun H' g hm => by
  have b : Bg A m f lo lw H0 B H' y e s.stp frs outs wnds := ⟨_, c.gx S g hm c.sf c.slo c.slw c.hb, rfl, rfl, rfl, rfl⟩
  exact kb_begin b (q H' (Kx.gx g) b)
theorem go_wait {t lp : Addr} {z : Str} {w : Int} {ps : List V} {c0 : Addr} (S : Stat A m f lo lw H0) (b : Bg A m f lo lw H0 B H x en n frs outs wnds) (hB : (frs.length : Int) ≤ B) (pz : Pz A H0 x t z lp w) (hw : 0 < w) (hps : H0 lp = some (.lst ps)) (hc : ps[0]? = some (.ref c0))
    (q : ∀ H', Kx m f lo lw H H' → Bg A m f lo lw H0 B H' c0 en (n + 1) (⟨x, en, []⟩ :: frs) outs wnds → Go A m QF E k H') : Go A m QF E (k + 1) H := by
  obtain ⟨s, c, e1, e2, e3, e4⟩ := b
  subst e2 e3 e4
  refine .inr ⟨s, c.ma, e1, m, s, frs, t, z, lp, w, rfl, c.ma, by rw [c.sf]; exact c.fs, c.p0 S pz, fun H1 g1 hm1 hf1 => ⟨0 + 1, fun _ => ?_, fun h => absurd hw h⟩⟩
  have c1 : Cf A m f lo lw H0 B H1 (stepS s frs.length) frs outs wnds := c.gx S g1 hm1 c.sf c.slo c.slw (by
    show (if (frs.length : Int) > s.hgt then (frs.length : Int) else s.hgt) ≤ B
    have := c.hb
    split <;> omega)
  refine ⟨ps, c0, c1.l0 S hps, hc, fun H' g2 hf2 hm2 => ?_⟩
  have b2 : Bg A m f lo lw H0 B H' c0 s.en (s.stp + 1) (⟨s.x, s.en, []⟩ :: frs) outs wnds := ⟨_, c1.g2 (by rw [← c.sf]; exact g2) hm2 (by rw [← c.sf]; exact hf2) c.sf c.slo c.slw c1.hb, rfl, rfl, rfl, rfl⟩
  exact ⟨_, hm2, .inl ⟨by show ("begin" : Str) ≠ "back"; decide, q H' ((Kx.gx g1).trans (Kx.g2 (by rw [← c.sf]; exact g2))) b2⟩⟩
theorem go_act {t lp : Addr} {z : Str} {w : Int} (S : Stat A m f lo lw H0) (b : Bg A m f lo lw H0 B H x en n frs outs wnds) (hB : (frs.length : Int) ≤ B) (pz : Pz A H0 x t z lp w) (hw : ¬ 0 < w) (hz : z ∈ actNs)
    (q : ∀ H2 s tw, Kx m f lo lw H H2 → Nx A m f lo lw H0 B H2 s (n + 1) frs outs wnds tw [] → capOf A z A m x en tw s [] t z lp w H2 (fun _ H' => KB A m QF E k frs.length H') E) : Go A m QF E (k + 1) H := by
  obtain ⟨s, c, e1, e2, e3, e4⟩ := b
  subst e2 e3 e4
  refine .inr ⟨s, c.ma, e1, m, s, frs, t, z, lp, w, rfl, c.ma, by rw [c.sf]; exact c.fs, c.p0 S pz, fun H1 g1 hm1 hf1 => ⟨frs.length + 2, fun h => absurd h hw, fun _ tw H2 s2 htw => ?_⟩⟩
  have c1 : Cf A m f lo lw H0 B H1 (stepS s frs.length) frs outs wnds := c.gx S g1 hm1 c.sf c.slo c.slw (by
    show (if (frs.length : Int) > s.hgt then (frs.length : Int) else s.hgt) ≤ B
    have := c.hb
    split <;> omega)
  have c2 := c1.same s2
  exact ⟨m, s.x, s.en, tw, stepS s frs.length, [], t, z, lp, w, ⟨rfl, c2.ma, c2.p0 S pz, htw⟩, hz, q H2 _ tw ((Kx.gx g1).trans (Kx.same s2)) ⟨c2, rfl, htw⟩⟩
theorem kb_end (S : Stat A m f lo lw H0) (b : Bq A m f lo lw H0 B H v n [] outs wnds) (q : ∀ H' s, Kx m f lo lw H H' → Cf A m f lo lw H0 B H' s [] outs wnds → s.st = "end" → s.kd = "worth" → s.wv = v → s.stp = n → QF H') : KB A m QF E k 0 H := by
  obtain ⟨s, c, e1, e2, e3⟩ := b
  refine ⟨s, c.ma, .inr ⟨e1, m, s, [], rfl, c.ma, by rw [c.sf]; exact c.fs, fun _ H' g hm => ?_, fun fr fs h => by cases h⟩⟩
  have c1 := c.gx S g hm c.sf c.slo c.slw c.hb
  refine ⟨_, hm, .inl ⟨by show ("end" : Str) ≠ "back"; decide, ?_⟩⟩
  have qf := q H' _ (Kx.gx g) c1 rfl rfl e2 e3
  cases k with
  | zero => exact ⟨_, hm, rfl, qf⟩
  | succ k => exact .inl ⟨_, hm, rfl, qf⟩
theorem kb_next {t lp : Addr} {z : Str} {w : Int} {ps : List V} {c0 : Addr} {fr : Fr} (S : Stat A m f lo lw H0) (b : Bq A m f lo lw H0 B H v n (fr :: frs) outs wnds) (pz : Pz A H0 fr.x t z lp w) (hl : fr.ws.length ≤ 100) (hw : ((fr.ws.length + 1 : Nat) : Int) < w) (hps : H0 lp = some (.lst ps)) (hc : ps[fr.ws.length + 1]? = some (.ref c0))
    (q : ∀ H', Kx m f lo lw H H' → Bg A m f lo lw H0 B H' c0 fr.en n (⟨fr.x, fr.en, fr.ws ++ [v]⟩ :: frs) outs wnds → Go A m QF E k H') : KB A m QF E k (frs.length + 1) H := by
  obtain ⟨s, c, e1, e2, e3⟩ := b
  subst e2 e3
  refine ⟨s, c.ma, .inr ⟨e1, m, s, fr :: frs, rfl, c.ma, by rw [c.sf]; exact c.fs, (fun h => by cases h), fun fr' fs' h => ?_⟩⟩
  cases h
  refine ⟨t, z, lp, w, c.p0 S pz, hl, fun tw H1 g1 hf1 htw => ⟨fun _ => ⟨ps, c0, c.l0 S hps, hc, fun H' g2 hf2 hm2 => ?_⟩, fun h => absurd hw h⟩⟩
  have gg : G2 m f H H' := fun b o n1 n2 e => g2 _ _ n1 (by rw [c.sf]; exact n2) (g1 _ _ (by rw [c.sf]; exact n2) e)
  have b2 : Bg A m f lo lw H0 B H' c0 fr.en s.stp (⟨fr.x, fr.en, fr.ws ++ [s.wv]⟩ :: frs) outs wnds := ⟨_, c.g2 gg hm2 (by rw [← c.sf]; exact hf2) c.sf c.slo c.slw c.hb, rfl, rfl, rfl, rfl⟩
  exact ⟨_, hm2, .inl ⟨by show ("begin" : Str) ≠ "back"; decide, q H' (Kx.g2 gg) b2⟩⟩
theorem kb_act {t lp : Addr} {z : Str} {w : Int} {fr : Fr} (S : Stat A m f lo lw H0) (b : Bq A m f lo lw H0 B H v n (fr :: frs) outs wnds) (pz : Pz A H0 fr.x t z lp w) (hl : fr.ws.length ≤ 100) (hw : ¬ ((fr.ws.length + 1 : Nat) : Int) < w) (hz : z ∈ actNs)
    (q : ∀ H2 s tw, Kx m f lo lw H H2 → Nx A m f lo lw H0 B H2 s n frs outs wnds tw (fr.ws ++ [v]) → capOf A z A m fr.x fr.en tw s (fr.ws ++ [v]) t z lp w H2 (fun _ H' => KB A m QF E k frs.length H') E) : KB A m QF E k (frs.length + 1) H := by
  obtain ⟨s, c, e1, e2, e3⟩ := b
  subst e2 e3
  refine ⟨s, c.ma, .inr ⟨e1, m, s, fr :: frs, rfl, c.ma, by rw [c.sf]; exact c.fs, (fun h => by cases h), fun fr' fs' h => ?_⟩⟩
  cases h
  refine ⟨t, z, lp, w, c.p0 S pz, hl, fun tw H1 g1 hf1 htw => ⟨fun h => absurd h hw, fun _ => ?_⟩⟩
  have nfm : m ≠ f := fun z => by
    obtain ⟨dm, hmm⟩ := c.ma
    obtain ⟨df, v, hff, _⟩ := c.fs
    rw [z, hff] at hmm
    exact S.n1 (HO.ins.inj (Option.some.inj hmm)).1
  obtain ⟨dm, hmm⟩ := id c.ma
  have gg : G2 m f H H1 := fun b o n1 n2 e => g1 _ _ (by rw [c.sf]; exact n2) e
  have c1 : Cf A m f lo lw H0 B H1 s frs outs wnds := c.g2 gg ⟨dm, g1 _ _ (by rw [c.sf]; exact nfm) hmm⟩ (by rw [← c.sf]; exact hf1) c.sf c.slo c.slw c.hb
  exact ⟨m, fr.x, fr.en, tw, s, fr.ws ++ [s.wv], t, z, lp, w, ⟨rfl, c1.ma, c1.p0 S pz, htw⟩, hz, q H1 s tw (Kx.g2 gg) ⟨c1, rfl, htw⟩⟩
end
end Wp
set_option Elab.async false
set_option linter.all false
set_option maxRecDepth 100000
set_option maxHeartbeats 1000000
namespace Wp
open PySem PySem.Spec PyProof.Rows L2
/-! ### worths by their shapes -/
inductive Wt | non | bl (b : Bool) | int (i : Int) | str (z : Str) | pair (a b : Wt) | point (a : Wt) | part (a : Wt)
def kdW : Wt → Kd
  | .non => .non
  | .bl _ => .bl
  | .int _ => .int
  | .str _ => .str
  | .pair _ _ => .pair
  | .point _ => .point
  | .part _ => .part
inductive VAt (A : Ad) (H : Hp) : V → Wt → Prop
  | non : VAt A H .non .non
  | bl (b : Bool) : VAt A H (.bl b) (.bl b)
  | int (i : Int) : VAt A H (.int i) (.int i)
  | str (z : Str) : VAt A H (.str z) (.str z)
  | pair {x dx : Addr} {a b : V} {wa wb : Wt} : H x = some (.ins A.pa dx [("first", a), ("rest", b)]) → VAt A H a wa → VAt A H b wb → VAt A H (.ref x) (.pair wa wb)
  | point {x dx : Addr} {a : V} {wa : Wt} : H x = some (.ins A.po dx [("held", a)]) → VAt A H a wa → VAt A H (.ref x) (.point wa)
  | part {x dx : Addr} {a : V} {wa : Wt} : H x = some (.ins A.pt dx [("held", a)]) → VAt A H a wa → VAt A H (.ref x) (.part wa)
theorem VAt.wk {A : Ad} {H : Hp} {v : V} {W : Wt} (h : VAt A H v W) : Wk A H v (kdW W) := by
  cases h with
  | non => exact .non
  | bl b => exact .bl b
  | int i => exact .int i
  | str z => exact .str z
  | pair h _ _ => exact .pair h
  | point h _ => exact .point h
  | part h _ => exact .part h
theorem VAt.keep {A : Ad} {H H' : Hp} {v : V} {W : Wt} (h : VAt A H v W) (k : ∀ x C dx fs, C = A.pa ∨ C = A.po ∨ C = A.pt → H x = some (.ins C dx fs) → H' x = some (.ins C dx fs)) : VAt A H' v W := by
  induction h with
  | non => exact .non
  | bl b => exact .bl b
  | int i => exact .int i
  | str z => exact .str z
  | pair h _ _ i1 i2 => exact .pair (k _ _ _ _ (.inl rfl) h) i1 i2
  | point h _ i => exact .point (k _ _ _ _ (.inr (.inl rfl)) h) i
  | part h _ i => exact .part (k _ _ _ _ (.inr (.inr rfl)) h) i
theorem VAt.same {A : Ad} {H H' : Hp} {v : V} {W : Wt} (h : VAt A H v W) (s : Same H H') : VAt A H' v W := h.keep fun _ _ _ _ _ e => s _ _ e
inductive VL (A : Ad) (H : Hp) : List V → List Wt → Prop
  | nil : VL A H [] []
  | cons {v : V} {vs : List V} {W : Wt} {Ws : List Wt} : VAt A H v W → VL A H vs Ws → VL A H (v :: vs) (W :: Ws)
theorem VL.same {A : Ad} {H H' : Hp} {vs : List V} {Ws : List Wt} (h : VL A H vs Ws) (s : Same H H') : VL A H' vs Ws := by
  induction h with
  | nil => exact .nil
  | cons a _ ih => exact .cons (a.same s) ih
def kShow : Kd → List Nat := fun k => (kdName k).cps.toList
def shW : Wt → List Nat
  | .non => kShow .non
  | .bl b => (if b then ("yes" : Str) else "no").cps.toList
  | .int i => (toString i : Str).cps.toList
  | .str z => ("\"" ++ z ++ "\"" : Str).cps.toList
  | .pair a b => [40] ++ (shW a ++ ([32, 46, 32] ++ (shW b ++ [41])))
  | .point _ => kShow .point
  | .part _ => kShow .part
def szW : Wt → Nat
  | .pair a b => szW a + szW b + 4
  | _ => 1
def okW : Wt → Prop
  | .int i => i.natAbs.log2 < 1920
  | .str z => z.length ≤ 100000
  | .pair a b => okW a ∧ okW b
  | _ => True
theorem VAt.sh {A : Ad} {H : Hp} {v : V} {W : Wt} (h : VAt A H v W) (o : okW W) : Sh A H v (shW W) (szW W) := by
  induction h with
  | non => exact .leaf .non True.intro (by decide) rfl
  | bl b => exact .leaf (.bl b) True.intro (by decide) rfl
  | int i => exact .leaf (.int i) o (by decide) rfl
  | str z => exact .leaf (.str z) o (by decide) rfl
  | pair h _ _ i1 i2 => exact .pair h (i1 o.1) (i2 o.2)
  | point h _ _ => exact .leaf (.point h) True.intro (by decide) rfl
  | part h _ _ => exact .leaf (.part h) True.intro (by decide) rfl
/-! ### ops by shapes -/
def OpE (A : Ad) (m : Addr) (w : Str) (Ws : List Wt) (W : Wt) : Prop := ∀ (H : Hp) (E : XK) (QT : VK) (l : Addr) (vs : List V), H l = some (.lst vs) → VL A H vs Ws → (∀ u p H', Same H H' → H' p = some (.tup [.str "worth", u]) → VAt A H' u W → QT (.ref p) H') → spT A [.ref m, .str w, .ref l] H QT E
def OpF (A : Ad) (m : Addr) (w : Str) (Ws : List Wt) : Prop := ∃ z : Str, ∀ (H : Hp) (E : XK) (QT : VK) (l : Addr) (vs : List V), H l = some (.lst vs) → VL A H vs Ws → (∀ p H', Same H H' → H' p = some (.tup [.str "fault", .str z]) → QT (.ref p) H') → spT A [.ref m, .str w, .ref l] H QT E
section
variable {A : Ad} {m : Addr}
theorem e_pair (W1 W2 : Wt) : OpE A m "pair" [W1, W2] (.pair W1 W2) := by
  intro H E QT l vs hl hv q
  cases hv with
  | cons h1 hv =>
  cases hv with
  | cons h2 hv =>
  cases hv
  refine ⟨m, _, l, _, rfl, hl, .inl ⟨by decide, ?_⟩⟩
  refine ⟨.ref m, [_, _], rfl, rfl, fun x dx H1 n1 n2 n3 hx s1 _ p H' s2 _ hp => ?_⟩
  exact q _ p H' (fun b o e => s2 _ _ (s1 _ _ e)) hp (.pair (s2 _ _ hx) ((h1.same s1).same s2) ((h2.same s1).same s2))
theorem e_point (W : Wt) : OpE A m "point" [W] (.point W) := by
  intro H E QT l vs hl hv q
  cases hv with
  | cons h1 hv =>
  cases hv
  refine ⟨m, _, l, _, rfl, hl, .inl ⟨by decide, ?_⟩⟩
  refine ⟨.ref m, [_], rfl, rfl, fun x dx H1 n1 n2 n3 hx s1 _ p H' s2 _ hp => ?_⟩
  exact q _ p H' (fun b o e => s2 _ _ (s1 _ _ e)) hp (.point (s2 _ _ hx) ((h1.same s1).same s2))
theorem e_part (W : Wt) : OpE A m "part" [W] (.part W) := by
  intro H E QT l vs hl hv q
  cases hv with
  | cons h1 hv =>
  cases hv
  refine ⟨m, _, l, _, rfl, hl, .inl ⟨by decide, ?_⟩⟩
  refine ⟨.ref m, [_], rfl, rfl, fun x dx H1 n1 n2 n3 hx s1 _ p H' s2 _ hp => ?_⟩
  exact q _ p H' (fun b o e => s2 _ _ (s1 _ _ e)) hp (.part (s2 _ _ hx) ((h1.same s1).same s2))
theorem e_insideO (W : Wt) : OpE A m "inside" [.point W] W := by
  intro H E QT l vs hl hv q
  cases hv with
  | cons h1 hv =>
  cases hv
  cases h1 with
  | @point x dx a _ hx ha =>
  refine ⟨m, _, l, _, rfl, hl, .inl ⟨by decide, ?_⟩⟩
  exact ⟨.ref m, .ref x, .point, rfl, .point hx, fun z => absurd rfl z, fun _ => ⟨x, A.po, dx, a, rfl, .inl rfl, hx, fun p H' s2 _ hp => q _ p H' s2 hp (ha.same s2)⟩⟩
theorem e_insideT (W : Wt) : OpE A m "inside" [.part W] W := by
  intro H E QT l vs hl hv q
  cases hv with
  | cons h1 hv =>
  cases hv
  cases h1 with
  | @part x dx a _ hx ha =>
  refine ⟨m, _, l, _, rfl, hl, .inl ⟨by decide, ?_⟩⟩
  exact ⟨.ref m, .ref x, .part, rfl, .part hx, fun _ z => absurd rfl z, fun _ => ⟨x, A.pt, dx, a, rfl, .inr rfl, hx, fun p H' s2 _ hp => q _ p H' s2 hp (ha.same s2)⟩⟩
theorem e_kind (W : Wt) : OpE A m "kind" [W] (.str (kdName (kdW W))) := by
  intro H E QT l vs hl hv q
  cases hv with
  | cons h1 hv =>
  cases hv
  refine ⟨m, _, l, _, rfl, hl, .inr ⟨by decide, ?_⟩⟩
  exact ⟨_, _, rfl, h1.wk, fun p H' s2 _ hp => q _ p H' s2 hp (.str _)⟩
theorem ar_q {H : Hp} {op : Int → Int → Int} {lim : Int → Int → Prop} {Q : VK} {E : XK} {a b : Int} (hl : lim a b) (hs : (op a b).natAbs < far.natAbs) (q : Told H "worth" (.int (op a b)) Q) : spAr A op lim [.int a, .int b] H Q E :=
  ⟨_, _, _, _, rfl, .int a, .int b, fun i j e1 e2 => by
    cases e1
    cases e2
    exact ⟨hl, fun _ => q, fun z => absurd hs (Nat.not_lt.mpr z)⟩, fun z => by rcases z with z | z <;> exact absurd rfl z⟩
theorem e_plus {a b : Int} (hs : (a + b).natAbs < far.natAbs) : OpE A m "plus" [.int a, .int b] (.int (a + b)) := by
  intro H E QT l vs hl hv q
  cases hv with
  | cons h1 hv =>
  cases hv with
  | cons h2 hv =>
  cases hv
  cases h1
  cases h2
  refine ⟨m, _, l, _, rfl, hl, .inr ⟨by decide, ?_⟩⟩
  exact ar_q (E := E) True.intro hs fun p H' s2 _ hp => q _ p H' s2 hp (.int _)
theorem e_minus {a b : Int} (hs : (a - b).natAbs < far.natAbs) : OpE A m "minus" [.int a, .int b] (.int (a - b)) := by
  intro H E QT l vs hl hv q
  cases hv with
  | cons h1 hv =>
  cases hv with
  | cons h2 hv =>
  cases hv
  cases h1
  cases h2
  refine ⟨m, _, l, _, rfl, hl, .inr ⟨by decide, ?_⟩⟩
  exact ar_q (E := E) True.intro hs fun p H' s2 _ hp => q _ p H' s2 hp (.int _)
theorem e_less (a b : Int) : OpE A m "less" [.int a, .int b] (.bl (decide (a < b))) := by
  intro H E QT l vs hl hv q
  cases hv with
  | cons h1 hv =>
  cases hv with
  | cons h2 hv =>
  cases hv
  cases h1
  cases h2
  refine ⟨m, _, l, _, rfl, hl, .inr ⟨by decide, ?_⟩⟩
  exact ⟨_, _, _, _, rfl, .int a, .int b, fun i j e1 e2 => by
    cases e1
    cases e2
    exact fun p H' s2 _ hp => q _ p H' s2 hp (.bl _), fun z => by rcases z with z | z <;> exact absurd rfl z⟩
abbrev wList (a b : Int) : Wt := .pair (.int a) (.pair (.int b) .non)
theorem e_tried {w : Str} {a b r : Int} (hw : w ∈ opNs2) (h : ∀ (H : Hp) (E : XK) (Q : VK), Told H "worth" (.int r) Q → spOp A w [.int a, .int b] H Q E) : OpE A m "tried" [.str w, wList a b] (.pair (.bl true) (.int r)) := by
  intro H E QT l vs hl hv q
  cases hv with
  | cons h1 hv =>
  cases hv with
  | cons h2 hv =>
  cases hv
  cases h1
  cases h2 with
  | pair hx ha hb =>
  cases ha
  cases hb with
  | pair hy hc hd =>
  cases hc
  cases hd
  refine ⟨m, _, l, _, rfl, hl, .inl ⟨by decide, ?_⟩⟩
  refine ⟨.ref m, w, _, [.int a, .int b], rfl, hw, .cons hx (.cons hy .nil), rfl, fun l1 H1 s1 _ => h H1 E _ fun p H2 s2 _ hp => ?_⟩
  refine ⟨p, "worth", .int r, rfl, hp, fun x dx H3 n1 n2 n3 hx3 s3 _ p4 H4 s4 _ hp4 => ?_⟩
  exact q _ p4 H4 (fun b o e => s4 _ _ (s3 _ _ (s2 _ _ (s1 _ _ e)))) hp4 (.pair (s4 _ _ hx3) (.bl _) (.int _))
theorem e_bad (a b : Int) : OpE A m "tried" [.str "joined", wList a b] (.pair (.bl false) (.str "no text")) := by
  intro H E QT l vs hl hv q
  cases hv with
  | cons h1 hv =>
  cases hv with
  | cons h2 hv =>
  cases hv
  cases h1
  cases h2 with
  | pair hx ha hb =>
  cases ha
  cases hb with
  | pair hy hc hd =>
  cases hc
  cases hd
  refine ⟨m, _, l, _, rfl, hl, .inl ⟨by decide, ?_⟩⟩
  refine ⟨.ref m, "joined", _, [.int a, .int b], rfl, by decide, .cons hx (.cons hy .nil), rfl, fun l1 H1 s1 _ => ⟨_, _, _, rfl, .int a, by decide, fun p H2 s2 _ hp => ?_⟩⟩
  refine ⟨p, "fault", .str "no text", rfl, hp, fun x dx H3 n1 n2 n3 hx3 s3 _ p4 H4 s4 _ hp4 => ?_⟩
  exact q _ p4 H4 (fun b o e => s4 _ _ (s3 _ _ (s2 _ _ (s1 _ _ e)))) hp4 (.pair (s4 _ _ hx3) (.bl _) (.str _))
theorem f_plus (a : Int) (b : Bool) : OpF A m "plus" [.int a, .bl b] := ⟨"no number", fun H E QT l vs hl hv q => by
  cases hv with
  | cons h1 hv =>
  cases hv with
  | cons h2 hv =>
  cases hv
  cases h1
  cases h2
  exact ⟨m, _, l, _, rfl, hl, .inr ⟨by decide, _, _, _, _, rfl, .int a, .bl b, (fun i j _ z => by cases z), fun _ p H' s2 _ hp => q p H' s2 hp⟩⟩⟩
theorem f_times (a : Int) (z : Str) : OpF A m "times" [.int a, .str z] := ⟨"no number", fun H E QT l vs hl hv q => by
  cases hv with
  | cons h1 hv =>
  cases hv with
  | cons h2 hv =>
  cases hv
  cases h1
  cases h2
  exact ⟨m, _, l, _, rfl, hl, .inr ⟨by decide, _, _, _, _, rfl, .int a, .str z, (fun i j _ z => by cases z), fun _ p H' s2 _ hp => q p H' s2 hp⟩⟩⟩
theorem f_first (a : Int) : OpF A m "first" [.int a] := ⟨"no pair", fun H E QT l vs hl hv q => by
  cases hv with
  | cons h1 hv =>
  cases hv
  cases h1
  exact ⟨m, _, l, _, rfl, hl, .inr ⟨by decide, _, _, rfl, .int a, by decide, fun p H' s2 _ hp => q p H' s2 hp⟩⟩⟩
theorem f_joined (a b : Int) : OpF A m "joined" [.int a, .int b] := ⟨"no text", fun H E QT l vs hl hv q => by
  cases hv with
  | cons h1 hv =>
  cases hv with
  | cons h2 hv =>
  cases hv
  cases h1
  cases h2
  exact ⟨m, _, l, _, rfl, hl, .inr ⟨by decide, _, _, _, rfl, .int a, by decide, fun p H' s2 _ hp => q p H' s2 hp⟩⟩⟩
theorem f_inside (a : Int) : OpF A m "inside" [.int a] := ⟨"no point", fun H E QT l vs hl hv q => by
  cases hv with
  | cons h1 hv =>
  cases hv
  cases h1
  exact ⟨m, _, l, _, rfl, hl, .inl ⟨by decide, .ref m, .int a, .int, rfl, .int a, fun _ _ p H' s2 _ hp => q p H' s2 hp, fun z => by rcases z with z | z <;> cases z⟩⟩⟩
end
end Wp
set_option Elab.async false
set_option linter.all false
set_option maxRecDepth 100000
set_option maxHeartbeats 1000000
namespace Wp
open PySem PySem.Spec PyProof.Rows L2
/-! ### places by their terms -/
section
variable {A : Ad} {H0 : Hp} {x : Addr} {z : Str} {its : List PyData}
theorem ptr_inv (h : PTr A.pl H0 x (.tuple (.str z :: its))) : ∃ (t lp : Addr) (cs : List Addr) (vs : List V) (a : Addr), Pz A H0 x t z lp (waitsW z cs.length) ∧ H0 t = some (.tup (.str z :: vs)) ∧ DqL a H0 vs its ∧ H0 lp = some (.lst (cs.map V.ref)) ∧ cs.length = (partsD (.tuple (.str z :: its))).length ∧ ∀ (k : Nat) (c : Addr) (p : PyData), cs[k]? = some c → (partsD (.tuple (.str z :: its)))[k]? = some p → PTr A.pl H0 c p := by
  cases h with
  | @mk _ dx pt lp b v cs _ m h1 h2 h3 h4 h5 h6 =>
    cases h2 with
    | tup _ ht hl =>
      cases hl with
      | cons hz hr =>
        cases hz
        exact ⟨_, lp, cs, _, _, ⟨dx, pt, h1⟩, ht, hr, h4, h5, h6⟩
theorem ptr0 (h : PTr A.pl H0 x (.tuple (.str z :: its))) (hp : partsD (.tuple (.str z :: its)) = []) : ∃ t lp vs a, Pz A H0 x t z lp (waitsW z 0) ∧ H0 t = some (.tup (.str z :: vs)) ∧ DqL a H0 vs its := by
  obtain ⟨t, lp, cs, vs, a, h1, h2, h3, h4, h5, h6⟩ := ptr_inv h
  rw [hp] at h5
  rw [h5] at h1
  exact ⟨t, lp, vs, a, h1, h2, h3⟩
theorem ptr1 {d1 : PyData} (h : PTr A.pl H0 x (.tuple (.str z :: its))) (hp : partsD (.tuple (.str z :: its)) = [d1]) : ∃ t lp vs a c1, Pz A H0 x t z lp (waitsW z 1) ∧ H0 t = some (.tup (.str z :: vs)) ∧ DqL a H0 vs its ∧ H0 lp = some (.lst [.ref c1]) ∧ PTr A.pl H0 c1 d1 := by
  obtain ⟨t, lp, cs, vs, a, h1, h2, h3, h4, h5, h6⟩ := ptr_inv h
  rw [hp] at h5 h6
  match cs, h5 with
  | [c1], _ => exact ⟨t, lp, vs, a, c1, h1, h2, h3, h4, h6 0 _ _ rfl rfl⟩
theorem ptr2 {d1 d2 : PyData} (h : PTr A.pl H0 x (.tuple (.str z :: its))) (hp : partsD (.tuple (.str z :: its)) = [d1, d2]) : ∃ t lp vs a c1 c2, Pz A H0 x t z lp (waitsW z 2) ∧ H0 t = some (.tup (.str z :: vs)) ∧ DqL a H0 vs its ∧ H0 lp = some (.lst [.ref c1, .ref c2]) ∧ PTr A.pl H0 c1 d1 ∧ PTr A.pl H0 c2 d2 := by
  obtain ⟨t, lp, cs, vs, a, h1, h2, h3, h4, h5, h6⟩ := ptr_inv h
  rw [hp] at h5 h6
  match cs, h5 with
  | [c1, c2], _ => exact ⟨t, lp, vs, a, c1, c2, h1, h2, h3, h4, h6 0 _ _ rfl rfl, h6 1 _ _ rfl rfl⟩
theorem ptr3 {d1 d2 d3 : PyData} (h : PTr A.pl H0 x (.tuple (.str z :: its))) (hp : partsD (.tuple (.str z :: its)) = [d1, d2, d3]) : ∃ t lp vs a c1 c2 c3, Pz A H0 x t z lp (waitsW z 3) ∧ H0 t = some (.tup (.str z :: vs)) ∧ DqL a H0 vs its ∧ H0 lp = some (.lst [.ref c1, .ref c2, .ref c3]) ∧ PTr A.pl H0 c1 d1 ∧ PTr A.pl H0 c2 d2 ∧ PTr A.pl H0 c3 d3 := by
  obtain ⟨t, lp, cs, vs, a, h1, h2, h3, h4, h5, h6⟩ := ptr_inv h
  rw [hp] at h5 h6
  match cs, h5 with
  | [c1, c2, c3], _ => exact ⟨t, lp, vs, a, c1, c2, c3, h1, h2, h3, h4, h6 0 _ _ rfl rfl, h6 1 _ _ rfl rfl, h6 2 _ _ rfl rfl⟩
end
abbrev dNum (i : Int) : PyData := .tuple [.str "num", .int i]
abbrev dText (z : Str) : PyData := .tuple [.str "text", .str z]
abbrev dYes : PyData := .tuple [.str "yes"]
abbrev dNone : PyData := .tuple [.str "none"]
abbrev dName (z : Str) : PyData := .tuple [.str "name", .str z]
abbrev dOp1 (w : Str) (d : PyData) : PyData := .tuple [.str "op", .str w, .tuple [d]]
abbrev dOp2 (w : Str) (d1 d2 : PyData) : PyData := .tuple [.str "op", .str w, .tuple [d1, d2]]
abbrev dLet (z : Str) (d1 d2 : PyData) : PyData := .tuple [.str "let", .str z, d1, d2]
/-! ### terms that come to a worth -/
def Stb (A : Ad) (m f lo lw : Addr) (H0 : Hp) (B : Int) (Pr : Hp → Prop) : Prop := ∀ H H' s frs outs wnds, Cf A m f lo lw H0 B H s frs outs wnds → Kx m f lo lw H H' → Pr H → Pr H'
def Ev (A : Ad) (m f lo lw : Addr) (H0 : Hp) (B : Int) (QF : Hp → Prop) (E : XK) (Pr : Hp → Prop) (x en : Addr) (c hh : Nat) (W : Wt) : Prop := ∀ (k : Nat) (H : Hp) (n : Int) (frs : List Fr) (outs wnds : List V), Bg A m f lo lw H0 B H x en n frs outs wnds → ((frs.length + hh : Nat) : Int) ≤ B → Pr H →
  (∀ v H', Kx m f lo lw H H' → VAt A H' v W → Bq A m f lo lw H0 B H' v (n + c) frs outs wnds → KB A m QF E k frs.length H') → Go A m QF E (k + c) H
section
variable {A : Ad} {m f lo lw : Addr} {H0 : Hp} {B : Int} {QF : Hp → Prop} {E : XK} {Pr : Hp → Prop} {x en : Addr}
theorem VAt.kx {H H' : Hp} {s : MSt} {frs : List Fr} {outs wnds : List V} {v : V} {W : Wt} (S : Stat A m f lo lw H0) (c : Cf A m f lo lw H0 B H s frs outs wnds) (k : Kx m f lo lw H H') (h : VAt A H v W) : VAt A H' v W := h.keep fun x C dx fs hC e => c.ki S k (by
  rcases hC with rfl | rfl | rfl
  · exact .inr (.inl rfl)
  · exact .inr (.inr (.inr (.inr (.inl rfl))))
  · exact .inr (.inr (.inr (.inr (.inr rfl))))) e
theorem ev_num {i : Int} (S : Stat A m f lo lw H0) (h : PTr A.pl H0 x (dNum i)) : Ev A m f lo lw H0 B QF E Pr x en 1 0 (.int i) := by
  intro k H n frs outs wnds b hB _ q
  obtain ⟨t, lp, vs, a, pz, ht, hd⟩ := ptr0 h rfl
  cases hd with
  | cons h1 h2 =>
  cases h1
  cases h2
  refine go_act S b (by omega) pz (by decide) (by decide) fun H2 s tw k2 nx => ⟨_, _, _, nx.cf.t0 S ht, gv_q S nx.cf fun H' k3 b' => ?_⟩
  rw [nx.sn] at b'
  exact q _ H' (k2.trans k3) (.int i) b'
theorem ev_text {z : Str} (S : Stat A m f lo lw H0) (h : PTr A.pl H0 x (dText z)) : Ev A m f lo lw H0 B QF E Pr x en 1 0 (.str z) := by
  intro k H n frs outs wnds b hB _ q
  obtain ⟨t, lp, vs, a, pz, ht, hd⟩ := ptr0 h rfl
  cases hd with
  | cons h1 h2 =>
  cases h1
  cases h2
  refine go_act S b (by omega) pz (by decide) (by decide) fun H2 s tw k2 nx => ⟨_, _, _, nx.cf.t0 S ht, gv_q S nx.cf fun H' k3 b' => ?_⟩
  rw [nx.sn] at b'
  exact q _ H' (k2.trans k3) (.str z) b'
theorem ev_yes (S : Stat A m f lo lw H0) (h : PTr A.pl H0 x dYes) : Ev A m f lo lw H0 B QF E Pr x en 1 0 (.bl true) := by
  intro k H n frs outs wnds b hB _ q
  obtain ⟨t, lp, vs, a, pz, ht, hd⟩ := ptr0 h rfl
  refine go_act S b (by omega) pz (by decide) (by decide) fun H2 s tw k2 nx => gv_q S nx.cf fun H' k3 b' => ?_
  rw [nx.sn] at b'
  exact q _ H' (k2.trans k3) (.bl true) b'
theorem ev_none (S : Stat A m f lo lw H0) (h : PTr A.pl H0 x dNone) : Ev A m f lo lw H0 B QF E Pr x en 1 0 .non := by
  intro k H n frs outs wnds b hB _ q
  obtain ⟨t, lp, vs, a, pz, ht, hd⟩ := ptr0 h rfl
  refine go_act S b (by omega) pz (by decide) (by decide) fun H2 s tw k2 nx => gv_q S nx.cf fun H' k3 b' => ?_
  rw [nx.sn] at b'
  exact q _ H' (k2.trans k3) .non b'
theorem ev_name {z : Str} {W : Wt} (S : Stat A m f lo lw H0) (h : PTr A.pl H0 x (dName z)) (hP : Stb A m f lo lw H0 B Pr) (hv : ∀ H, Pr H → ∃ kvs v, H en = some (.dK kvs) ∧ valV kvs (Sum.inr z) = some v ∧ VAt A H v W) : Ev A m f lo lw H0 B QF E Pr x en 1 0 W := by
  intro k H n frs outs wnds b hB pr q
  obtain ⟨t, lp, vs, a, pz, ht, hd⟩ := ptr0 h rfl
  cases hd with
  | cons h1 h2 =>
  cases h1
  cases h2
  have b0 := b
  obtain ⟨s0, c0, _⟩ := b0
  refine go_act S b (by omega) pz (by decide) (by decide) fun H2 s tw k2 nx => ?_
  obtain ⟨kvs, v, he, hv', hva⟩ := hv H2 (hP _ _ _ _ _ _ c0 k2 pr)
  refine ⟨_, _, _, kvs, v, nx.cf.t0 S ht, he, hv', gv_q S nx.cf fun H' k3 b' => ?_⟩
  rw [nx.sn] at b'
  exact q _ H' (k2.trans k3) (hva.kx S nx.cf k3) b'
/-- what an op's last part brings about -/
theorem op_done {w : Str} {Ws : List Wt} {W : Wt} {H : Hp} {s : MSt} {frs : List Fr} {outs wnds : List V} {k l : Nat} {x en tw t lp : Addr} {z : Str} {wt : Int} {r : V} {ws : List V} (S : Stat A m f lo lw H0) (c : Cf A m f lo lw H0 B H s frs outs wnds) (ht : H t = some (.tup [.str "op", .str w, r])) (ho : OpE A m w Ws W) (hv : VL A H ws Ws)
    (q : ∀ v H', Kx m f lo lw H H' → VAt A H' v W → Bq A m f lo lw H0 B H' v s.stp frs outs wnds → KB A m QF E k l H') : cOp (spT A) A m x en tw s ws t z lp wt H (fun _ H' => KB A m QF E k l H') E := by
  refine ⟨_, w, _, ht, fun l1 H1 s1 nl h1 => ho H1 E _ l1 ws h1 (hv.same s1) fun u p H2 s2 hp hu => ?_⟩
  have c2 := (c.same s1).same s2
  refine ⟨p, "worth", u, rfl, hp, c2.ma, (fun z => absurd z (by decide)), fun _ => gv_q S c2 fun H' k3 b' => ?_⟩
  exact q _ H' (((Kx.same s1).trans (Kx.same s2)).trans k3) (hu.kx S c2 k3) b'
theorem ev_op1 {w : Str} {d : PyData} {c1 h1 : Nat} {W1 W : Wt} (S : Stat A m f lo lw H0) (h : PTr A.pl H0 x (dOp1 w d)) (e1 : ∀ y, PTr A.pl H0 y d → Ev A m f lo lw H0 B QF E Pr y en c1 h1 W1) (hP : Stb A m f lo lw H0 B Pr) (ho : OpE A m w [W1] W) : Ev A m f lo lw H0 B QF E Pr x en (c1 + 1) (h1 + 1) W := by
  intro k H n frs outs wnds b hB pr q
  obtain ⟨t, lp, vs, a, y1, pz, ht, hd, hlp, p1⟩ := ptr1 h rfl
  cases hd with
  | cons hd1 hd2 =>
  cases hd1
  cases hd2 with
  | cons hd3 hd4 =>
  cases hd4
  obtain ⟨s0, cf0, _⟩ := id b
  refine go_wait (k := k + c1) S b (by omega) pz (by decide) hlp rfl fun H1 k1 b1 => ?_
  refine e1 y1 p1 k H1 _ _ _ _ b1 (by rw [List.length_cons]; omega) (hP _ _ _ _ _ _ cf0 k1 pr) fun v1 H2 k2 hv1 b2 => ?_
  obtain ⟨s2, cf2, _⟩ := id b2
  refine kb_act S b2 pz (by show 0 ≤ 100; decide) (by show ¬ ((0 + 1 : Nat) : Int) < waitsW "op" 1; decide) (by decide) fun H3 s tw k3 nx => ?_
  refine op_done (x := x) (en := en) (tw := tw) (z := "op") (lp := lp) (wt := 0) S nx.cf (nx.cf.t0 S ht) ho (.cons (hv1.kx S cf2 k3) .nil) fun v H4 k4 hv b4 => ?_
  rw [nx.sn] at b4
  have e : n + 1 + (c1 : Int) = n + ((c1 + 1 : Nat) : Int) := by omega
  rw [e] at b4
  exact q v H4 (((k1.trans k2).trans k3).trans k4) hv b4
theorem ev_op2 {w : Str} {d1 d2 : PyData} {c1 c2 h1 h2 : Nat} {W1 W2 W : Wt} (S : Stat A m f lo lw H0) (h : PTr A.pl H0 x (dOp2 w d1 d2)) (e1 : ∀ y, PTr A.pl H0 y d1 → Ev A m f lo lw H0 B QF E Pr y en c1 h1 W1) (e2 : ∀ y, PTr A.pl H0 y d2 → Ev A m f lo lw H0 B QF E Pr y en c2 h2 W2) (hP : Stb A m f lo lw H0 B Pr) (ho : OpE A m w [W1, W2] W) : Ev A m f lo lw H0 B QF E Pr x en (c1 + c2 + 1) (max h1 h2 + 1) W := by
  intro k H n frs outs wnds b hB pr q
  obtain ⟨t, lp, vs, a, y1, y2, pz, ht, hd, hlp, p1, p2⟩ := ptr2 h rfl
  cases hd with
  | cons hd1 hd2 =>
  cases hd1
  cases hd2 with
  | cons hd3 hd4 =>
  cases hd4
  obtain ⟨s0, cf0, _⟩ := id b
  have m1 : h1 ≤ max h1 h2 := Nat.le_max_left _ _
  have m2 : h2 ≤ max h1 h2 := Nat.le_max_right _ _
  have ek : k + (c1 + c2 + 1) = (k + c2 + c1) + 1 := by omega
  rw [ek]
  refine go_wait S b (by omega) pz (by decide) hlp rfl fun H1 k1 b1 => ?_
  refine e1 y1 p1 (k + c2) H1 _ _ _ _ b1 (by rw [List.length_cons]; omega) (hP _ _ _ _ _ _ cf0 k1 pr) fun v1 H2 k2 hv1 b2 => ?_
  obtain ⟨s2, cf2, _⟩ := id b2
  refine kb_next S b2 pz (by show 0 ≤ 100; decide) (by show ((0 + 1 : Nat) : Int) < waitsW "op" 2; decide) hlp rfl fun H3 k3 b3 => ?_
  obtain ⟨s3, cf3, _⟩ := id b3
  refine e2 y2 p2 k H3 _ _ _ _ b3 (by rw [List.length_cons]; omega) (hP _ _ _ _ _ _ cf0 ((k1.trans k2).trans k3) pr) fun v2 H4 k4 hv2 b4 => ?_
  obtain ⟨s4, cf4, _⟩ := id b4
  have hv1' := (hv1.kx S cf2 k3).kx S cf3 k4
  refine kb_act S b4 pz (by show 1 ≤ 100; decide) (by show ¬ ((1 + 1 : Nat) : Int) < waitsW "op" 2; decide) (by decide) fun H5 s tw k5 nx => ?_
  refine op_done (x := x) (en := en) (tw := tw) (z := "op") (lp := lp) (wt := 0) S nx.cf (nx.cf.t0 S ht) ho (.cons (hv1'.kx S cf4 k5) (.cons (hv2.kx S cf4 k5) .nil)) fun v H6 k6 hv b6 => ?_
  rw [nx.sn] at b6
  have e : n + 1 + (c1 : Int) + (c2 : Int) = n + ((c1 + c2 + 1 : Nat) : Int) := by omega
  rw [e] at b6
  exact q v H6 (((((k1.trans k2).trans k3).trans k4).trans k5).trans k6) hv b6
end
end Wp
set_option Elab.async false
set_option linter.all false
set_option maxRecDepth 100000
set_option maxHeartbeats 1000000
namespace Wp
open PySem PySem.Spec PyProof.Rows L2
abbrev dEnd (d : PyData) : PyData := dOp2 "pair" (dText "worth") d
abbrev dWound (b : Int) : PyData := dOp2 "wound" (dText "in") (dNum b)
abbrev dCells (a b : Int) : PyData := dLet "c" (.tuple [.str "cell", dNum a]) (dLet "q" (.tuple [.str "set", dName "c", dNum b]) (.tuple [.str "get", dName "c"]))
section
variable {A : Ad} {m f lo lw : Addr} {H0 : Hp} {B : Int} {QF : Hp → Prop} {E : XK} {Pr : Hp → Prop} {x en : Addr}
theorem let_done {z : Str} {H : Hp} {s : MSt} {frs : List Fr} {outs wnds : List V} {k l : Nat} {x en tw t lp p1 : Addr} {zz : Str} {wt : Int} {r : List V} {c0 v : V} {kvs : List (Key × V)} (S : Stat A m f lo lw H0) (c : Cf A m f lo lw H0 B H s frs outs wnds) (ht : H t = some (.tup (.str "let" :: .str z :: r))) (he : H en = some (.dK kvs)) (hk : kvs.length ≤ 500) (hlp : H lp = some (.lst [c0, .ref p1]))
    (q : ∀ p H', Kx m f lo lw H H' → H p = none → H' p = some (.dK (putK kvs (Sum.inr z) v)) → Bg A m f lo lw H0 B H' p1 p s.stp frs outs wnds → Go A m QF E k H') : cLet A m x en tw s [v] t zz lp wt H (fun _ H' => KB A m QF E k l H') E := by
  refine ⟨_, z, _, kvs, v, [], c0, p1, ht, he, hk, rfl, hlp, fun p H1 s1 np hp => bg_q S (c.same s1) fun H' k2 b => ?_⟩
  have c1 := c.same s1
  exact q p H' ((Kx.same s1).trans k2) np (c1.kd k2 hp) b
/-- an env that is known, and what else stays -/
def PrE (en : Addr) (kvs : List (Key × V)) (H : Hp) : Prop := H en = some (.dK kvs)
theorem stb_e {kvs : List (Key × V)} : Stb A m f lo lw H0 B (PrE en kvs) := fun H H' s frs outs wnds c k h => c.kd k h
theorem stb_and {P1 P2 : Hp → Prop} (h1 : Stb A m f lo lw H0 B P1) (h2 : Stb A m f lo lw H0 B P2) : Stb A m f lo lw H0 B (fun H => P1 H ∧ P2 H) := fun H H' s frs outs wnds c k h => ⟨h1 _ _ _ _ _ _ c k h.1, h2 _ _ _ _ _ _ c k h.2⟩
theorem stb_v {v : V} {W : Wt} (S : Stat A m f lo lw H0) : Stb A m f lo lw H0 B (fun H => VAt A H v W) := fun H H' s frs outs wnds c k h => h.kx S c k
theorem Ev.pr {P1 P2 : Hp → Prop} {c hh : Nat} {W : Wt} (h : Ev A m f lo lw H0 B QF E P2 x en c hh W) (i : ∀ H, P1 H → P2 H) : Ev A m f lo lw H0 B QF E P1 x en c hh W := fun k H n frs outs wnds b hB p q => h k H n frs outs wnds b hB (i H p) q
theorem ev_let {z : Str} {d1 d2 : PyData} {c1 c2 h1 h2 : Nat} {W1 W : Wt} {kvs : List (Key × V)} (S : Stat A m f lo lw H0) (h : PTr A.pl H0 x (dLet z d1 d2)) (hk : kvs.length ≤ 500) (e1 : ∀ y, PTr A.pl H0 y d1 → Ev A m f lo lw H0 B QF E (PrE en kvs) y en c1 h1 W1)
    (e2 : ∀ y p v, PTr A.pl H0 y d2 → Ev A m f lo lw H0 B QF E (fun H => PrE p (putK kvs (Sum.inr z) v) H ∧ VAt A H v W1) y p c2 h2 W) : Ev A m f lo lw H0 B QF E (PrE en kvs) x en (c1 + c2 + 1) (max (h1 + 1) h2) W := by
  intro k H n frs outs wnds b hB pr q
  obtain ⟨t, lp, vs, a, y1, y2, pz, ht, hd, hlp, p1, p2⟩ := ptr2 h rfl
  cases hd with
  | cons hd1 hd2 =>
  cases hd1
  obtain ⟨s0, cf0, _⟩ := id b
  have m1 : h1 + 1 ≤ max (h1 + 1) h2 := Nat.le_max_left _ _
  have m2 : h2 ≤ max (h1 + 1) h2 := Nat.le_max_right _ _
  have ek : k + (c1 + c2 + 1) = (k + c2 + c1) + 1 := by omega
  rw [ek]
  refine go_wait S b (by omega) pz (by decide) hlp rfl fun H1 k1 b1 => ?_
  refine e1 y1 p1 (k + c2) H1 _ _ _ _ b1 (by rw [List.length_cons]; omega) (cf0.kd k1 pr) fun v1 H2 k2 hv1 b2 => ?_
  obtain ⟨s2, cf2, _⟩ := id b2
  refine kb_act S b2 pz (by show 0 ≤ 100; decide) (by show ¬ ((0 + 1 : Nat) : Int) < waitsW "let" 2; decide) (by decide) fun H3 s tw k3 nx => ?_
  refine let_done (x := x) (en := en) (tw := tw) (zz := "let") (lp := lp) (wt := 0) S nx.cf (nx.cf.t0 S ht) (cf0.kd ((k1.trans k2).trans k3) pr) hk (nx.cf.l0 S hlp) fun p H4 k4 np hp b4 => ?_
  rw [nx.sn] at b4
  refine e2 y2 p v1 p2 k H4 _ _ _ _ b4 (by omega) ⟨hp, (hv1.kx S cf2 k3).kx S nx.cf k4⟩ fun v H5 k5 hv b5 => ?_
  have e : n + 1 + (c1 : Int) + (c2 : Int) = n + ((c1 + c2 + 1 : Nat) : Int) := by omega
  rw [e] at b5
  exact q v H5 ((((k1.trans k2).trans k3).trans k4).trans k5) hv b5
/-! ### the row of winders -/
inductive WL (H : Hp) : List V → List (Str × Int) → Prop
  | nil : WL H [] []
  | cons {t : Addr} {vs : List V} {z : Str} {i : Int} {L : List (Str × Int)} : H t = some (.tup [.str z, .int i]) → WL H vs L → WL H (.ref t :: vs) ((z, i) :: L)
theorem WL.tp {H H' : Hp} {vs : List V} {L : List (Str × Int)} (h : WL H vs L) (k : Tp H H') : WL H' vs L := by
  induction h with
  | nil => exact .nil
  | cons h _ ih => exact .cons (k _ _ h) ih
def EvT (A : Ad) (m f lo lw : Addr) (H0 : Hp) (B : Int) (QF : Hp → Prop) (E : XK) (Pr : Hp → Prop) (x en : Addr) (c hh : Nat) (W : Wt) (L : List (Str × Int)) : Prop := ∀ (k : Nat) (H : Hp) (n : Int) (frs : List Fr) (outs : List V), Bg A m f lo lw H0 B H x en n frs outs [] → ((frs.length + hh : Nat) : Int) ≤ B → Pr H →
  (∀ v H' wnds', Kx m f lo lw H H' → VAt A H' v W → WL H' wnds' L → Bq A m f lo lw H0 B H' v (n + c) frs outs wnds' → KB A m QF E k frs.length H') → Go A m QF E (k + c) H
theorem Ev.t {c hh : Nat} {W : Wt} (h : Ev A m f lo lw H0 B QF E Pr x en c hh W) : EvT A m f lo lw H0 B QF E Pr x en c hh W [] := fun k H n frs outs b hB p q => h k H n frs outs [] b hB p fun v H' k1 hv b1 => q v H' [] k1 hv .nil b1
theorem ev_wound {b : Int} (S : Stat A m f lo lw H0) (h : PTr A.pl H0 x (dWound b)) (hP : Stb A m f lo lw H0 B Pr) : EvT A m f lo lw H0 B QF E Pr x en 3 1 .non [("in", b)] := by
  intro k H n frs outs b0 hB pr q
  obtain ⟨t, lp, vs, a, y1, y2, pz, ht, hd, hlp, p1, p2⟩ := ptr2 h rfl
  cases hd with
  | cons hd1 hd2 =>
  cases hd1
  cases hd2 with
  | cons hd3 hd4 =>
  cases hd4
  obtain ⟨s0, cf0, _⟩ := id b0
  refine go_wait (k := k + 1 + 1) S b0 (by omega) pz (by decide) hlp rfl fun H1 k1 b1 => ?_
  refine ev_text (Pr := Pr) S p1 (k + 1) H1 _ _ _ _ b1 (by rw [List.length_cons]; omega) (hP _ _ _ _ _ _ cf0 k1 pr) fun v1 H2 k2 hv1 b2 => ?_
  cases hv1
  refine kb_next S b2 pz (by show 0 ≤ 100; decide) (by show ((0 + 1 : Nat) : Int) < waitsW "op" 2; decide) hlp rfl fun H3 k3 b3 => ?_
  refine ev_num (Pr := Pr) S p2 k H3 _ _ _ _ b3 (by rw [List.length_cons]; omega) (hP _ _ _ _ _ _ cf0 ((k1.trans k2).trans k3) pr) fun v2 H4 k4 hv2 b4 => ?_
  cases hv2
  refine kb_act S b4 pz (by show 1 ≤ 100; decide) (by show ¬ ((1 + 1 : Nat) : Int) < waitsW "op" 2; decide) (by decide) fun H5 s tw k5 nx => ?_
  refine ⟨_, "wound", _, nx.cf.t0 S ht, fun l1 H6 s1 nl h1 => ?_⟩
  have c6 := nx.cf.same s1
  refine ⟨m, _, l1, _, rfl, h1, .inl ⟨by decide, ?_⟩⟩
  refine ⟨m, "in", b, s, [], rfl, .inl rfl, c6.ma, by rw [c6.slw]; exact c6.hw, by decide, fun t1 H7 g7 hw7 ht7 p H8 s8 np hp => ?_⟩
  rw [c6.slw] at g7 hw7
  have kk : Kx m f lo lw H6 H7 := fun b o _ _ _ n4 e => g7 _ _ n4 e
  obtain ⟨dm, hmm⟩ := id c6.ma
  have nml : m ≠ lw := ne_of hmm c6.hw (by intro z; cases z)
  have nfl : f ≠ lw := fun z => by
    obtain ⟨df, v, hff, _⟩ := c6.fs
    rw [z, c6.hw] at hff
    cases hff
  have c7 : Cf A m f lo lw H0 B H7 s frs outs [.ref t1] := by
    obtain ⟨df, v, hff, hch⟩ := id c6.fs
    refine ⟨fun b o n1 n2 e => g7 _ _ (ne_of_none e S.nlw) (c6.k0 _ _ n1 n2 e), ⟨dm, g7 _ _ nml hmm⟩, c6.sf, c6.slo, c6.slw, ⟨df, v, g7 _ _ nfl hff, hch.keep (fun b _ _ e => g7 _ _ (ne_of e c6.hw (by intro z; cases z)) e) (fun b _ e => g7 _ _ (ne_of e c6.hw (by intro z; cases z)) e)⟩, g7 _ _ S.ne c6.ho, hw7, c6.hb⟩
  have c8 := c7.same s8
  refine ⟨p, "worth", .non, rfl, hp, c8.ma, (fun z => absurd z (by decide)), fun _ => gv_q S c8 fun H9 k9 b9 => ?_⟩
  rw [nx.sn] at b9
  have e : n + 1 + ((1 : Nat) : Int) + ((1 : Nat) : Int) = n + ((3 : Nat) : Int) := by omega
  rw [e] at b9
  exact q .non H9 [.ref t1] ((((((k1.trans k2).trans k3).trans k4).trans k5).trans (Kx.same s1)).trans (kk.trans ((Kx.same s8).trans k9))) .non (.cons (c8.kt k9 (s8 _ _ ht7)) .nil) b9
end
end Wp
set_option Elab.async false
set_option linter.all false
set_option maxRecDepth 100000
set_option maxHeartbeats 1000000
namespace Wp
open PySem PySem.Spec PyProof.Rows L2
theorem valV_putK (kvs : List (Key × V)) (k : Key) (v : V) : valV (putK kvs k v) k = some v := by rw [valV_put, if_pos rfl]
theorem valV_putK_ne {kvs : List (Key × V)} {k j : Key} {v : V} (h : j ≠ k) : valV (putK kvs k v) j = valV kvs j := by rw [valV_put, if_neg h]
section
variable {A : Ad} {m f lo lw : Addr} {H0 : Hp} {B : Int} {QF : Hp → Prop} {E : XK} {Pr : Hp → Prop} {x en : Addr}
/-- a cell that is written -/
theorem Cf.cell {H : Hp} {s : MSt} {frs : List Fr} {outs wnds : List V} {cx dxc : Addr} {fs fs' : List (Str × V)} (S : Stat A m f lo lw H0) (hno : A.no ≠ A.ce) (c : Cf A m f lo lw H0 B H s frs outs wnds) (h : H cx = some (.ins A.ce dxc fs)) (h0 : H0 cx = none) : Cf A m f lo lw H0 B (upd H cx (.ins A.ce dxc fs')) s frs outs wnds := by
  obtain ⟨n1, n2, n3, n4⟩ := c.ne4 h (fun C' _ _ z => by cases z; exact S.oc _ (.inr (.inr (.inr (.inl rfl))))) (fun _ z => by cases z)
  obtain ⟨dm, hm⟩ := c.ma
  obtain ⟨df, v, hf, hch⟩ := c.fs
  refine ⟨fun b o e1 e2 e => by rw [upd_ne (ne_of_none e h0)]; exact c.k0 _ _ e1 e2 e, ⟨dm, by rw [upd_ne n1.symm]; exact hm⟩, c.sf, c.slo, c.slw, ⟨df, v, by rw [upd_ne n2.symm]; exact hf, hch.keep (fun b _ _ e => ?_) fun b _ e => ?_⟩, by rw [upd_ne n3.symm]; exact c.ho, by rw [upd_ne n4.symm]; exact c.hw, c.hb⟩
  · rw [upd_ne (fun z => by rw [z, h] at e; exact hno (HO.ins.inj (Option.some.inj e)).1.symm)]
    exact e
  · rw [upd_ne (ne_of e h (by intro z; cases z))]
    exact e
theorem ev_cells {a b : Int} {kvs : List (Key × V)} (S : Stat A m f lo lw H0) (hno : A.no ≠ A.ce) (h : PTr A.pl H0 x (dCells a b)) (hk : kvs.length ≤ 400) : Ev A m f lo lw H0 B QF E (PrE en kvs) x en 9 2 (.int b) := by
  intro k H n frs outs wnds b0 hB pr q
  obtain ⟨t, lp, vs, a1, y1, y2, pz, ht, hd, hlp, p1, p2⟩ := ptr2 h rfl
  cases hd with
  | cons hd1 hd2 =>
  cases hd1
  obtain ⟨t1, lp1, vs1, a2, ya, pz1, ht1, hd1, hlp1, pa⟩ := ptr1 p1 rfl
  obtain ⟨t2, lp2, vs2, a3, y3, y4, pz2, ht2, hd2, hlp2, p3, p4⟩ := ptr2 p2 rfl
  cases hd2 with
  | cons hd21 hd22 =>
  cases hd21
  obtain ⟨t3, lp3, vs3, a4, y5, y6, pz3, ht3, hd3, hlp3, p5, p6⟩ := ptr2 p3 rfl
  obtain ⟨t5, lp5, vs5, a6, pz5, ht5, hd5⟩ := ptr0 p5 rfl
  cases hd5 with
  | cons hd51 hd52 =>
  cases hd51
  cases hd52
  obtain ⟨t4, lp4, vs4, a5, y7, pz4, ht4, hd4, hlp4, p7⟩ := ptr1 p4 rfl
  obtain ⟨t7, lp7, vs7, a7, pz7, ht7, hd7⟩ := ptr0 p7 rfl
  cases hd7 with
  | cons hd71 hd72 =>
  cases hd71
  cases hd72
  obtain ⟨s0, cf0, _⟩ := id b0
  refine go_wait (k := k + 8) S b0 (by omega) pz (by decide) hlp rfl fun H1 k1 b1 => ?_
  refine go_wait (k := k + 7) S b1 (by rw [List.length_cons]; omega) pz1 (by decide) hlp1 rfl fun H2 k2 b2 => ?_
  refine ev_num (Pr := fun _ => True) S pa (k + 6) H2 _ _ _ _ b2 (by simp only [List.length_cons]; omega) True.intro fun v3 H3 k3 hv3 b3 => ?_
  cases hv3
  have k123 := (k1.trans k2).trans k3
  refine kb_act S b3 pz1 (by show 0 ≤ 100; decide) (by show ¬ ((0 + 1 : Nat) : Int) < waitsW "cell" 1; decide) (by decide) fun H4 s4 tw4 k4 nx4 => ?_
  refine ⟨.int a, [], rfl, fun cx dxc H5 n1 n2 n3 hcx s5 h5 => ?_⟩
  have c5 := nx4.cf.same s5
  refine ⟨c5.ma, gv_q S c5 fun H6 k6 b6 => ?_⟩
  have hcx0 : H0 cx = none := by
    cases e : H0 cx with
    | none => rfl
    | some o =>
      obtain ⟨dm, hm⟩ := nx4.cf.ma
      obtain ⟨df, v, hf, _⟩ := nx4.cf.fs
      rw [nx4.cf.k0 _ _ (fun z => by rw [z, hm] at n1; cases n1) (fun z => by rw [z, hf] at n1; cases n1) e] at n1
      cases n1
  have hcxH : ∀ b o, H b = some o → b ≠ m → b ≠ f → b ≠ lo → b ≠ lw → b ≠ cx := fun b o e m1 m2 m3 m4 z => by
    have := (k123.trans k4) b o m1 m2 m3 m4 e
    rw [z, n1] at this
    cases this
  have hcx6 := c5.ki S k6 (.inr (.inr (.inr (.inl rfl)))) hcx
  obtain ⟨s6, cf6, _⟩ := id b6
  have kA := (k123.trans k4).trans ((Kx.same s5).trans k6)
  rw [nx4.sn] at b6
  refine kb_act S b6 pz (by show 0 ≤ 100; decide) (by show ¬ ((0 + 1 : Nat) : Int) < waitsW "let" 2; decide) (by decide) fun H7 s7 tw7 k7 nx7 => ?_
  have hcx7 := cf6.ki S k7 (.inr (.inr (.inr (.inl rfl)))) hcx6
  refine let_done (x := x) (en := en) (tw := tw7) (zz := "let") (lp := lp) (wt := 0) S nx7.cf (nx7.cf.t0 S ht) (cf0.kd (kA.trans k7) pr) (by omega) (nx7.cf.l0 S hlp) fun pe1 H8 k8 np8 hp8 b8 => ?_
  have hcx8 := nx7.cf.ki S k8 (.inr (.inr (.inr (.inl rfl)))) hcx7
  rw [nx7.sn] at b8
  obtain ⟨s8, cf8, _⟩ := id b8
  refine go_wait (k := k + 5) S b8 (by omega) pz2 (by decide) hlp2 rfl fun H9 k9 b9 => ?_
  refine go_wait (k := k + 4) S b9 (by rw [List.length_cons]; omega) pz3 (by decide) hlp3 rfl fun H10 k10 b10 => ?_
  obtain ⟨s10, cf10, _⟩ := id b10
  have k8_10 := k9.trans k10
  have hp10 := cf8.kd k8_10 hp8
  have hcx10 := cf8.ki S k8_10 (.inr (.inr (.inr (.inl rfl)))) hcx8
  refine go_act (k := k + 3) S b10 (by simp only [List.length_cons]; omega) pz5 (by decide) (by decide) fun H11 s11 tw11 k11 nx11 => ?_
  have hp11 := cf10.kd k11 hp10
  have hcx11 := cf10.ki S k11 (.inr (.inr (.inr (.inl rfl)))) hcx10
  refine ⟨_, "c", _, _, .ref cx, nx11.cf.t0 S ht5, hp11, valV_putK _ _ _, gv_q S nx11.cf fun H12 k12 b12 => ?_⟩
  have hp12 := nx11.cf.kd k12 hp11
  have hcx12 := nx11.cf.ki S k12 (.inr (.inr (.inr (.inl rfl)))) hcx11
  obtain ⟨s12, cf12, _⟩ := id b12
  rw [nx11.sn] at b12
  refine kb_next S b12 pz3 (by show 0 ≤ 100; decide) (by show ((0 + 1 : Nat) : Int) < waitsW "set" 2; decide) hlp3 rfl fun H13 k13 b13 => ?_
  obtain ⟨s13, cf13, _⟩ := id b13
  refine ev_num (Pr := fun _ => True) S p6 (k + 2) H13 _ _ _ _ b13 (by simp only [List.length_cons]; omega) True.intro fun v14 H14 k14 hv14 b14 => ?_
  cases hv14
  obtain ⟨s14, cf14, _⟩ := id b14
  refine kb_act S b14 pz3 (by show 1 ≤ 100; decide) (by show ¬ ((1 + 1 : Nat) : Int) < waitsW "set" 2; decide) (by decide) fun H15 s15 tw15 k15 nx15 => ?_
  have hp15 := cf14.kd k15 (cf13.kd k14 (cf12.kd k13 hp12))
  have hcx15 := cf14.ki S k15 (.inr (.inr (.inr (.inl rfl)))) (cf13.ki S k14 (.inr (.inr (.inr (.inl rfl)))) (cf12.ki S k13 (.inr (.inr (.inr (.inl rfl)))) hcx12))
  have cfc : Cf A m f lo lw H0 B (upd H15 cx (.ins A.ce dxc [("held", .int b)])) s15 _ outs wnds := nx15.cf.cell S hno hcx15 hcx0
  have hpc : upd H15 cx (.ins A.ce dxc [("held", .int b)]) pe1 = _ := (upd_ne (ne_of hp15 hcx15 (by intro z; cases z))).trans hp15
  have hcc : upd H15 cx (.ins A.ce dxc [("held", .int b)]) cx = some (.ins A.ce dxc [("held", .int b)]) := upd_same
  have kB : Kx m f lo lw H (upd H15 cx (.ins A.ce dxc [("held", .int b)])) := fun b1 o m1 m2 m3 m4 e => by
    rw [upd_ne (hcxH b1 o e m1 m2 m3 m4)]
    exact (((((((kA.trans k7).trans k8).trans k8_10).trans k11).trans k12).trans k13).trans (k14.trans k15)) b1 o m1 m2 m3 m4 e
  refine ⟨.ref cx, .int b, .cell, rfl, .cell hcx15, fun z => absurd rfl z, fun _ => ⟨cx, dxc, _, rfl, hcx15, ?_⟩⟩
  generalize upd H15 cx (.ins A.ce dxc [("held", .int b)]) = H16 at cfc hpc hcc kB ⊢
  refine gv_q S cfc fun H17 k17 b17 => ?_
  have hp17 := cfc.kd k17 hpc
  have hcx17 := cfc.ki S k17 (.inr (.inr (.inr (.inl rfl)))) hcc
  obtain ⟨s17, cf17, _⟩ := id b17
  rw [nx15.sn] at b17
  refine kb_act S b17 pz2 (by show 0 ≤ 100; decide) (by show ¬ ((0 + 1 : Nat) : Int) < waitsW "let" 2; decide) (by decide) fun H18 s18 tw18 k18 nx18 => ?_
  have hp18 := cf17.kd k18 hp17
  have hcx18 := cf17.ki S k18 (.inr (.inr (.inr (.inl rfl)))) hcx17
  refine let_done (x := y2) (en := pe1) (tw := tw18) (zz := "let") (lp := lp2) (wt := 0) S nx18.cf (nx18.cf.t0 S ht2) hp18 (by have := length_putK kvs (Sum.inr "c") (.ref cx); omega) (nx18.cf.l0 S hlp2) fun pe2 H19 k19 np19 hp19 b19 => ?_
  have hcx19 := nx18.cf.ki S k19 (.inr (.inr (.inr (.inl rfl)))) hcx18
  rw [nx18.sn] at b19
  obtain ⟨s19, cf19, _⟩ := id b19
  refine go_wait (k := k + 1) S b19 (by omega) pz4 (by decide) hlp4 rfl fun H20 k20 b20 => ?_
  obtain ⟨s20, cf20, _⟩ := id b20
  refine go_act S b20 (by rw [List.length_cons]; omega) pz7 (by decide) (by decide) fun H21 s21 tw21 k21 nx21 => ?_
  have hp21 := cf20.kd k21 (cf19.kd k20 hp19)
  have hcx21 := cf20.ki S k21 (.inr (.inr (.inr (.inl rfl)))) (cf19.ki S k20 (.inr (.inr (.inr (.inl rfl)))) hcx19)
  refine ⟨_, "c", _, _, .ref cx, nx21.cf.t0 S ht7, hp21, (valV_putK_ne (by decide)).trans (valV_putK _ _ _), gv_q S nx21.cf fun H22 k22 b22 => ?_⟩
  have hcx22 := nx21.cf.ki S k22 (.inr (.inr (.inr (.inl rfl)))) hcx21
  obtain ⟨s22, cf22, _⟩ := id b22
  rw [nx21.sn] at b22
  refine kb_act S b22 pz4 (by show 0 ≤ 100; decide) (by show ¬ ((0 + 1 : Nat) : Int) < waitsW "get" 1; decide) (by decide) fun H23 s23 tw23 k23 nx23 => ?_
  have hcx23 := cf22.ki S k23 (.inr (.inr (.inr (.inl rfl)))) hcx22
  refine ⟨.ref cx, [], .cell, rfl, .cell hcx23, fun z => absurd rfl z, fun _ => ⟨cx, dxc, .int b, rfl, hcx23, gv_q S nx23.cf fun H24 k24 b24 => ?_⟩⟩
  rw [nx23.sn] at b24
  have e : n + 1 + 1 + ((1 : Nat) : Int) + 1 + 1 + 1 + ((1 : Nat) : Int) + 1 + 1 = n + ((9 : Nat) : Int) := by omega
  rw [e] at b24
  exact q _ H24 (kB.trans (k17.trans (k18.trans (k19.trans (k20.trans (k21.trans (k22.trans (k23.trans k24)))))))) (.int b) b24
end
end Wp
set_option Elab.async false
set_option linter.all false
set_option maxRecDepth 100000
set_option maxHeartbeats 1000000
namespace Wp
open PySem PySem.Spec PyProof.Rows L2
/-! ### whole runs -/
abbrev inEnv (gv : V) : List (Key × V) := [(Sum.inr "input", gv)]
theorem stat_of {K : PySem.W.Frag} {A : Ad} {H H0 H' : Hp} {m f x en lo lw : Addr} {d : PyData} {gv : V} (T : AllC K A) (i : Ini A H m f x en lo lw d gv H0 H') : Stat A m f lo lw H0 := by
  have h := T.nd
  simp only [List.nodup_cons, List.mem_cons, not_or, List.not_mem_nil, List.nodup_nil, not_false_eq_true, and_true, or_false] at h
  obtain ⟨hpl, hpa, hfu, hce, hpo, hpt, hno, hfr⟩ := h
  refine ⟨hfr, hno.2, ?_, i.m0, i.f0, i.nlo, i.nlw, i.ne⟩
  rintro C (rfl | rfl | rfl | rfl | rfl | rfl)
  · exact ⟨hpl.2.2.2.2.2.2.2, hpl.2.2.2.2.2.2.1⟩
  · exact ⟨hpa.2.2.2.2.2.2, hpa.2.2.2.2.2.1⟩
  · exact ⟨hfu.2.2.2.2.2, hfu.2.2.2.2.1⟩
  · exact ⟨hce.2.2.2.2, hce.2.2.2.1⟩
  · exact ⟨hpo.2.2.2, hpo.2.2.1⟩
  · exact ⟨hpt.2.2, hpt.2.1⟩
theorem noce_of {K : PySem.W.Frag} {A : Ad} (T : AllC K A) : A.no ≠ A.ce := by
  have h := T.nd
  simp only [List.nodup_cons, List.mem_cons, not_or, List.not_mem_nil, List.nodup_nil, not_false_eq_true, and_true, or_false] at h
  obtain ⟨hpl, hpa, hfu, hce, hpo, hpt, hno, hfr⟩ := h
  exact fun z => hce.2.2.1 z.symm
theorem bg_of {A : Ad} {H H0 H' : Hp} {m f x en lo lw : Addr} {d : PyData} {gv : V} {B : Int} (i : Ini A H m f x en lo lw d gv H0 H') (hB : 0 ≤ B) : Bg A m f lo lw H0 B H' x en 0 [] [] [] := by
  refine ⟨s0M f x en lo lw, ⟨fun b o n1 _ e => i.k1 _ _ n1 e, i.ma, rfl, rfl, rfl, i.fs, i.lo, i.lw, hB⟩, rfl, rfl, rfl, rfl⟩
theorem same_of {A : Ad} {H H0 H' H2 : Hp} {m f x en lo lw : Addr} {d : PyData} {gv : V} (i : Ini A H m f x en lo lw d gv H0 H') (k : G2 m f H0 H2) : Same H H2 := fun b o e => k _ _ (ne_of_none e i.nm) (ne_of_none e i.nf) (i.k0 _ _ e)
theorem rt_good {K : PySem.W.Frag} {A : Ad} {H : Hp} {a : Addr} {tv gv : V} {most : Int} {d : PyData} {n c hh : Nat} {W : Wt} {L : List (Str × Int)} {Q : VK} {E : XK} (T : AllC K A) (hd : Dq a H tv (dEnd d)) (fm : Fm n (dEnd d)) (hn : n ≤ 100) (hcw : cw (dEnd d) ≤ 20000) (hm : ((c + 2 : Nat) : Int) < most) (hh1 : hh ≤ 90)
    (hev : ∀ m f lo lw H0 QF y en, Stat A m f lo lw H0 → PTr A.pl H0 y d → EvT A m f lo lw H0 100 QF E (PrE en (inEnv gv)) y en c hh W L)
    (q : ∀ r H3 v wnds hg, Same H H3 → ResAt A H3 r (.str "worth") v [] wnds (.int ((c + 2 : Nat) : Int)) (.int hg) → VAt A H3 v W → WL H3 wnds L → Q (.ref r) H3) : spRT A [tv, gv, .int most] H Q E := by
  refine ⟨a, tv, gv, most, dEnd d, n, rfl, hd, fm, hn, hcw, fun m f x en lo lw H0 H' QF ini hQF => ⟨c + 2, hm, ?_⟩⟩
  have S := stat_of T ini
  have b0 := bg_of (B := 100) ini (by decide)
  obtain ⟨s0, cf0, _⟩ := id b0
  obtain ⟨t, lp, vs, a1, y1, y2, pz, ht, hd', hlp, p1, p2⟩ := ptr2 ini.tr rfl
  cases hd' with
  | cons hd1 hd2 =>
  cases hd1
  cases hd2 with
  | cons hd3 hd4 =>
  cases hd4
  refine go_wait (k := c + 1) S b0 (by decide) pz (by decide) hlp rfl fun H1 k1 b1 => ?_
  refine ev_text (Pr := fun _ => True) S p1 c H1 _ _ _ _ b1 (by show ((1 + 0 : Nat) : Int) ≤ 100; decide) True.intro fun v1 H2 k2 hv1 b2 => ?_
  cases hv1
  refine kb_next S b2 pz (by show 0 ≤ 100; decide) (by show ((0 + 1 : Nat) : Int) < waitsW "op" 2; decide) hlp rfl fun H3 k3 b3 => ?_
  have ec : c = 0 + c := by omega
  rw [ec]
  refine hev m f lo lw H0 QF y2 en S p2 0 H3 _ _ _ b3 (by show ((1 + hh : Nat) : Int) ≤ 100; omega) (cf0.kd ((k1.trans k2).trans k3) ini.en) fun v H4 wnds' k4 hv wl b4 => ?_
  obtain ⟨s4, cf4, _⟩ := id b4
  refine kb_act S b4 pz (by show 1 ≤ 100; decide) (by show ¬ ((1 + 1 : Nat) : Int) < waitsW "op" 2; decide) (by decide) fun H5 s tw k5 nx => ?_
  refine op_done (x := x) (en := en) (tw := tw) (z := "op") (lp := lp) (wt := 0) S nx.cf (nx.cf.t0 S ht) (e_pair (.str "worth") W) (.cons (.str "worth") (.cons (hv.kx S cf4 k5) .nil)) fun u H6 k6 hu b6 => ?_
  rw [nx.sn] at b6
  cases hu with
  | @pair p dxp ua ub _ _ hp hua hub =>
  cases hua
  obtain ⟨s6, cf6, _⟩ := id b6
  refine kb_end S b6 fun H7 s7 k7 cf7 e1 e2 e3 e4 => hQF H7 ?_
  refine ⟨s7, p, dxp, ub, [], wnds', cf7.ma, e1, e2, e3, cf6.ki S k7 (.inr (.inl rfl)) hp, by rw [cf7.slo]; exact cf7.ho, by rw [cf7.slw]; exact cf7.hw, fun r H8 hr s8 => ?_⟩
  have es : s7.stp = ((c + 2 : Nat) : Int) := by
    rw [e4]
    omega
  rw [es] at hr
  exact q r H8 ub wnds' s7.hgt (fun b o e => s8 _ _ (same_of ini cf7.k0 _ _ e)) hr ((hub.kx S cf6 k7).same s8) (((wl.tp fun b xs e => nx.cf.kt k6 (cf4.kt k5 e)).tp fun b xs e => cf6.kt k7 e).tp fun b xs e => s8 _ _ e)
/-! ### runs that can't go on -/
def Stk (A : Ad) (m f lo lw : Addr) (H0 : Hp) (B : Int) (QF : Hp → Prop) (E : XK) (Pr : Hp → Prop) (x en : Addr) (c hh : Nat) : Prop := ∀ (k : Nat) (H : Hp) (n : Int) (frs : List Fr) (outs wnds : List V), Bg A m f lo lw H0 B H x en n frs outs wnds → ((frs.length + hh : Nat) : Int) ≤ B → Pr H → Go A m QF E (k + c) H
def HE (A : Ad) (m f : Addr) (H0 : Hp) (E : XK) : Prop := ∀ (H1 : Hp) (z : Str), G2 m f H0 H1 → StE A.sk H1 (.str z) E
abbrev dCall (d : PyData) (ds : List PyData) : PyData := .tuple [.str "call", d, .tuple ds]
abbrev dFun (ns : List Str) (d : PyData) : PyData := .tuple [.str "fun", .tuple (ns.map PyData.str), d]
theorem dql_strs {a : Addr} {H : Hp} : ∀ {vs : List V} {ns : List Str}, DqL a H vs (ns.map PyData.str) → vs = ns.map V.str
  | _, [], h => by cases h; rfl
  | _, n :: ns, h => by
    cases h with
    | cons h1 h2 =>
      cases h1
      rw [dql_strs h2]
      rfl
section
variable {A : Ad} {m f lo lw : Addr} {H0 : Hp} {B : Int} {QF : Hp → Prop} {E : XK} {Pr : Hp → Prop} {x en : Addr}
theorem stk_end {d : PyData} {c hh : Nat} (S : Stat A m f lo lw H0) (h : PTr A.pl H0 x (dEnd d)) (hP : Stb A m f lo lw H0 B Pr) (e : ∀ y, PTr A.pl H0 y d → Stk A m f lo lw H0 B QF E Pr y en c hh) : Stk A m f lo lw H0 B QF E Pr x en (c + 2) (hh + 1) := by
  intro k H n frs outs wnds b hB pr
  obtain ⟨t, lp, vs, a, y1, y2, pz, ht, hd, hlp, p1, p2⟩ := ptr2 h rfl
  obtain ⟨s0, cf0, _⟩ := id b
  have ek : k + (c + 2) = (k + c + 1) + 1 := by omega
  rw [ek]
  refine go_wait S b (by omega) pz (by decide) hlp rfl fun H1 k1 b1 => ?_
  refine ev_text (Pr := fun _ => True) S p1 (k + c) H1 _ _ _ _ b1 (by rw [List.length_cons]; omega) True.intro fun v1 H2 k2 hv1 b2 => ?_
  refine kb_next S b2 pz (by show 0 ≤ 100; decide) (by show ((0 + 1 : Nat) : Int) < waitsW "op" 2; decide) hlp rfl fun H3 k3 b3 => ?_
  exact e y2 p2 k H3 _ _ _ _ b3 (by rw [List.length_cons]; omega) (hP _ _ _ _ _ _ cf0 ((k1.trans k2).trans k3) pr)
theorem op_fault {w : Str} {Ws : List Wt} {H : Hp} {s : MSt} {frs : List Fr} {outs wnds : List V} {Q : VK} {x en tw t lp : Addr} {z : Str} {wt : Int} {r : V} {ws : List V} (he : HE A m f H0 E) (c : Cf A m f lo lw H0 B H s frs outs wnds) (ht : H t = some (.tup [.str "op", .str w, r])) (ho : OpF A m w Ws) (hv : VL A H ws Ws) : cOp (spT A) A m x en tw s ws t z lp wt H Q E := by
  obtain ⟨zz, ho⟩ := ho
  refine ⟨_, w, _, ht, fun l1 H1 s1 nl h1 => ho H1 E _ l1 ws h1 (hv.same s1) fun p H2 s2 hp => ?_⟩
  have c2 := (c.same s1).same s2
  exact ⟨p, "fault", .str zz, rfl, hp, c2.ma, fun _ => he H2 zz c2.k0, fun z => absurd rfl z⟩
theorem stk_op1 {w : Str} {d : PyData} {c1 h1 : Nat} {W1 : Wt} (S : Stat A m f lo lw H0) (he : HE A m f H0 E) (h : PTr A.pl H0 x (dOp1 w d)) (e1 : ∀ y, PTr A.pl H0 y d → Ev A m f lo lw H0 B QF E (fun _ => True) y en c1 h1 W1) (ho : OpF A m w [W1]) : Stk A m f lo lw H0 B QF E Pr x en (c1 + 1) (h1 + 1) := by
  intro k H n frs outs wnds b hB pr
  obtain ⟨t, lp, vs, a, y1, pz, ht, hd, hlp, p1⟩ := ptr1 h rfl
  cases hd with
  | cons hd1 hd2 =>
  cases hd1
  cases hd2 with
  | cons hd3 hd4 =>
  cases hd4
  refine go_wait (k := k + c1) S b (by omega) pz (by decide) hlp rfl fun H1 k1 b1 => ?_
  refine e1 y1 p1 k H1 _ _ _ _ b1 (by rw [List.length_cons]; omega) True.intro fun v1 H2 k2 hv1 b2 => ?_
  obtain ⟨s2, cf2, _⟩ := id b2
  refine kb_act S b2 pz (by show 0 ≤ 100; decide) (by show ¬ ((0 + 1 : Nat) : Int) < waitsW "op" 1; decide) (by decide) fun H3 s tw k3 nx => ?_
  exact op_fault (x := x) (en := en) (tw := tw) (z := "op") (lp := lp) (wt := 0) he nx.cf (nx.cf.t0 S ht) ho (.cons (hv1.kx S cf2 k3) .nil)
theorem stk_op2 {w : Str} {d1 d2 : PyData} {c1 c2 h1 h2 : Nat} {W1 W2 : Wt} (S : Stat A m f lo lw H0) (he : HE A m f H0 E) (h : PTr A.pl H0 x (dOp2 w d1 d2)) (e1 : ∀ y, PTr A.pl H0 y d1 → Ev A m f lo lw H0 B QF E (fun _ => True) y en c1 h1 W1) (e2 : ∀ y, PTr A.pl H0 y d2 → Ev A m f lo lw H0 B QF E (fun _ => True) y en c2 h2 W2) (ho : OpF A m w [W1, W2]) : Stk A m f lo lw H0 B QF E Pr x en (c1 + c2 + 1) (max h1 h2 + 1) := by
  intro k H n frs outs wnds b hB pr
  obtain ⟨t, lp, vs, a, y1, y2, pz, ht, hd, hlp, p1, p2⟩ := ptr2 h rfl
  cases hd with
  | cons hd1 hd2 =>
  cases hd1
  cases hd2 with
  | cons hd3 hd4 =>
  cases hd4
  have m1 : h1 ≤ max h1 h2 := Nat.le_max_left _ _
  have m2 : h2 ≤ max h1 h2 := Nat.le_max_right _ _
  have ek : k + (c1 + c2 + 1) = (k + c2 + c1) + 1 := by omega
  rw [ek]
  refine go_wait S b (by omega) pz (by decide) hlp rfl fun H1 k1 b1 => ?_
  refine e1 y1 p1 (k + c2) H1 _ _ _ _ b1 (by rw [List.length_cons]; omega) True.intro fun v1 H2 k2 hv1 b2 => ?_
  obtain ⟨s2, cf2, _⟩ := id b2
  refine kb_next S b2 pz (by show 0 ≤ 100; decide) (by show ((0 + 1 : Nat) : Int) < waitsW "op" 2; decide) hlp rfl fun H3 k3 b3 => ?_
  obtain ⟨s3, cf3, _⟩ := id b3
  refine e2 y2 p2 k H3 _ _ _ _ b3 (by rw [List.length_cons]; omega) True.intro fun v2 H4 k4 hv2 b4 => ?_
  obtain ⟨s4, cf4, _⟩ := id b4
  have hv1' := (hv1.kx S cf2 k3).kx S cf3 k4
  refine kb_act S b4 pz (by show 1 ≤ 100; decide) (by show ¬ ((1 + 1 : Nat) : Int) < waitsW "op" 2; decide) (by decide) fun H5 s tw k5 nx => ?_
  exact op_fault (x := x) (en := en) (tw := tw) (z := "op") (lp := lp) (wt := 0) he nx.cf (nx.cf.t0 S ht) ho (.cons (hv1'.kx S cf4 k5) (.cons (hv2.kx S cf4 k5) .nil))
theorem stk_call0 {a : Int} (S : Stat A m f lo lw H0) (he : HE A m f H0 E) (h : PTr A.pl H0 x (dCall (dNum a) [])) : Stk A m f lo lw H0 B QF E Pr x en 2 1 := by
  intro k H n frs outs wnds b hB pr
  obtain ⟨t, lp, vs, a1, y1, pz, ht, hd, hlp, p1⟩ := ptr1 h rfl
  refine go_wait (k := k + 1) S b (by omega) pz (by decide) hlp rfl fun H1 k1 b1 => ?_
  refine ev_num (Pr := fun _ => True) S p1 k H1 _ _ _ _ b1 (by rw [List.length_cons]; omega) True.intro fun v1 H2 k2 hv1 b2 => ?_
  cases hv1
  refine kb_act S b2 pz (by show 0 ≤ 100; decide) (by show ¬ ((0 + 1 : Nat) : Int) < waitsW "call" 1; decide) (by decide) fun H3 s tw k3 nx => ?_
  exact ⟨.int a, [], .int, rfl, .int a, fun _ => he H3 _ nx.cf.k0, fun z => by cases z⟩
theorem stk_if {a : Int} (S : Stat A m f lo lw H0) (he : HE A m f H0 E) (h : PTr A.pl H0 x (.tuple [.str "if", dNum a, dNum a, dNum a])) : Stk A m f lo lw H0 B QF E Pr x en 2 1 := by
  intro k H n frs outs wnds b hB pr
  obtain ⟨t, lp, vs, a1, y1, y2, y3, pz, ht, hd, hlp, p1, p2, p3⟩ := ptr3 h rfl
  refine go_wait (k := k + 1) S b (by omega) pz (by decide) hlp rfl fun H1 k1 b1 => ?_
  refine ev_num (Pr := fun _ => True) S p1 k H1 _ _ _ _ b1 (by rw [List.length_cons]; omega) True.intro fun v1 H2 k2 hv1 b2 => ?_
  cases hv1
  refine kb_act S b2 pz (by show 0 ≤ 100; decide) (by show ¬ ((0 + 1 : Nat) : Int) < waitsW "if" 3; decide) (by decide) fun H3 s tw k3 nx => ?_
  exact ⟨.int a, [], .int, rfl, .int a, fun _ => he H3 _ nx.cf.k0, fun b z => by cases z⟩
theorem stk_get {a : Int} (S : Stat A m f lo lw H0) (he : HE A m f H0 E) (h : PTr A.pl H0 x (.tuple [.str "get", dNum a])) : Stk A m f lo lw H0 B QF E Pr x en 2 1 := by
  intro k H n frs outs wnds b hB pr
  obtain ⟨t, lp, vs, a1, y1, pz, ht, hd, hlp, p1⟩ := ptr1 h rfl
  refine go_wait (k := k + 1) S b (by omega) pz (by decide) hlp rfl fun H1 k1 b1 => ?_
  refine ev_num (Pr := fun _ => True) S p1 k H1 _ _ _ _ b1 (by rw [List.length_cons]; omega) True.intro fun v1 H2 k2 hv1 b2 => ?_
  cases hv1
  refine kb_act S b2 pz (by show 0 ≤ 100; decide) (by show ¬ ((0 + 1 : Nat) : Int) < waitsW "get" 1; decide) (by decide) fun H3 s tw k3 nx => ?_
  exact ⟨.int a, [], .int, rfl, .int a, fun _ => he H3 _ nx.cf.k0, fun z => by cases z⟩
theorem stk_set {a : Int} (S : Stat A m f lo lw H0) (he : HE A m f H0 E) (h : PTr A.pl H0 x (.tuple [.str "set", dNone, dNum a])) : Stk A m f lo lw H0 B QF E Pr x en 3 1 := by
  intro k H n frs outs wnds b hB pr
  obtain ⟨t, lp, vs, a1, y1, y2, pz, ht, hd, hlp, p1, p2⟩ := ptr2 h rfl
  refine go_wait (k := k + 1 + 1) S b (by omega) pz (by decide) hlp rfl fun H1 k1 b1 => ?_
  refine ev_none (Pr := fun _ => True) S p1 (k + 1) H1 _ _ _ _ b1 (by rw [List.length_cons]; omega) True.intro fun v1 H2 k2 hv1 b2 => ?_
  cases hv1
  refine kb_next S b2 pz (by show 0 ≤ 100; decide) (by show ((0 + 1 : Nat) : Int) < waitsW "set" 2; decide) hlp rfl fun H3 k3 b3 => ?_
  refine ev_num (Pr := fun _ => True) S p2 k H3 _ _ _ _ b3 (by rw [List.length_cons]; omega) True.intro fun v2 H4 k4 hv2 b4 => ?_
  refine kb_act S b4 pz (by show 1 ≤ 100; decide) (by show ¬ ((1 + 1 : Nat) : Int) < waitsW "set" 2; decide) (by decide) fun H5 s tw k5 nx => ?_
  exact ⟨.non, v2, .non, rfl, .non, fun _ => he H5 _ nx.cf.k0, fun z => by cases z⟩
/-- a function's making -/
theorem fun_made {ns : List Str} {d : PyData} {y : Addr} {kvs : List (Key × V)} {k : Nat} {H : Hp} {n : Int} {frs : List Fr} {outs wnds : List V} (S : Stat A m f lo lw H0) (h : PTr A.pl H0 y (dFun ns d)) (hl : ns.length ≤ 10) (hk : kvs.length ≤ 500) (b : Bg A m f lo lw H0 B H y en n frs outs wnds) (hB : (frs.length : Int) ≤ B) (pr : PrE en kvs H)
    (q : ∀ fx ty tn its lpy bd H', Kx m f lo lw H H' → FnAt A H' fx y ty en tn its ns "fun" lpy kvs → H0 lpy = some (.lst [.ref bd]) → PTr A.pl H0 bd d → Bq A m f lo lw H0 B H' (.ref fx) (n + 1) frs outs wnds → KB A m QF E k frs.length H') : Go A m QF E (k + 1) H := by
  obtain ⟨t, lp, vs, a1, y1, pz, ht, hd, hlp, p1⟩ := ptr1 h rfl
  cases hd with
  | cons hd1 hd2 =>
  cases hd1 with
  | @tup tn xs _ _ htn hxs =>
  have ex := dql_strs hxs
  subst ex
  cases hd2 with
  | cons hd3 hd4 =>
  cases hd4
  obtain ⟨s0, cf0, _⟩ := id b
  refine go_act S b hB pz (by decide) (by decide) fun H2 s tw k2 nx => ?_
  refine fun fx dxf H3 n1 n2 n3 hfx s3 h3 => ?_
  have c3 := nx.cf.same s3
  refine ⟨c3.ma, gv_q S c3 fun H4 k4 b4 => ?_⟩
  obtain ⟨s4, cf4, _⟩ := id b4
  rw [nx.sn] at b4
  refine q fx t tn _ lp y1 H4 ((k2.trans (Kx.same s3)).trans k4) ⟨⟨dxf, c3.ki S k4 (.inr (.inr (.inl rfl))) hfx⟩, ⟨_, cf4.p0 S pz⟩, cf4.t0 S ht, rfl, cf4.t0 S htn, c3.kd k4 (s3 _ _ (cf0.kd k2 pr)), hk, hl⟩ hlp p1 b4
theorem FnAt.kx {H H' : Hp} {s : MSt} {frs : List Fr} {outs wnds : List V} {fx y ty fe tn : Addr} {its : List V} {ns : List Str} {zy : Str} {lpy : Addr} {kvs : List (Key × V)} (S : Stat A m f lo lw H0) (c : Cf A m f lo lw H0 B H s frs outs wnds) (k : Kx m f lo lw H H') (h : FnAt A H fx y ty fe tn its ns zy lpy kvs) : FnAt A H' fx y ty fe tn its ns zy lpy kvs := by
  obtain ⟨dxf, h1⟩ := h.hfx
  obtain ⟨kk, dx, pt, h2⟩ := h.hpz
  exact ⟨⟨dxf, c.ki S k (.inr (.inr (.inl rfl))) h1⟩, ⟨kk, dx, pt, c.ki S k (.inl rfl) h2⟩, c.kt k h.hty, h.atn, c.kt k h.hns, c.kd k h.hfe, h.kl, h.nl⟩
theorem stk_call1 {a : Int} {kvs : List (Key × V)} (S : Stat A m f lo lw H0) (he : HE A m f H0 E) (hk : kvs.length ≤ 500) (h : PTr A.pl H0 x (dCall (dFun [] (dNum a)) [dNum a])) : Stk A m f lo lw H0 B QF E (PrE en kvs) x en 3 1 := by
  intro k H n frs outs wnds b hB pr
  obtain ⟨t, lp, vs, a1, y1, y2, pz, ht, hd, hlp, p1, p2⟩ := ptr2 h rfl
  obtain ⟨s0, cf0, _⟩ := id b
  refine go_wait (k := k + 1 + 1) S b (by omega) pz (by decide) hlp rfl fun H1 k1 b1 => ?_
  refine fun_made (ns := []) S p1 (by decide) hk b1 (by rw [List.length_cons]; omega) (cf0.kd k1 pr) fun fx ty tn its lpy bd H2 k2 hfn hbd pbd b2 => ?_
  obtain ⟨s2, cf2, _⟩ := id b2
  refine kb_next S b2 pz (by show 0 ≤ 100; decide) (by show ((0 + 1 : Nat) : Int) < waitsW "call" 2; decide) hlp rfl fun H3 k3 b3 => ?_
  obtain ⟨s3, cf3, _⟩ := id b3
  refine ev_num (Pr := fun _ => True) S p2 k H3 _ _ _ _ b3 (by rw [List.length_cons]; omega) True.intro fun v2 H4 k4 hv2 b4 => ?_
  cases hv2
  obtain ⟨s4, cf4, _⟩ := id b4
  refine kb_act S b4 pz (by show 1 ≤ 100; decide) (by show ¬ ((1 + 1 : Nat) : Int) < waitsW "call" 2; decide) (by decide) fun H5 s tw k5 nx => ?_
  have hfn5 := ((hfn.kx S cf2 k3).kx S cf3 k4).kx S cf4 k5
  obtain ⟨dxf, hfx5⟩ := id hfn5.hfx
  exact ⟨.ref fx, [.int a], .fn, rfl, .fn hfx5, fun z => absurd rfl z, fun _ => ⟨fx, y1, ty, en, tn, its, [], "fun", lpy, kvs, rfl, hfn5, fun _ => he H5 _ nx.cf.k0, fun z => by cases z⟩⟩
theorem stk_call2 {a : Int} {kvs : List (Key × V)} (S : Stat A m f lo lw H0) (he : HE A m f H0 E) (hk : kvs.length ≤ 500) (h : PTr A.pl H0 x (dCall (dFun ["x"] (dNum a)) [])) : Stk A m f lo lw H0 B QF E (PrE en kvs) x en 2 1 := by
  intro k H n frs outs wnds b hB pr
  obtain ⟨t, lp, vs, a1, y1, pz, ht, hd, hlp, p1⟩ := ptr1 h rfl
  obtain ⟨s0, cf0, _⟩ := id b
  refine go_wait (k := k + 1) S b (by omega) pz (by decide) hlp rfl fun H1 k1 b1 => ?_
  refine fun_made (ns := ["x"]) S p1 (by decide) hk b1 (by rw [List.length_cons]; omega) (cf0.kd k1 pr) fun fx ty tn its lpy bd H2 k2 hfn hbd pbd b2 => ?_
  obtain ⟨s2, cf2, _⟩ := id b2
  refine kb_act S b2 pz (by show 0 ≤ 100; decide) (by show ¬ ((0 + 1 : Nat) : Int) < waitsW "call" 1; decide) (by decide) fun H5 s tw k5 nx => ?_
  have hfn5 := hfn.kx S cf2 k5
  obtain ⟨dxf, hfx5⟩ := id hfn5.hfx
  exact ⟨.ref fx, [], .fn, rfl, .fn hfx5, fun z => absurd rfl z, fun _ => ⟨fx, y1, ty, en, tn, its, ["x"], "fun", lpy, kvs, rfl, hfn5, fun _ => he H5 _ nx.cf.k0, fun z => by cases z⟩⟩
end
theorem rt_stuck {K : PySem.W.Frag} {A : Ad} {H : Hp} {a : Addr} {tv gv : V} {most : Int} {d : PyData} {n c hh : Nat} {Q : VK} {E : XK} (T : AllC K A) (hd : Dq a H tv d) (fm : Fm n d) (hn : n ≤ 100) (hcw : cw d ≤ 20000) (hm : ((c : Nat) : Int) < most) (hh1 : hh ≤ 90) (hE : ∀ H1 (z : Str), Same H H1 → StE A.sk H1 (.str z) E)
    (hst : ∀ m f lo lw H0 QF x en, Stat A m f lo lw H0 → HE A m f H0 E → PTr A.pl H0 x d → Stk A m f lo lw H0 100 QF E (PrE en (inEnv gv)) x en c hh) : spRT A [tv, gv, .int most] H Q E := by
  refine ⟨a, tv, gv, most, d, n, rfl, hd, fm, hn, hcw, fun m f x en lo lw H0 H' QF ini hQF => ⟨c, hm, ?_⟩⟩
  have ec : c = 0 + c := by omega
  rw [ec]
  exact hst m f lo lw H0 QF x en (stat_of T ini) (fun H1 z k => hE H1 z (same_of ini k)) ini.tr 0 H' 0 [] [] [] (bg_of ini (by decide)) (by show ((0 + hh : Nat) : Int) ≤ 100; omega) ini.en
end Wp
set_option Elab.async false
set_option linter.all false
set_option maxRecDepth 100000
set_option maxHeartbeats 1000000
namespace Wp
open PySem PySem.Spec PyProof.Rows L2
/-! ### the loop -/
abbrev dLess : PyData := dOp2 "less" (dName "n") (dNum 1)
abbrev dMinus : PyData := dOp2 "minus" (dName "n") (dNum 1)
abbrev dAgain : PyData := dLet "q" (.tuple [.str "say", dName "n"]) (dCall (dName "f") [dMinus])
abbrev dBody : PyData := .tuple [.str "if", dLess, dEnd (dName "input"), dAgain]
abbrev dRec : PyData := .tuple [.str "rec", .str "f", .tuple [.str "n"], dBody]
abbrev dLoop (i : Int) : PyData := dCall dRec [dNum i]
abbrev wIn : Wt := .pair (.int 1) .non
def kvsL (gv : V) (fx : Addr) (i : Int) : List (Key × V) := putK (putK (inEnv gv) (Sum.inr "f") (.ref fx)) (Sum.inr "n") (.int i)
def kvsQ (gv : V) (fx : Addr) (i : Int) : List (Key × V) := putK (kvsL gv fx i) (Sum.inr "q") .non
theorem kvsL_n {gv : V} {fx : Addr} {i : Int} : valV (kvsL gv fx i) (Sum.inr "n") = some (.int i) := valV_putK _ _ _
theorem kvsL_in {gv : V} {fx : Addr} {i : Int} : valV (kvsL gv fx i) (Sum.inr "input") = some gv := (valV_putK_ne (by decide)).trans (valV_putK_ne (by decide))
theorem kvsQ_n {gv : V} {fx : Addr} {i : Int} : valV (kvsQ gv fx i) (Sum.inr "n") = some (.int i) := (valV_putK_ne (by decide)).trans (valV_putK _ _ _)
theorem kvsQ_f {gv : V} {fx : Addr} {i : Int} : valV (kvsQ gv fx i) (Sum.inr "f") = some (.ref fx) := (valV_putK_ne (by decide)).trans ((valV_putK_ne (by decide)).trans (valV_putK _ _ _))
theorem kvsL_len {gv : V} {fx : Addr} {i : Int} : (kvsL gv fx i).length ≤ 3 := by
  have h1 := length_putK (inEnv gv) (Sum.inr "f") (.ref fx)
  have h2 := length_putK (putK (inEnv gv) (Sum.inr "f") (.ref fx)) (Sum.inr "n") (.int i)
  have h3 : (inEnv gv).length = 1 := rfl
  unfold kvsL
  omega
def said : Nat → List V
  | 0 => []
  | i + 1 => .str (toString ((i + 1 : Nat) : Int)) :: said i
theorem said_len : ∀ i, (said i).length = i
  | 0 => rfl
  | i + 1 => by rw [said, List.length_cons, said_len i]
theorem len_small : ∀ j : Nat, j < 101 → (shW (.int (j : Int))).length ≤ 100000 := by decide +kernel
section
variable {A : Ad} {m f lo lw : Addr} {H0 : Hp} {B : Int} {QF : Hp → Prop} {E : XK} {Pr : Hp → Prop} {x en : Addr}
theorem Cf.out {H : Hp} {s : MSt} {frs : List Fr} {outs wnds outs' : List V} (S : Stat A m f lo lw H0) (c : Cf A m f lo lw H0 B H s frs outs wnds) : Cf A m f lo lw H0 B (upd H lo (.lst outs')) s frs outs' wnds := by
  obtain ⟨dm, hm⟩ := c.ma
  obtain ⟨df, v, hf, hch⟩ := c.fs
  have n1 : m ≠ lo := ne_of hm c.ho (by intro z; cases z)
  have n2 : f ≠ lo := ne_of hf c.ho (by intro z; cases z)
  refine ⟨fun b o e1 e2 e => by rw [upd_ne (ne_of_none e S.nlo)]; exact c.k0 _ _ e1 e2 e, ⟨dm, by rw [upd_ne n1]; exact hm⟩, c.sf, c.slo, c.slw, ⟨df, v, by rw [upd_ne n2]; exact hf, hch.keep (fun b _ _ e => ?_) fun b _ e => ?_⟩, upd_same, by rw [upd_ne S.ne.symm]; exact c.hw, c.hb⟩
  · rw [upd_ne (ne_of e c.ho (by intro z; cases z))]
    exact e
  · rw [upd_ne (ne_of e c.ho (by intro z; cases z))]
    exact e
theorem kx_out {H : Hp} {o : HO} : Kx m f lo lw H (upd H lo o) := fun b u _ _ n3 _ e => by rw [upd_ne n3]; exact e
structure Lp (A : Ad) (H0 H : Hp) (e fx y ty tn lpy bd en : Addr) (its : List V) (gv : V) (i : Int) : Prop where
  he : H e = some (.dK (kvsL gv fx i))
  fn : FnAt A H fx y ty en tn its ["n"] "rec" lpy (inEnv gv)
  it : ∃ a r, its = a :: .str "f" :: r
  bd : H0 lpy = some (.lst [.ref bd])
  gv : VAt A H gv wIn
theorem call_again {gv : V} {fx y ty tn lpy bd : Addr} {its : List V} {i : Int} {H : Hp} {s : MSt} {frs : List Fr} {outs wnds : List V} {k l : Nat} {x en ev tw t lp : Addr} {zz : Str} {wt : Int} (S : Stat A m f lo lw H0) (c : Cf A m f lo lw H0 B H s frs outs wnds) (hfn : FnAt A H fx y ty en tn its ["n"] "rec" lpy (inEnv gv)) (hit : ∃ a r, its = a :: .str "f" :: r) (hbd : H0 lpy = some (.lst [.ref bd])) (hg : VAt A H gv wIn)
    (q : ∀ e H', Kx m f lo lw H H' → Lp A H0 H' e fx y ty tn lpy bd en its gv i → Bg A m f lo lw H0 B H' bd e s.stp frs outs wnds → Go A m QF E k H') : cCall A m x ev tw s [.ref fx, .int i] t zz lp wt H (fun _ H' => KB A m QF E k l H') E := by
  obtain ⟨dxf, hfx⟩ := id hfn.hfx
  obtain ⟨a, r, ei⟩ := hit
  refine ⟨.ref fx, [.int i], .fn, rfl, .fn hfx, fun z => absurd rfl z, fun _ => ⟨fx, y, ty, en, tn, its, ["n"], "rec", lpy, inEnv gv, rfl, hfn, fun z => absurd rfl z, fun _ => ⟨fun _ => ⟨a, "f", r, ei⟩, bd, [], c.l0 S hbd, fun p H1 s1 np hp => bg_q S (c.same s1) fun H' k2 b => ?_⟩⟩⟩
  have c1 := c.same s1
  have ee : putAll (recEnv "rec" its fx (inEnv gv)) ["n"] [.int i] = kvsL gv fx i := by
    rw [ei]
    rfl
  rw [ee] at hp
  exact q p H' ((Kx.same s1).trans k2) ⟨c1.kd k2 hp, (hfn.same s1).kx S c1 k2, ⟨a, r, ei⟩, hbd, (hg.same s1).kx S c1 k2⟩ b
theorem loop_go {gv : V} {fx y ty tn lpy bd en : Addr} {its : List V} (S : Stat A m f lo lw H0) (hB : 2 ≤ B) (pb : PTr A.pl H0 bd dBody) : ∀ (i : Nat) (k : Nat) (H : Hp) (n : Int) (e : Addr) (outs : List V), Bg A m f lo lw H0 B H bd e n [] outs [] → Lp A H0 H e fx y ty tn lpy bd en its gv (i : Int) → outs.length + i ≤ 100 →
    (∀ H' s p dxp, Cf A m f lo lw H0 B H' s [] (outs ++ said i) [] → s.st = "end" → s.kd = "worth" → s.wv = .ref p → s.stp = n + ((7 + 12 * i : Nat) : Int) → (∃ u, H' p = some (.ins A.pa dxp [("first", .str "worth"), ("rest", u)]) ∧ VAt A H' u wIn) → QF H') → Go A m QF E (k + (7 + 12 * i)) H := by
  obtain ⟨t, lp, vs, a1, y1, y2, y3, pz, ht, hd, hlp, p1, p2, p3⟩ := ptr3 pb rfl
  have l0 : ∀ n : Nat, ((0 + n : Nat) : Int) = n := fun n => by omega
  intro i
  induction i with
  | zero =>
    intro k H n e outs b L hl q
    obtain ⟨s0, cf0, _⟩ := id b
    refine go_wait (k := k + 3 + 3) S b (by show ((0 : Nat) : Int) ≤ B; omega) pz (by decide) hlp rfl fun H1 k1 b1 => ?_
    have evl : Ev A m f lo lw H0 B QF E (PrE e (kvsL gv fx 0)) y1 e 3 1 (.bl (decide ((0 : Int) < 1))) := ev_op2 S p1 (fun y hy => ev_name S hy stb_e fun H h => ⟨_, _, h, kvsL_n, .int 0⟩) (fun y hy => ev_num S hy) stb_e (e_less 0 1)
    refine evl (k + 3) H1 _ _ _ _ b1 (by show ((1 + 1 : Nat) : Int) ≤ B; omega) (cf0.kd k1 L.he) fun v2 H2 k2 hv2 b2 => ?_
    cases hv2
    obtain ⟨s2, cf2, _⟩ := id b2
    refine kb_act S b2 pz (by show 0 ≤ 100; decide) (by show ¬ ((0 + 1 : Nat) : Int) < waitsW "if" 3; decide) (by decide) fun H3 s3 tw3 k3 nx3 => ?_
    refine ⟨.bl true, [], .bl, rfl, .bl _, fun z => absurd rfl z, fun bb eb => ⟨.ref y1, y2, y3, nx3.cf.l0 S hlp, ?_⟩⟩
    cases eb
    refine bg_q S nx3.cf fun H4 k4 b4 => ?_
    rw [nx3.sn] at b4
    have k14 := ((k1.trans k2).trans k3).trans k4
    have eve : Ev A m f lo lw H0 B QF E (fun H => PrE e (kvsL gv fx 0) H ∧ VAt A H gv wIn) y2 e 3 1 (.pair (.str "worth") wIn) := ev_op2 S p2 (fun y hy => ev_text S hy) (fun y hy => ev_name S hy (stb_and stb_e (stb_v S)) fun H h => ⟨_, _, h.1, kvsL_in, h.2⟩) (stb_and stb_e (stb_v S)) (e_pair _ _)
    refine eve k H4 _ _ _ _ b4 (by show ((0 + 1 : Nat) : Int) ≤ B; omega) ⟨cf0.kd k14 L.he, L.gv.kx S cf0 k14⟩ fun v5 H5 k5 hv5 b5 => ?_
    cases hv5 with
    | @pair p dxp ua ub _ _ hp hua hub =>
    cases hua
    obtain ⟨s5, cf5, _⟩ := id b5
    refine kb_end S b5 fun H6 s6 k6 cf6 e1 e2 e3 e4 => ?_
    refine q H6 s6 p dxp (by rw [said, List.append_nil]; exact cf6) e1 e2 e3 (by rw [e4]; show n + 1 + ((3 : Nat) : Int) + ((3 : Nat) : Int) = n + ((7 : Nat) : Int); omega) ⟨ub, cf5.ki S k6 (.inr (.inl rfl)) hp, hub.kx S cf5 k6⟩
  | succ i ih =>
    intro k H n e outs b L hl q
    obtain ⟨s0, cf0, _⟩ := id b
    have ek : k + (7 + 12 * (i + 1)) = (k + (7 + 12 * i) + 8 + 3) + 1 := by omega
    rw [ek]
    refine go_wait S b (by show ((0 : Nat) : Int) ≤ B; omega) pz (by decide) hlp rfl fun H1 k1 b1 => ?_
    have evl : Ev A m f lo lw H0 B QF E (PrE e (kvsL gv fx ((i + 1 : Nat) : Int))) y1 e 3 1 (.bl (decide (((i + 1 : Nat) : Int) < 1))) := ev_op2 S p1 (fun y hy => ev_name S hy stb_e fun H h => ⟨_, _, h, kvsL_n, .int _⟩) (fun y hy => ev_num S hy) stb_e (e_less _ 1)
    have ed : decide (((i + 1 : Nat) : Int) < 1) = false := by
      apply decide_eq_false
      omega
    rw [ed] at evl
    refine evl (k + (7 + 12 * i) + 8) H1 _ _ _ _ b1 (by show ((1 + 1 : Nat) : Int) ≤ B; omega) (cf0.kd k1 L.he) fun v2 H2 k2 hv2 b2 => ?_
    cases hv2
    obtain ⟨s2, cf2, _⟩ := id b2
    refine kb_act S b2 pz (by show 0 ≤ 100; decide) (by show ¬ ((0 + 1 : Nat) : Int) < waitsW "if" 3; decide) (by decide) fun H3 s3 tw3 k3 nx3 => ?_
    refine ⟨.bl false, [], .bl, rfl, .bl _, fun z => absurd rfl z, fun bb eb => ⟨.ref y1, y2, y3, nx3.cf.l0 S hlp, ?_⟩⟩
    cases eb
    refine bg_q S nx3.cf fun H4 k4 b4 => ?_
    rw [nx3.sn] at b4
    have k14 := ((k1.trans k2).trans k3).trans k4
    obtain ⟨s4, cf4, _⟩ := id b4
    -- again
    obtain ⟨t3, lp3, vs3, a3, z1, z2, pz3, ht3, hd3, hlp3, q1, q2⟩ := ptr2 p3 rfl
    cases hd3 with
    | cons hd31 hd32 =>
    cases hd31
    obtain ⟨t4, lp4, vs4, a4, z3, pz4, ht4, hd4, hlp4, q3⟩ := ptr1 q1 rfl
    obtain ⟨t5, lp5, vs5, a5, z4, z5, pz5, ht5, hd5, hlp5, q4, q5⟩ := ptr2 q2 rfl
    refine go_wait (k := k + (7 + 12 * i) + 7) S b4 (by show ((0 : Nat) : Int) ≤ B; omega) pz3 (by decide) hlp3 rfl fun H5 k5 b5 => ?_
    refine go_wait (k := k + (7 + 12 * i) + 6) S b5 (by show ((1 : Nat) : Int) ≤ B; omega) pz4 (by decide) hlp4 rfl fun H6 k6 b6 => ?_
    have k16 := (k14.trans k5).trans k6
    have evn : Ev A m f lo lw H0 B QF E (PrE e (kvsL gv fx ((i + 1 : Nat) : Int))) z3 e 1 0 (.int ((i + 1 : Nat) : Int)) := ev_name S q3 stb_e fun H h => ⟨_, _, h, kvsL_n, .int _⟩
    refine evn (k + (7 + 12 * i) + 5) H6 _ _ _ _ b6 (by show ((2 + 0 : Nat) : Int) ≤ B; omega) (cf0.kd k16 L.he) fun v7 H7 k7 hv7 b7 => ?_
    cases hv7
    obtain ⟨s7, cf7, _⟩ := id b7
    refine kb_act S b7 pz4 (by show 0 ≤ 100; decide) (by show ¬ ((0 + 1 : Nat) : Int) < waitsW "say" 1; decide) (by decide) fun H8 s8 tw8 k8 nx8 => ?_
    have k18 := (k16.trans k7).trans k8
    have okw : okW (.int ((i + 1 : Nat) : Int)) := by
      show ((i + 1 : Nat) : Int).natAbs.log2 < 1920
      rw [Int.natAbs_natCast]
      have : (i + 1).log2 ≤ i + 1 := Nat.log2_le_self _
      omega
    have lenw : (shW (.int ((i + 1 : Nat) : Int))).length ≤ 100000 := len_small (i + 1) (by omega)
    refine ⟨.int ((i + 1 : Nat) : Int), [], shW (.int ((i + 1 : Nat) : Int)), 1, outs, rfl, (VAt.int _).sh okw, by decide, lenw, by rw [nx8.cf.slo]; exact nx8.cf.ho, by omega, fun tx H9 htx s9 => ?_⟩
    have etx : tx = toString ((i + 1 : Nat) : Int) := str_ext htx
    subst etx
    rw [nx8.cf.slo]
    have c9 := nx8.cf.same s9
    have c10 := c9.out (outs' := outs ++ [.str (toString ((i + 1 : Nat) : Int))]) S
    have k10 : Kx m f lo lw H9 (upd H9 lo (.lst (outs ++ [.str (toString ((i + 1 : Nat) : Int))]))) := kx_out
    refine gv_q S c10 fun H11 k11 b11 => ?_
    obtain ⟨s11, cf11, _⟩ := id b11
    rw [nx8.sn] at b11
    have k111 := k18.trans ((Kx.same s9).trans (k10.trans k11))
    refine kb_act S b11 pz3 (by show 0 ≤ 100; decide) (by show ¬ ((0 + 1 : Nat) : Int) < waitsW "let" 2; decide) (by decide) fun H12 s12 tw12 k12 nx12 => ?_
    have k112 := k111.trans k12
    refine let_done (x := y3) (en := e) (tw := tw12) (zz := "let") (lp := lp3) (wt := 0) S nx12.cf (nx12.cf.t0 S ht3) (cf0.kd k112 L.he) (by have := kvsL_len (gv := gv) (fx := fx) (i := ((i + 1 : Nat) : Int)); omega) (nx12.cf.l0 S hlp3) fun pe H13 k13 np13 hp13 b13 => ?_
    rw [nx12.sn] at b13
    obtain ⟨s13, cf13, _⟩ := id b13
    have k113 := k112.trans k13
    have hpe : PrE pe (kvsQ gv fx ((i + 1 : Nat) : Int)) H13 := hp13
    refine go_wait (k := k + (7 + 12 * i) + 4) S b13 (by show ((0 : Nat) : Int) ≤ B; omega) pz5 (by decide) hlp5 rfl fun H14 k14' b14 => ?_
    obtain ⟨s14, cf14, _⟩ := id b14
    obtain ⟨t6, lp6, vs6, a6, pz6, ht6, hd6⟩ := ptr0 q4 rfl
    cases hd6 with
    | cons hd61 hd62 =>
    cases hd61
    cases hd62
    have hpe14 := cf13.kd k14' hpe
    refine go_act (k := k + (7 + 12 * i) + 3) S b14 (by show ((1 : Nat) : Int) ≤ B; omega) pz6 (by decide) (by decide) fun H15 s15 tw15 k15 nx15 => ?_
    refine ⟨_, "f", _, _, .ref fx, nx15.cf.t0 S ht6, cf14.kd k15 hpe14, kvsQ_f, gv_q S nx15.cf fun H16 k16' b16 => ?_⟩
    obtain ⟨s16, cf16, _⟩ := id b16
    rw [nx15.sn] at b16
    refine kb_next S b16 pz5 (by show 0 ≤ 100; decide) (by show ((0 + 1 : Nat) : Int) < waitsW "call" 2; decide) hlp5 rfl fun H17 k17 b17 => ?_
    have k13_17 := (k14'.trans k15).trans (k16'.trans k17)
    have evm : Ev A m f lo lw H0 B QF E (PrE pe (kvsQ gv fx ((i + 1 : Nat) : Int))) z5 pe 3 1 (.int (((i + 1 : Nat) : Int) - 1)) := ev_op2 S q5 (fun y hy => ev_name S hy stb_e fun H h => ⟨_, _, h, kvsQ_n, .int _⟩) (fun y hy => ev_num S hy) stb_e (e_minus (by
      have : far.natAbs = 10 ^ 60 := by decide
      rw [this]
      have h1 : (((i + 1 : Nat) : Int) - 1).natAbs ≤ 100 := by omega
      exact Nat.lt_of_le_of_lt h1 (by decide)))
    refine evm (k + (7 + 12 * i)) H17 _ _ _ _ b17 (by show ((1 + 1 : Nat) : Int) ≤ B; omega) (cf13.kd k13_17 hpe) fun v18 H18 k18' hv18 b18 => ?_
    cases hv18
    obtain ⟨s18, cf18, _⟩ := id b18
    refine kb_act S b18 pz5 (by show 1 ≤ 100; decide) (by show ¬ ((1 + 1 : Nat) : Int) < waitsW "call" 2; decide) (by decide) fun H19 s19 tw19 k19 nx19 => ?_
    have kAll := (k113.trans k13_17).trans (k18'.trans k19)
    have ei : ((i + 1 : Nat) : Int) - 1 = (i : Int) := by omega
    rw [ei]
    refine call_again (t := t5) (x := z2) (ev := pe) (tw := tw19) (zz := "call") (lp := lp5) (wt := 0) S nx19.cf (L.fn.kx S cf0 kAll) L.it L.bd (L.gv.kx S cf0 kAll) fun e20 H20 k20 L20 b20 => ?_
    rw [nx19.sn] at b20
    refine ih k H20 _ e20 _ b20 L20 (by simp; omega) fun H' s p dxp cf e1 e2 e3 e4 h5 => ?_
    refine q H' s p dxp (by rw [said]; simpa using cf) e1 e2 e3 (by rw [e4]; omega) h5
end
theorem rt_loop {K : PySem.W.Frag} {A : Ad} {H : Hp} {a : Addr} {tv gv : V} {most : Int} {i n : Nat} {Q : VK} {E : XK} (T : AllC K A) (hd : Dq a H tv (dLoop i)) (fm : Fm n (dLoop i)) (hn : n ≤ 100) (hcw : cw (dLoop i) ≤ 20000) (hi : i ≤ 100) (hm : ((10 + 12 * i : Nat) : Int) < most) (hg : VAt A H gv wIn)
    (q : ∀ r H3 v (hg : Int), Same H H3 → ResAt A H3 r (.str "worth") v (said i) [] (.int ((10 + 12 * i : Nat) : Int)) (.int hg) → hg ≤ 3 → VAt A H3 v wIn → Q (.ref r) H3) : spRT A [tv, gv, .int most] H Q E := by
  refine ⟨a, tv, gv, most, dLoop i, n, rfl, hd, fm, hn, hcw, fun m f x en lo lw H0 H' QF ini hQF => ⟨10 + 12 * i, hm, ?_⟩⟩
  have S := stat_of T ini
  have b0 := bg_of (B := 3) ini (by decide)
  obtain ⟨s0, cf0, _⟩ := id b0
  have sH' : Same H H' := same_of ini fun b o n1 _ e => ini.k1 _ _ n1 e
  have hgv := hg.same sH'
  obtain ⟨t, lp, vs, a1, y1, y2, pz, ht, hd', hlp, p1, p2⟩ := ptr2 ini.tr rfl
  obtain ⟨t1, lp1, vs1, a2, bd, pz1, ht1, hd1, hlp1, pb⟩ := ptr1 p1 rfl
  cases hd1 with
  | cons hd11 hd12 =>
  cases hd11
  cases hd12 with
  | cons hd13 hd14 =>
  cases hd13 with
  | @tup tn xs _ _ htn hxs =>
  cases hxs with
  | cons hx1 hx2 =>
  cases hx1
  cases hx2
  cases hd14 with
  | cons hd15 hd16 =>
  cases hd16
  have ek : 10 + 12 * i = (0 + (7 + 12 * i) + 1 + 1) + 1 := by omega
  rw [ek]
  refine go_wait S b0 (by decide) pz (by decide) hlp rfl fun H1 k1 b1 => ?_
  refine go_act S b1 (by show ((1 : Nat) : Int) ≤ 3; decide) pz1 (by decide) (by decide) fun H2 s2 tw2 k2 nx2 => ?_
  refine fun fx dxf H3 n1 n2 n3 hfx s3 h3 => ?_
  have c3 := nx2.cf.same s3
  refine ⟨c3.ma, gv_q S c3 fun H4 k4 b4 => ?_⟩
  obtain ⟨s4, cf4, _⟩ := id b4
  rw [nx2.sn] at b4
  have kA := (k1.trans k2).trans ((Kx.same s3).trans k4)
  have hfn : FnAt A H4 fx y1 t1 en tn _ ["n"] "rec" lp1 (inEnv gv) := ⟨⟨dxf, c3.ki S k4 (.inr (.inr (.inl rfl))) hfx⟩, ⟨_, cf4.p0 S pz1⟩, cf4.t0 S ht1, rfl, cf4.t0 S htn, cf0.kd kA ini.en, by show 1 ≤ 500; decide, by decide⟩
  refine kb_next S b4 pz (by show 0 ≤ 100; decide) (by show ((0 + 1 : Nat) : Int) < waitsW "call" 2; decide) hlp rfl fun H5 k5 b5 => ?_
  obtain ⟨s5, cf5, _⟩ := id b5
  refine ev_num (Pr := fun _ => True) S p2 (0 + (7 + 12 * i)) H5 _ _ _ _ b5 (by show ((1 + 0 : Nat) : Int) ≤ 3; decide) True.intro fun v6 H6 k6 hv6 b6 => ?_
  cases hv6
  obtain ⟨s6, cf6, _⟩ := id b6
  refine kb_act S b6 pz (by show 1 ≤ 100; decide) (by show ¬ ((1 + 1 : Nat) : Int) < waitsW "call" 2; decide) (by decide) fun H7 s7 tw7 k7 nx7 => ?_
  have kB := (kA.trans k5).trans (k6.trans k7)
  refine call_again (t := t) (x := x) (ev := en) (tw := tw7) (zz := "call") (lp := lp) (wt := 0) S nx7.cf (((hfn.kx S cf4 k5).kx S cf5 k6).kx S cf6 k7) ⟨_, _, rfl⟩ hlp1 (hgv.kx S cf0 kB) fun e8 H8 k8 L8 b8 => ?_
  rw [nx7.sn] at b8
  refine loop_go S (by decide) pb i 0 H8 _ e8 [] b8 L8 (by simp; omega) fun H9 s9 p dxp cf9 e1 e2 e3 e4 h5 => hQF H9 ?_
  obtain ⟨u, hp, hu⟩ := h5
  refine ⟨s9, p, dxp, u, said i, [], cf9.ma, e1, e2, e3, hp, by rw [cf9.slo]; exact cf9.ho, by rw [cf9.slw]; exact cf9.hw, fun r H10 hr s10 => ?_⟩
  have es : s9.stp = ((10 + 12 * i : Nat) : Int) := by
    rw [e4]
    omega
  rw [es] at hr
  exact q r H10 u s9.hgt (fun b o e => s10 _ _ (same_of ini cf9.k0 _ _ e)) hr cf9.hb (hu.same s10)
end Wp
set_option Elab.async false
set_option linter.all false
set_option maxRecDepth 100000
set_option maxHeartbeats 1000000
namespace Wp
open PySem PySem.Spec PyProof.Rows L2
-- _law_next: slots _law_dr 0, _law_turn 1, _law_number 2
abbrev s_law_next : Stmt := top 95
theorem sc_law_next : FnScope ["_law_dr", "_law_turn", "_law_number"] ["_law_dr"] (defScope s_law_next) := ⟨rfl, rfl, rfl, by decide +kernel, rfl, by decide +kernel, by decide +kernel⟩
abbrev sl_law_next : List Str := ["_law_dr", "_law_turn", "_law_number"]
-- _law_draws: slots _law_cell 0, _law_cut 1, _law_turn 2
abbrev s_law_draws : Stmt := top 94
theorem sc_law_draws : FnScope ["_law_cell", "_law_cut", "_law_turn"] ["_law_cell"] (defScope s_law_draws) := ⟨rfl, rfl, rfl, by decide +kernel, rfl, by decide +kernel, by decide +kernel⟩
abbrev sl_law_draws : List Str := ["_law_cell", "_law_cut", "_law_turn"]
-- _law_pair: slots _law_one 0, _law_two 1
abbrev s_law_pair : Stmt := top 96
theorem sc_law_pair : FnScope ["_law_one", "_law_two"] ["_law_one", "_law_two"] (defScope s_law_pair) := ⟨rfl, rfl, rfl, by decide +kernel, rfl, by decide +kernel, by decide +kernel⟩
abbrev sl_law_pair : List Str := ["_law_one", "_law_two"]
-- _law_end: slots _law_term 0
abbrev s_law_end : Stmt := top 97
theorem sc_law_end : FnScope ["_law_term"] ["_law_term"] (defScope s_law_end) := ⟨rfl, rfl, rfl, by decide +kernel, rfl, by decide +kernel, by decide +kernel⟩
abbrev sl_law_end : List Str := ["_law_term"]
-- _law_num: slots _law_dr 0
abbrev s_law_num : Stmt := top 98
theorem sc_law_num : FnScope ["_law_dr"] ["_law_dr"] (defScope s_law_num) := ⟨rfl, rfl, rfl, by decide +kernel, rfl, by decide +kernel, by decide +kernel⟩
abbrev sl_law_num : List Str := ["_law_dr"]
def spDraws : Sp := fun vs H Q _ => ∃ c : Int, vs = [.int c] ∧ ∀ p H', Same H H' → H p = none → Dr H' p 0 → Q (.ref p) H'
section
variable {P : Program} {w : World} {K : PySem.W.Frag} {mg : Str → Option Value} {base : Heap} {f : Addr} {fd : FuncData}
abbrev spNext : Sp := spG 1 (fun a => [tyIs a (.ref a)]) (fun a => tyI a fun i => 0 ≤ i ∧ i < 2147483648)
theorem ok_next (F : Fun K "_law_next" "_law_next" s_law_next f fd) : FnOk P w K mg base CX0 1 f fd ["_law_dr"] spNext := by
  refine F.ok sc_law_next (fun vs H Q E h => ?_) (fun cdv A outer s H vs Q E hr h => ?_)
  · obtain ⟨a, n, _, _, ps, _⟩ := h
    exact ps.len
  obtain ⟨a, n, hn, ⟨x, c, b, e, h0, h1, h2⟩, ps, q⟩ := h
  obtain ⟨_, rfl, rfl⟩ := all1 ps
  have hb : n + 1 ≤ 1000000000000 := hn
  refine ⟨_, (pss_cons (ps_asg (pe_op op_add (pe_ix ix_list (pv 0) pe_int (fun _ _ => rfl)) pe_int) (pg_sub (pv 0) pe_int set_list))
  (pss_cons (ps_set (i := 1) sc_law_next.nd rfl (.inl rfl) (pe_ix ix_list (pv 0) pe_int (fun _ _ => rfl)))
  (pss_cons (ps_if (pt_val (pe_ix ix_list (pv 0) pe_int (fun _ _ => rfl))) (pss_cons (ps_set (i := 2) sc_law_next.nd rfl (.inl rfl) (pe_op op_mod (pe_ix ix_list (pv 0) pe_int (fun _ _ => rfl)) (pe_op op_pow pe_int pe_int)))
  (pss_cons (ps_asg (pe_op op_fdiv (pe_ix ix_list (pv 0) pe_int (fun _ _ => rfl)) (pe_op op_pow pe_int pe_int)) (pg_sub (pv 0) pe_int set_list))
  (pss_one (ps_ret (pv 2))))) pss_nil)
  (pss_cons (ps_set (i := 2) sc_law_next.nd rfl (.inl rfl) (pe_op op_mod (pe_op op_mul (pe_op op_add (pe_op op_add (pe_op op_mod (pe_ix ix_list (pv 0) pe_int (fun _ _ => rfl)) pe_int) (pe_op op_mul (pe_op op_mul (pv 1) (pv 1)) pe_int)) (pv 1)) pe_int) pe_int))
  (pss_cons (ps_set (i := 2) sc_law_next.nd rfl (.inl rfl) (pe_op op_mod (pe_op op_mul (pv 2) (pv 2)) pe_int))
  (pss_one (ps_ret (pe_op op_fdiv (pe_op op_mod (pe_op op_mul (pv 2) (pe_op op_add (pv 2) pe_int)) pe_int) pe_int)))))))), ?_⟩
  refine ⟨_, rfl, a, _, _, _, rfl, rfl, SqL.of e, rfl, _, _, rfl, rfl, _, rfl, a, _, _, 1, rfl, rfl, e, rfl, ?_⟩
  have e1 : upd H a (.lst [.int x, .int (c + 1), .bl b]) a = some (.lst [.int x, .int (c + 1), .bl b]) := upd_same
  refine ⟨_, rfl, a, _, _, _, rfl, rfl, SqL.of e1, rfl, ?_⟩
  refine ⟨_, rfl, a, _, _, _, rfl, rfl, SqL.of e1, rfl, _, rfl, ?_⟩
  refine ite2 (fun hc => ?_) (fun hc => ?_)
  · refine ⟨_, rfl, a, _, _, _, rfl, rfl, SqL.of e1, rfl, 10, 6, rfl, rfl, ⟨by decide, by decide, by decide⟩, _, _, rfl, rfl, (by show (0 : Int) < 10 ^ 6; decide), ?_⟩
    refine ⟨_, rfl, a, _, _, _, rfl, rfl, SqL.of e1, rfl, 10, 6, rfl, rfl, ⟨by decide, by decide, by decide⟩, _, _, rfl, rfl, ⟨by show (0 : Int) < 10 ^ 6; decide, by show (10 : Int) ^ 6 < 1073741824; decide⟩, _, rfl, a, _, _, 0, rfl, rfl, e1, rfl, ?_⟩
    refine ⟨_, rfl, ?_⟩
    refine q _ _ (fun b' o nb hb' => ?_) ⟨x / 10 ^ 6, c + 1, b, upd_same, Int.ediv_nonneg h0 (by decide), by omega, by omega⟩ ⟨x % 10 ^ 6, rfl, Int.emod_nonneg _ (by decide), ?_⟩
    · rw [upd_ne nb, upd_ne nb]; exact hb'
    · have z : x % 10 ^ 6 < 10 ^ 6 := Int.emod_lt_of_pos _ (by decide)
      have z2 : (10 : Int) ^ 6 = 1000000 := by decide
      omega
  · have m1 : ∀ i : Int, 0 ≤ i % 2147483629 ∧ i % 2147483629 < 2147483629 := fun i => ⟨Int.emod_nonneg _ (by decide), Int.emod_lt_of_pos _ (by decide)⟩
    have m2 : ∀ i : Int, 0 ≤ i % 2147483587 ∧ i % 2147483587 < 2147483587 := fun i => ⟨Int.emod_nonneg _ (by decide), Int.emod_lt_of_pos _ (by decide)⟩
    have m3 : ∀ i : Int, 0 ≤ i % 2147483579 ∧ i % 2147483579 < 2147483579 := fun i => ⟨Int.emod_nonneg _ (by decide), Int.emod_lt_of_pos _ (by decide)⟩
    have lc : -(2 ^ 64) < c + 1 ∧ c + 1 < 2 ^ 64 := by omega
    refine ⟨_, rfl, a, _, _, _, rfl, rfl, SqL.of e1, rfl, _, _, rfl, rfl, (by show (0 : Int) < 1000003; decide), _, rfl, _, rfl, _, _, rfl, rfl, .inl lc, _, _, rfl, rfl, .inr ⟨by decide, by decide⟩, _, _, rfl, rfl, _, rfl, _, _, rfl, rfl, _, _, rfl, rfl, .inr ⟨by decide, by decide⟩, _, _, rfl, rfl, (by show (0 : Int) < 2147483629; decide), ?_⟩
    refine ⟨_, rfl, _, rfl, _, _, rfl, rfl, .inl ⟨?_, ?_⟩, _, _, rfl, rfl, (by show (0 : Int) < 2147483587; decide), ?_⟩
    · exact Int.lt_of_lt_of_le (by decide) (m1 _).1
    · exact Int.lt_trans (m1 _).2 (by decide)
    refine ⟨_, rfl, _, rfl, _, _, rfl, rfl, _, _, rfl, rfl, .inl ⟨?_, ?_⟩, _, _, rfl, rfl, (by show (0 : Int) < 2147483579; decide), _, _, rfl, rfl, ⟨by show (0 : Int) < 7; decide, by show (7 : Int) < 1073741824; decide⟩, ?_⟩
    · exact Int.lt_of_lt_of_le (by decide) (m2 _).1
    · exact Int.lt_trans (m2 _).2 (by decide)
    refine q _ _ (fun b' o nb hb' => ?_) ⟨x, c + 1, b, upd_same, h0, by omega, by omega⟩ ⟨_, rfl, Int.ediv_nonneg (m3 _).1 (by decide), ?_⟩
    · rw [upd_ne nb]; exact hb'
    · have z := m3 ((((((x % 1000003 + (c + 1) * (c + 1) * 7919 + (c + 1)) * 48271 % 2147483629) * ((x % 1000003 + (c + 1) * (c + 1) * 7919 + (c + 1)) * 48271 % 2147483629)) % 2147483587) * ((((x % 1000003 + (c + 1) * (c + 1) * 7919 + (c + 1)) * 48271 % 2147483629) * ((x % 1000003 + (c + 1) * (c + 1) * 7919 + (c + 1)) * 48271 % 2147483629)) % 2147483587 + 2)))
      generalize hy : (((((x % 1000003 + (c + 1) * (c + 1) * 7919 + (c + 1)) * 48271 % 2147483629) * ((x % 1000003 + (c + 1) * (c + 1) * 7919 + (c + 1)) * 48271 % 2147483629)) % 2147483587) * ((((x % 1000003 + (c + 1) * (c + 1) * 7919 + (c + 1)) * 48271 % 2147483629) * ((x % 1000003 + (c + 1) * (c + 1) * 7919 + (c + 1)) * 48271 % 2147483629)) % 2147483587 + 2)) % 2147483579 = y at z ⊢
      omega
theorem ok_draws (F : Fun K "_law_draws" "_law_draws" s_law_draws f fd) (m_range : mg "range" = none) : FnOk P w K mg base CX0 1 f fd ["_law_cell"] spDraws := by
  refine F.ok sc_law_draws (fun vs H Q E h => ?_) (fun cdv A outer s H vs Q E hr h => ?_)
  · obtain ⟨c, rfl, _⟩ := h
    rfl
  obtain ⟨c, rfl, q⟩ := h
  refine ⟨_, (pss_cons (ps_set (i := 1) sc_law_draws.nd rfl (.inl rfl) (pe_op op_pow pe_int pe_int))
  (pss_cons (ps_for PassesOwn.never rfl (pi_range1 rfl m_range (pa_cons pe_int pa_nil)) (pg_name (i := 2) sc_law_draws.nd rfl (.inl rfl)) (pss_one (ps_set (i := 1) sc_law_draws.nd rfl (.inl rfl) (pe_op op_mulW (pv 1) (pv 1)))))
  (pss_one (ps_ret (pe_lst (pa_cons (pe_op op_mod (pv 0) (pv 1)) (pa_cons pe_int (pa_cons (pe_cmpR op_ge (pv 0) (pe_op op_pow pe_int pe_int) (nomark _)) pa_nil)))))))), ?_⟩
  refine ⟨10, 60, rfl, rfl, ⟨by decide, by decide, by decide⟩, ?_⟩
  refine ⟨7, rfl, by decide, by decide, for_range (n := 7) (fun i σ H' => H' = H ∧ ∃ (k : Int) (t : Option V), σ = [some (.int c), some (.int k), t] ∧ 0 < k ∧ k.natAbs < 2 ^ (200 * 2 ^ i)) ?_ ?_ ?_⟩
  · exact ⟨rfl, 10 ^ 60, none, rfl, by decide +kernel, by decide +kernel⟩
  · rintro i σ H' hi ⟨rfl, k, t, rfl, h0, hk⟩
    have hp : 200 * 2 ^ i ≤ 200 * 2 ^ 6 := Nat.mul_le_mul_left _ (Nat.pow_le_pow_right (by decide) (by omega))
    have hp0 : 0 < 200 * 2 ^ i := Nat.mul_pos (by decide) (Nat.pow_pos (by decide))
    refine ⟨_, rfl, _, rfl, _, _, rfl, rfl, wide_mul hk hk hp0 hp0 (by omega), ?_⟩
    refine ⟨rfl, k * k, _, rfl, Int.mul_pos h0 h0, ?_⟩
    have e : 200 * 2 ^ (i + 1) = 200 * 2 ^ i + 200 * 2 ^ i := by rw [Nat.pow_succ]; omega
    rw [e]
    exact wide_lt hk hk
  · rintro σ H' ⟨rfl, k, t, rfl, h0, hk⟩
    refine ⟨_, rfl, _, rfl, _, _, rfl, rfl, h0, _, rfl, 10, 18, rfl, rfl, ⟨by decide, by decide, by decide⟩, _, _, rfl, rfl, (by show 3 ≤ sizeLine; decide), fun p hp => q p _ (same_new hp) hp ⟨_, _, _, upd_same, Int.emod_nonneg _ (by omega), by decide, by decide⟩⟩
end
/-! ### exact data -/
def tyD (a : Addr) (d : PyData) : Ty a := ⟨fun v H => Dq a H v d, fun v H H' g h => h.gx g⟩
def tyLs (a : Addr) (Rs : List (Ty a)) : Ty a := ⟨fun v H => ∃ p xs, v = .ref p ∧ p ≠ a ∧ H p = some (.lst xs) ∧ TAll a H Rs xs, fun v H H' g h => by
  obtain ⟨p, xs, e, np, hp, t⟩ := h
  exact ⟨p, xs, e, np, g _ _ np hp, t.st g⟩⟩
def tyWl (a : Addr) (ds : List PyData) : Ty a := ⟨fun v H => ∃ p xs, v = .ref p ∧ p ≠ a ∧ H p = some (.lst xs) ∧ DqL a H xs ds, fun v H H' g h => by
  obtain ⟨p, xs, e, np, hp, t⟩ := h
  exact ⟨p, xs, e, np, g _ _ np hp, t.st fun b xs n e => g _ _ n e⟩⟩
def tyRow (a : Addr) (d : PyData) (z : Str) (ds : List PyData) (c : Int) : Ty a := ⟨fun v H => ∃ p tv wv, v = .ref p ∧ p ≠ a ∧ H p = some (.tup [tv, .str z, wv, .int c]) ∧ Dq a H tv d ∧ (tyWl a ds).p wv H, fun v H H' g h => by
  obtain ⟨p, tv, wv, e, np, hp, h1, h2⟩ := h
  exact ⟨p, tv, wv, e, np, g _ _ np hp, h1.gx g, (tyWl a ds).st _ _ _ g h2⟩⟩
section
variable {a : Addr} {G : List (Option (Ty a))}
def GAD (a : Addr) (m : Nat) (G : List (Option (Ty a))) (ta : TA) (ds : List PyData) : Prop := GA a m G ta (ds.map (tyD a))
theorem gad_nil : GAD a 0 G tNil [] := ga_nil
theorem gad_cons {m1 m2 : Nat} {te : TE} {ta : TA} {d : PyData} {ds : List PyData} (h : GE a m1 G te (tyD a d)) (hr : GAD a m2 G ta ds) : GAD a (m1 + m2) G (tCons te ta) (d :: ds) := ga_cons h hr
theorem dql_of {H : Hp} : ∀ {ds : List PyData} {vs : List V}, TAll a H (ds.map (tyD a)) vs → DqL a H vs ds
  | [], _, h => by cases h; exact .nil
  | d :: ds, _, h => by
    cases h with
    | cons p r => exact .cons p (dql_of r)
theorem gd_int (i : Int) : GE a 0 G (tC (.int i)) (tyD a (.int i)) := fun n σ H _ c d Q q => q _ H (Gx.refl a H) d (.int i)
theorem gd_str (z : Str) : GE a 0 G (tC (.str z)) (tyD a (.str z)) := fun n σ H _ c d Q q => q _ H (Gx.refl a H) d (.str z)
theorem gd_tup {m : Nat} {ta : TA} {ds : List PyData} (h : GAD a m G ta ds) (hl : ds.length ≤ 1000 := by simp) : GE a m G (tTup ta) (tyD a (.tuple ds)) := g_tup h (fun vs H p np hp t => .tup np hp (dql_of t)) (by rw [List.length_map]; exact hl)
theorem gd_lst {m : Nat} {ta : TA} {ds : List PyData} (h : GAD a m G ta ds) (hl : ds.length ≤ 1000 := by simp) : GE a m G (tLst ta) (tyWl a ds) := fun n σ H hn c d Q q =>
  h n σ H hn c d _ fun vs H1 g1 d1 ps => by
    have len := ps.len
    rw [List.length_map] at len
    refine ⟨Nat.le_of_lt (small1000 (by rw [len]; exact hl)), fun p hp => q _ _ (g1.trans (Gx.new hp)) (d1.upd (d1.ne hp)) ⟨p, vs, rfl, d1.ne hp, upd_same, (dql_of ps).st fun b xs nb e => by rw [upd_ne (ne_of_none e hp)]; exact e⟩⟩
theorem gx_lst {m : Nat} {ta : TA} {Rs : List (Ty a)} (h : GA a m G ta Rs) (hl : Rs.length ≤ 1000 := by simp) : GE a m G (tLst ta) (tyLs a Rs) := fun n σ H hn c d Q q =>
  h n σ H hn c d _ fun vs H1 g1 d1 ps => ⟨Nat.le_of_lt (small1000 (by rw [ps.len]; exact hl)), fun p hp => q _ _ (g1.trans (Gx.new hp)) (d1.upd (d1.ne hp)) ⟨p, vs, rfl, d1.ne hp, upd_same, ps.st (Gx.new hp)⟩⟩
theorem tall_app {H : Hp} : ∀ {Rs Ss : List (Ty a)} {xs ys : List V}, TAll a H Rs xs → TAll a H Ss ys → TAll a H (Rs ++ Ss) (xs ++ ys)
  | _, _, _, _, .nil, h => h
  | _, _, _, _, .cons p r, h => .cons p (tall_app r h)
theorem gx_cat {m1 m2 : Nat} {ta tb : TE} {Rs Ss : List (Ty a)} (ha : GE a m1 G ta (tyLs a Rs)) (hb : GE a m2 G tb (tyLs a Ss)) (hl : Rs.length + Ss.length ≤ 1000 := by simp) : GE a (m1 + m2) G (tOp rCat ta tb) (tyLs a (Rs ++ Ss)) :=
  g_op ha hb fun x y H hx hy n d Kk q => by
    obtain ⟨p, xs, rfl, np, hp, tp⟩ := hx
    obtain ⟨r, ys, rfl, nr, hr, tr⟩ := hy
    have l1 := tp.len
    have l2 := tr.len
    refine ⟨p, r, xs, ys, rfl, rfl, hp, hr, Nat.le_of_lt (small1000 (by omega)), fun l hl => q _ _ (Gx.new hl) (d.upd (d.ne hl)) ⟨l, xs ++ ys, rfl, d.ne hl, upd_same, (tall_app tp tr).st (Gx.new hl)⟩⟩
theorem tall_at {H : Hp} : ∀ {Rs : List (Ty a)} {xs : List V} {j : Nat} {R : Ty a}, TAll a H Rs xs → Rs[j]? = some R → ∃ v, xs[j]? = some v ∧ R.p v H
  | _, _, 0, _, .cons p _, h => by
    cases h
    exact ⟨_, rfl, p⟩
  | _, _, j + 1, _, .cons _ r, h => by
    obtain ⟨v, e, p⟩ := tall_at r (by simpa using h)
    exact ⟨v, by simpa using e, p⟩
/-- xs[j], each item's type known -/
theorem gx_ix {K : PySem.W.Frag} {m1 m2 k j : Nat} {ta tb : TE} {T : Nat → Ty a} (ha : GE a m1 G ta (tyLs a ((List.range k).map T))) (hb : GE a m2 G tb (tyD a (.int (j : Int)))) (hj : j < k) : GE a (m1 + m2) G (tOp (rIxL K) ta tb) (T j) :=
  g_op ha hb fun x y H hx hy n d Kk q => by
    obtain ⟨p, xs, rfl, np, hp, tp⟩ := hx
    cases hy
    obtain ⟨v, e, pv⟩ := tall_at (j := j) (R := T j) tp (by simp [hj])
    exact ⟨p, xs, (j : Int), v, rfl, rfl, SqL.of hp, atI_nat e, q v H (Gx.refl a H) d pv⟩
theorem dql_at {H : Hp} : ∀ {ds : List PyData} {vs : List V} {j : Nat} {e : PyData}, DqL a H vs ds → ds[j]? = some e → ∃ v, vs[j]? = some v ∧ Dq a H v e
  | _, _, 0, _, .cons p _, h => by
    cases h
    exact ⟨_, rfl, p⟩
  | _, _, j + 1, _, .cons _ r, h => by
    obtain ⟨v, e, p⟩ := dql_at r (by simpa using h)
    exact ⟨v, by simpa using e, p⟩
/-- t[j] of exact data -/
theorem gd_ixT {K : PySem.W.Frag} {m1 j : Nat} {ta : TE} {ds : List PyData} {e : PyData} (ha : GE a m1 G ta (tyD a (.tuple ds))) (hj : ds[j]? = some e) : GE a (m1 + 0) G (tOp (rIxT K) ta (tC (.int (j : Int)))) (tyD a e) :=
  g_op ha (gd_int (j : Int)) fun x y H hx hy n d Kk q => by
    cases hx with
    | tup np hp hl =>
    cases hy
    obtain ⟨v, ev, pv⟩ := dql_at hl hj
    exact ⟨_, _, (j : Int), v, rfl, rfl, SqT.of hp, atI_nat ev, q v H (Gx.refl a H) d pv⟩
theorem gd_I0 {m1 m2 : Nat} {ta tb : TE} {f : Int → Int → Int} {i j : Int} (ha : GE a m1 G ta (tyD a (.int i))) (hb : GE a m2 G tb (tyD a (.int j))) : GE a (m1 + m2) G (tOp (rI0 fun i j => .int (f i j)) ta tb) (tyD a (.int (f i j))) :=
  g_op ha hb fun x y H hx hy n d Kk q => by
    cases hx
    cases hy
    exact ⟨i, j, rfl, rfl, q _ H (Gx.refl a H) d (.int _)⟩
theorem gd_I {m1 m2 : Nat} {ta tb : TE} {C : Int → Int → Prop} {f : Int → Int → Int} {i j : Int} (ha : GE a m1 G ta (tyD a (.int i))) (hb : GE a m2 G tb (tyD a (.int j))) (hc : C i j) : GE a (m1 + m2) G (tOp (rI C fun i j => .int (f i j)) ta tb) (tyD a (.int (f i j))) :=
  g_op ha hb fun x y H hx hy n d Kk q => by
    cases hx
    cases hy
    exact ⟨i, j, rfl, rfl, hc, q _ H (Gx.refl a H) d (.int _)⟩
theorem gd_addS {m1 m2 : Nat} {ta tb : TE} {i j : Str} (ha : GE a m1 G ta (tyD a (.str i))) (hb : GE a m2 G tb (tyD a (.str j))) (hl : i.length + j.length ≤ 1000) : GE a (m1 + m2) G (tOp (fun x y H Q => ∃ i j, x = .str i ∧ y = .str j ∧ i.length + j.length ≤ sizeLine ∧ Q (.str (i ++ j)) H) ta tb) (tyD a (.str (i ++ j))) :=
  g_op ha hb fun x y H hx hy n d Kk q => by
    cases hx
    cases hy
    exact ⟨i, j, rfl, rfl, Nat.le_of_lt (small1000 hl), q _ H (Gx.refl a H) d (.str _)⟩
theorem gd_strI {m1 : Nat} {ta : TE} {i : Int} (ha : GE a m1 G ta (tyD a (.int i))) (hb : i.natAbs.log2 < 1920) : GE a (m1 + 0) G (tCB (fun xs H Q => ∃ i : Int, xs = [.int i] ∧ i.natAbs.log2 < 1920 ∧ Q (.str (toString i)) H) (tCons ta tNil)) (tyD a (.str (toString i))) := fun n σ H hn c d K k =>
  ha n σ H (by omega) c d _ fun v H1 g1 d1 p1 => by
    cases p1
    exact ⟨i, rfl, hb, k _ H1 g1 d1 (.str _)⟩
theorem g_row {m : Nat} {ta : TA} {d : PyData} {z : Str} {ds : List PyData} {c : Int} (h : GA a m G ta [tyD a d, tyD a (.str z), tyWl a ds, tyD a (.int c)]) : GE a m G (tTup ta) (tyRow a d z ds c) := g_tup h fun vs H p np hp t => by
  cases t with
  | cons h1 t =>
  cases t with
  | cons h2 t =>
  cases t with
  | cons h3 t =>
  cases t with
  | cons h4 t =>
  cases t
  cases h2
  cases h4
  exact ⟨p, _, _, rfl, np, hp, h1, h3⟩
/-- by what a slot holds -/
theorem gs_exi {Z : Type} {m i : Nat} {t : TS} {P R : Ty a} {Q : Z → Ty a} {G' : Option (List (Option (Ty a)))} (h : G[i]? = some (some P)) (w : ∀ v H, P.p v H → ∃ z, (Q z).p v H) (h1 : ∀ z, GS a m (G.set i (some (Q z))) t G' R) : GS a m G t G' R := fun n σ H D hn c d k1 k2 => by
  obtain ⟨v, e, p⟩ := c.at_ i P h
  have e2 : σ.set i (some v) = σ := by
    obtain ⟨hi, e1⟩ := List.getElem?_eq_some_iff.mp e
    rw [← e1]
    exact List.set_getElem_self hi
  obtain ⟨z, pz⟩ := w v H p
  have c1 := c.set (i := i) pz
  rw [e2] at c1
  exact h1 z n σ H D hn c1 d k1 k2
end
/-! ### the pieces -/
def tyNum (a : Addr) : Ty a := ⟨fun v H => ∃ i : Int, -5 ≤ i ∧ i ≤ 14 ∧ Dq a H v (dNum i), fun v H H' g h => by
  obtain ⟨i, h1, h2, h3⟩ := h
  exact ⟨i, h1, h2, h3.gx g⟩⟩
def spPairL : Sp := fun vs H Q E => ∃ d1 d2, spG 0 (fun a => [tyD a d1, tyD a d2]) (fun a => tyD a (dOp2 "pair" d1 d2)) vs H Q E
def spEndL : Sp := fun vs H Q E => ∃ d, spG 0 (fun a => [tyD a d]) (fun a => tyD a (dEnd d)) vs H Q E
abbrev spNum' : Sp := spG 1 (fun a => [tyIs a (.ref a)]) (fun a => tyNum a)
theorem spPairL_iff {d1 d2 : PyData} {vs : List V} {H : Hp} {Q : VK} {E : XK} (h : spG 0 (fun a => [tyD a d1, tyD a d2]) (fun a => tyD a (dOp2 "pair" d1 d2)) vs H Q E) : spPairL vs H Q E := ⟨d1, d2, h⟩
theorem g_pair {a : Addr} {G : List (Option (Ty a))} {m1 : Nat} {E : XK} {ta : TA} {d1 d2 : PyData} (h : GA a m1 G ta [tyD a d1, tyD a d2]) : GE a (m1 + 0) G (tCall spPairL [] E ta) (tyD a (dOp2 "pair" d1 d2)) := fun n σ H hn c d Q q =>
  h n σ H (by omega) c d _ fun vs H1 g1 d1' ps => ⟨d1, d2, a, n + m1, by omega, d1', by rw [List.append_nil]; exact ps, fun v H2 g2 d2 p2 => q v H2 (g1.trans g2) (d2.mono (by omega)) p2⟩
section
variable {P : Program} {w : World} {K : PySem.W.Frag} {mg : Str → Option Value} {base : Heap} {f : Addr} {fd : FuncData}
theorem ok_pairL (F : Fun K "_law_pair" "_law_pair" s_law_pair f fd) : FnOk P w K mg base CX0 1 f fd ["_law_one", "_law_two"] spPairL := by
  refine F.ok sc_law_pair (fun vs H Q E h => ?_) (fun cdv A outer s H vs Q E hr h => ?_)
  · obtain ⟨d1, d2, a, n, _, _, ps, _⟩ := h
    exact ps.len
  obtain ⟨d1, d2, a, n, hn, hd, ps, q⟩ := h
  refine ⟨_, (pss_one (ps_ret (pe_tup (pa_cons pe_str (pa_cons pe_str (pa_cons (pe_tup (pa_cons (pv 0) (pa_cons (pv 1) pa_nil))) pa_nil)))))), ?_⟩
  have g : GS a 0 ([tyD a d1, tyD a d2].map some) (tRet (tTup (tCons (tC (.str "op")) (tCons (tC (.str "pair")) (tCons (tTup (tCons (tVar 0) (tCons (tVar 1) tNil))) tNil))))) none (tyD a (dOp2 "pair" d1 d2)) := gs_ret (gd_tup (gad_cons (gd_str _) (gad_cons (gd_str _) (gad_cons (gd_tup (gad_cons (g_var rfl) (gad_cons (g_var rfl) gad_nil))) gad_nil))))
  exact g n _ H _ hn (ctx_start (N := ["_law_one", "_law_two"]) ps (by show 2 ≤ 2; decide)) hd q fun σ' H' _ _ c => c.elim
theorem ok_endL (F : Fun K "_law_end" "_law_end" s_law_end f fd) (G_law_pair : Has P w K mg base "_law_pair" ["_law_one", "_law_two"] 1 spPairL) : FnOk P w K mg base CX0 2 f fd ["_law_term"] spEndL := by
  refine F.ok sc_law_end (fun vs H Q E h => ?_) (fun cdv A outer s H vs Q E hr h => ?_)
  · obtain ⟨d1, a, n, _, _, ps, _⟩ := h
    exact ps.len
  obtain ⟨d1, a, n, hn, hd, ps, q⟩ := h
  refine ⟨_, (pss_one (ps_ret (pe_has G_law_pair (hr.mono (by omega)) (pa_cons (pe_tup (pa_cons pe_str (pa_cons pe_str pa_nil))) (pa_cons (pv 0) pa_nil))))), ?_⟩
  have g : GS a 0 ([tyD a d1].map some) (tRet (tCall spPairL [] E0 (tCons (tTup (tCons (tC (.str "text")) (tCons (tC (.str "worth")) tNil))) (tCons (tVar 0) tNil)))) none (tyD a (dEnd d1)) := gs_ret (g_pair (ga_cons (gd_tup (gad_cons (gd_str _) (gad_cons (gd_str _) gad_nil))) (ga_cons (g_var rfl) ga_nil)))
  exact g n _ H _ hn (ctx_start (N := ["_law_term"]) ps (by show 1 ≤ 1; decide)) hd q fun σ' H' _ _ c => c.elim
theorem ok_numL (F : Fun K "_law_num" "_law_num" s_law_num f fd) (G_law_next : Has P w K mg base "_law_next" ["_law_dr"] 1 spNext) : FnOk P w K mg base CX0 2 f fd ["_law_dr"] spNum' := by
  refine fun_G F sc_law_num (fun a => rfl) (by decide) fun cdv A outer s H E hr => ⟨_, (pss_one (ps_ret (pe_tup (pa_cons pe_str (pa_cons (pe_op op_sub (pe_op op_mod (pe_has G_law_next (hr.mono (by omega)) (pa_cons (pv 0) pa_nil)) pe_int) pe_int) pa_nil))))), fun a => ?_⟩
  refine GS.up (gs_ret (g_tup (ga_cons (g_str "num") (ga_cons (g_I0 (g_mod (g_call (ga_cons (g_var rfl) ga_nil)) (by decide)) (g_int 5) (r := fun i => -5 ≤ i ∧ i ≤ 14) (fun i j hi hj => by omega)) ga_nil)) fun vs H p np hp t => ?_)) (by decide)
  cases t with
  | cons h1 t =>
  cases t with
  | cons h2 t =>
  cases t
  obtain ⟨_, rfl, rfl⟩ := h1
  obtain ⟨i, rfl, b1, b2⟩ := h2
  exact ⟨i, b1, b2, .tup np hp (.cons (.str _) (.cons (.int _) .nil))⟩
end
end Wp
set_option Elab.async false
set_option linter.all false
set_option maxRecDepth 100000
set_option maxHeartbeats 2000000
namespace Wp
open PySem PySem.Spec PyProof.Rows L2
-- _law_good: slots _law_dr 0, _law_pick 1, _law_a 2, _law_b 3, _law_listed 4, _law_word 5, _law_number 6, _law_tried 7, _law_bad 8, _law_held 9, _law_kind 10, _law_wound 11, _law_let 12, _law_cells 13, _law_some 14
abbrev s_law_good : Stmt := top 99
theorem sc_law_good : FnScope ["_law_dr", "_law_pick", "_law_a", "_law_b", "_law_listed", "_law_word", "_law_number", "_law_tried", "_law_bad", "_law_held", "_law_kind", "_law_wound", "_law_let", "_law_cells", "_law_some"] ["_law_dr"] (defScope s_law_good) := ⟨rfl, rfl, rfl, by decide +kernel, rfl, by decide +kernel, by decide +kernel⟩
abbrev sl_law_good : List Str := ["_law_dr", "_law_pick", "_law_a", "_law_b", "_law_listed", "_law_word", "_law_number", "_law_tried", "_law_bad", "_law_held", "_law_kind", "_law_wound", "_law_let", "_law_cells", "_law_some"]
-- _law_stuck: slots _law_dr 0, _law_a 1, _law_some 2
abbrev s_law_stuck : Stmt := top 100
theorem sc_law_stuck : FnScope ["_law_dr", "_law_a", "_law_some"] ["_law_dr"] (defScope s_law_stuck) := ⟨rfl, rfl, rfl, by decide +kernel, rfl, by decide +kernel, by decide +kernel⟩
abbrev sl_law_stuck : List Str := ["_law_dr", "_law_a", "_law_some"]
/-! ### the drawn terms -/
def wordJ : Nat → Str
  | 0 => "plus"
  | 1 => "minus"
  | _ => "times"
def numJ (a b : Int) : Nat → Int
  | 0 => a + b
  | 1 => a - b
  | _ => a * b
def pkJ : Nat → Str
  | 0 => "point"
  | _ => "part"
abbrev dList (a b : Int) : PyData := dOp2 "pair" (dNum a) (dOp2 "pair" (dNum b) dNone)
def dG (a b : Int) (j h : Nat) : Nat → PyData
  | 0 => dOp2 "tried" (dText (wordJ j)) (dList a b)
  | 1 => dOp2 "tried" (dText "joined") (dList a b)
  | 2 => dOp1 "inside" (dOp1 (pkJ h) (dNum a))
  | 3 => dOp1 "kind" (dOp1 (pkJ h) (dNum a))
  | 4 => dWound b
  | 5 => dLet "x" (dNum a) (dOp2 "plus" (dName "x") (dNum b))
  | _ => dCells a b
def zG (a b : Int) (j h : Nat) : Nat → Str
  | 0 => "(yes . " ++ toString (numJ a b j) ++ ")"
  | 1 => "(no . \"no text\")"
  | 2 => toString a
  | 3 => "\"" ++ pkJ h ++ "\""
  | 4 => "none"
  | 5 => toString (a + b)
  | _ => toString b
def lG (b : Int) : Nat → List PyData
  | 4 => [.tuple [.str "in", .int b]]
  | _ => []
def cG : Nat → Int
  | 0 => 7
  | 1 => 7
  | 2 => 3
  | 3 => 3
  | 4 => 3
  | 5 => 5
  | _ => 9
def Sml (i : Int) : Prop := -5 ≤ i ∧ i ≤ 14
def tyGood (a : Addr) : Ty a := ⟨fun v H => ∃ x y j h r, Sml x ∧ Sml y ∧ j < 3 ∧ h < 2 ∧ r < 7 ∧ (tyRow a (dG x y j h r) (zG x y j h r) (lG y r) (cG r)).p v H, fun v H H' g hh => by
  obtain ⟨x, y, j, h, r, h1, h2, h3, h4, h5, h6⟩ := hh
  exact ⟨x, y, j, h, r, h1, h2, h3, h4, h5, (tyRow a _ _ _ _).st _ _ _ g h6⟩⟩
def spGood : Sp := spG 3 (fun a => [tyIs a (.ref a)]) (fun a => tyGood a)
section
variable {a : Addr} {G : List (Option (Ty a))}
theorem gd_pick {p k1 k2 : Int} {j : Nat} (h : G[1]? = some (some (tyD a (.int p)))) (h1 : 0 < k1 ∧ k1 < 1073741824) (h2 : 0 < k2) (e : p / k1 % k2 = (j : Int)) : GE a 0 G (tOp (rI (fun _ j => 0 < j) fun i j => .int (i % j)) (tOp (rI CDiv fun i j => .int (i / j)) (tVar 1) (tC (.int k1))) (tC (.int k2))) (tyD a (.int (j : Int))) := by
  rw [← e]
  exact gd_I (f := fun i j => i % j) (gd_I (f := fun i j => i / j) (g_var h) (gd_int k1) h1) (gd_int k2) h2
theorem gd_pick1 {p k2 : Int} {j : Nat} (h : G[1]? = some (some (tyD a (.int p)))) (h2 : 0 < k2) (e : p % k2 = (j : Int)) : GE a 0 G (tOp (rI (fun _ j => 0 < j) fun i j => .int (i % j)) (tVar 1) (tC (.int k2))) (tyD a (.int (j : Int))) := by
  rw [← e]
  exact gd_I (f := fun i j => i % j) (g_var h) (gd_int k2) h2
end
theorem sml_log {i : Int} (h : -1000 ≤ i ∧ i ≤ 1000) : i.natAbs.log2 < 1920 := by
  have h1 : i.natAbs ≤ 1000 := by omega
  have h2 : i.natAbs.log2 ≤ i.natAbs := Nat.log2_le_self _
  omega
theorem toS_len : ∀ k : Nat, k < 2001 → (toString ((k : Int) - 1000) : Str).length ≤ 10 := by decide +kernel
theorem toS_small {i : Int} (h : -1000 ≤ i ∧ i ≤ 1000) : (toString i : Str).length ≤ 10 := by
  have := toS_len (i + 1000).toNat (by omega)
  have e : (((i + 1000).toNat : Nat) : Int) - 1000 = i := by omega
  rw [e] at this
  exact this
theorem numJ_b {x y : Int} {j : Nat} (hx : Sml x) (hy : Sml y) : -1000 ≤ numJ x y j ∧ numJ x y j ≤ 1000 := by
  obtain ⟨x1, x2⟩ := hx
  obtain ⟨y1, y2⟩ := hy
  match j with
  | 0 => show -1000 ≤ x + y ∧ x + y ≤ 1000; omega
  | 1 => show -1000 ≤ x - y ∧ x - y ≤ 1000; omega
  | _ + 2 =>
    show -1000 ≤ x * y ∧ x * y ≤ 1000
    have h1 : (x * y).natAbs ≤ 14 * 14 := by
      rw [Int.natAbs_mul]
      exact Nat.mul_le_mul (by omega) (by omega)
    omega
section
variable {P : Program} {w : World} {K : PySem.W.Frag} {mg : Str → Option Value} {base : Heap} {f : Addr} {fd : FuncData}
theorem ok_good (F : Fun K "_law_good" "_law_good" s_law_good f fd) (m_str : mg "str" = none) (G_law_next : Has P w K mg base "_law_next" ["_law_dr"] 1 spNext) (G_law_num : Has P w K mg base "_law_num" ["_law_dr"] 2 spNum') (G_law_pair : Has P w K mg base "_law_pair" ["_law_one", "_law_two"] 1 spPairL) : FnOk P w K mg base CX0 3 f fd ["_law_dr"] spGood := by
  refine fun_G F sc_law_good (fun a => rfl) (by decide) fun cdv A outer s H E hr => ⟨_, (pss_cons (ps_set (i := 1) sc_law_good.nd rfl (.inl rfl) (pe_has G_law_next (hr.mono (by omega)) (pa_cons (pv 0) pa_nil)))
  (pss_cons (ps_par (i := 2) (j := 3) rfl sc_law_good.nd rfl rfl (by decide) rfl rfl (pa_cons (pe_has G_law_num (hr.mono (by omega)) (pa_cons (pv 0) pa_nil)) (pa_cons (pe_has G_law_num (hr.mono (by omega)) (pa_cons (pv 0) pa_nil)) pa_nil)) rfl)
  (pss_cons (ps_set (i := 4) sc_law_good.nd rfl (.inl rfl) (pe_has G_law_pair (hr.mono (by omega)) (pa_cons (pv 2) (pa_cons (pe_has G_law_pair (hr.mono (by omega)) (pa_cons (pv 3) (pa_cons (pe_tup (pa_cons pe_str pa_nil)) pa_nil))) pa_nil))))
  (pss_cons (ps_set (i := 5) sc_law_good.nd rfl (.inl rfl) (pe_ix ix_list (pe_lst (pa_cons pe_str (pa_cons pe_str (pa_cons pe_str pa_nil)))) (pe_op op_mod (pe_op op_fdiv (pv 1) pe_int) pe_int) (fun _ _ => rfl)))
  (pss_cons (ps_set (i := 6) sc_law_good.nd rfl (.inl rfl) (pe_ix ix_list (pe_lst (pa_cons (pe_op op_add (pe_ix ix_tup (pv 2) pe_int (fun _ _ => rfl)) (pe_ix ix_tup (pv 3) pe_int (fun _ _ => rfl))) (pa_cons (pe_op op_sub (pe_ix ix_tup (pv 2) pe_int (fun _ _ => rfl)) (pe_ix ix_tup (pv 3) pe_int (fun _ _ => rfl))) (pa_cons (pe_op op_mul (pe_ix ix_tup (pv 2) pe_int (fun _ _ => rfl)) (pe_ix ix_tup (pv 3) pe_int (fun _ _ => rfl))) pa_nil)))) (pe_op op_mod (pe_op op_fdiv (pv 1) pe_int) pe_int) (fun _ _ => rfl)))
  (pss_cons (ps_set (i := 7) sc_law_good.nd rfl (.inl rfl) (pe_tup (pa_cons pe_str (pa_cons pe_str (pa_cons (pe_tup (pa_cons (pe_tup (pa_cons pe_str (pa_cons (pv 5) pa_nil))) (pa_cons (pv 4) pa_nil))) pa_nil)))))
  (pss_cons (ps_set (i := 8) sc_law_good.nd rfl (.inl rfl) (pe_tup (pa_cons pe_str (pa_cons pe_str (pa_cons (pe_tup (pa_cons (pe_tup (pa_cons pe_str (pa_cons pe_str pa_nil))) (pa_cons (pv 4) pa_nil))) pa_nil)))))
  (pss_cons (ps_set (i := 9) sc_law_good.nd rfl (.inl rfl) (pe_tup (pa_cons pe_str (pa_cons pe_str (pa_cons (pe_tup (pa_cons (pe_tup (pa_cons pe_str (pa_cons (pe_ix ix_list (pe_lst (pa_cons pe_str (pa_cons pe_str pa_nil))) (pe_op op_mod (pe_op op_fdiv (pv 1) pe_int) pe_int) (fun _ _ => rfl)) (pa_cons (pe_tup (pa_cons (pv 2) pa_nil)) pa_nil)))) pa_nil)) pa_nil)))))
  (pss_cons (ps_set (i := 10) sc_law_good.nd rfl (.inl rfl) (pe_tup (pa_cons pe_str (pa_cons pe_str (pa_cons (pe_tup (pa_cons (pe_tup (pa_cons pe_str (pa_cons (pe_ix ix_list (pe_lst (pa_cons pe_str (pa_cons pe_str pa_nil))) (pe_op op_mod (pe_op op_fdiv (pv 1) pe_int) pe_int) (fun _ _ => rfl)) (pa_cons (pe_tup (pa_cons (pv 2) pa_nil)) pa_nil)))) pa_nil)) pa_nil)))))
  (pss_cons (ps_set (i := 11) sc_law_good.nd rfl (.inl rfl) (pe_tup (pa_cons pe_str (pa_cons pe_str (pa_cons (pe_tup (pa_cons (pe_tup (pa_cons pe_str (pa_cons pe_str pa_nil))) (pa_cons (pv 3) pa_nil))) pa_nil)))))
  (pss_cons (ps_set (i := 12) sc_law_good.nd rfl (.inl rfl) (pe_tup (pa_cons pe_str (pa_cons pe_str (pa_cons (pv 2) (pa_cons (pe_tup (pa_cons pe_str (pa_cons pe_str (pa_cons (pe_tup (pa_cons (pe_tup (pa_cons pe_str (pa_cons pe_str pa_nil))) (pa_cons (pv 3) pa_nil))) pa_nil)))) pa_nil))))))
  (pss_cons (ps_set (i := 13) sc_law_good.nd rfl (.inl rfl) (pe_tup (pa_cons pe_str (pa_cons pe_str (pa_cons (pe_tup (pa_cons pe_str (pa_cons (pv 2) pa_nil))) (pa_cons (pe_tup (pa_cons pe_str (pa_cons pe_str (pa_cons (pe_tup (pa_cons pe_str (pa_cons (pe_tup (pa_cons pe_str (pa_cons pe_str pa_nil))) (pa_cons (pv 3) pa_nil)))) (pa_cons (pe_tup (pa_cons pe_str (pa_cons (pe_tup (pa_cons pe_str (pa_cons pe_str pa_nil))) pa_nil))) pa_nil))))) pa_nil))))))
  (pss_cons (ps_set (i := 14) sc_law_good.nd rfl (.inl rfl) (pe_lst (pa_cons (pe_tup (pa_cons (pv 7) (pa_cons (pe_op op_add_str (pe_op op_add_str pe_str (pe_callTy call_str_int rfl m_str PyProof.Rows.Boot.«str» (pa_cons (pv 6) pa_nil))) pe_str) (pa_cons (pe_lst pa_nil) (pa_cons pe_int pa_nil))))) (pa_cons (pe_tup (pa_cons (pv 8) (pa_cons pe_str (pa_cons (pe_lst pa_nil) (pa_cons pe_int pa_nil))))) pa_nil))))
  (pss_cons (ps_set (i := 14) sc_law_good.nd rfl (.inl rfl) (pe_op op_cat (pv 14) (pe_lst (pa_cons (pe_tup (pa_cons (pv 9) (pa_cons (pe_callTy call_str_int rfl m_str PyProof.Rows.Boot.«str» (pa_cons (pe_ix ix_tup (pv 2) pe_int (fun _ _ => rfl)) pa_nil)) (pa_cons (pe_lst pa_nil) (pa_cons pe_int pa_nil))))) (pa_cons (pe_tup (pa_cons (pv 10) (pa_cons (pe_op op_add_str (pe_op op_add_str pe_str (pe_ix ix_list (pe_lst (pa_cons pe_str (pa_cons pe_str pa_nil))) (pe_op op_mod (pe_op op_fdiv (pv 1) pe_int) pe_int) (fun _ _ => rfl))) pe_str) (pa_cons (pe_lst pa_nil) (pa_cons pe_int pa_nil))))) pa_nil)))))
  (pss_cons (ps_set (i := 14) sc_law_good.nd rfl (.inl rfl) (pe_op op_cat (pv 14) (pe_lst (pa_cons (pe_tup (pa_cons (pv 11) (pa_cons pe_str (pa_cons (pe_lst (pa_cons (pe_tup (pa_cons pe_str (pa_cons (pe_ix ix_tup (pv 3) pe_int (fun _ _ => rfl)) pa_nil))) pa_nil)) (pa_cons pe_int pa_nil))))) (pa_cons (pe_tup (pa_cons (pv 12) (pa_cons (pe_callTy call_str_int rfl m_str PyProof.Rows.Boot.«str» (pa_cons (pe_op op_add (pe_ix ix_tup (pv 2) pe_int (fun _ _ => rfl)) (pe_ix ix_tup (pv 3) pe_int (fun _ _ => rfl))) pa_nil)) (pa_cons (pe_lst pa_nil) (pa_cons pe_int pa_nil))))) (pa_cons (pe_tup (pa_cons (pv 13) (pa_cons (pe_callTy call_str_int rfl m_str PyProof.Rows.Boot.«str» (pa_cons (pe_ix ix_tup (pv 3) pe_int (fun _ _ => rfl)) pa_nil)) (pa_cons (pe_lst pa_nil) (pa_cons pe_int pa_nil))))) pa_nil))))))
  (pss_one (ps_ret (pe_ix ix_list (pv 14) (pe_op op_mod (pv 1) pe_int) (fun _ _ => rfl))))))))))))))))))), fun a => ?_⟩
  show GS a 3 [some (tyIs a (.ref a)), none, none, none, none, none, none, none, none, none, none, none, none, none, none] _ none (tyGood a)
  refine gs_seq (m1 := 0 + 0 + 1) (m2 := 2) (gs_set (g_call (ga_cons (g_var rfl) ga_nil))) ?_
  dsimp only [List.set]
  refine gs_exi (i := 1) (Z := { p : Int // 0 ≤ p }) (Q := fun p => tyD a (.int p.1)) rfl (fun v H h => by
    obtain ⟨i, rfl, h1, _⟩ := h
    exact ⟨⟨i, h1⟩, .int i⟩) fun ⟨p, hp⟩ => ?_
  dsimp only [List.set]
  refine gs_seq (m1 := (0 + 0 + 1) + ((0 + 0 + 1) + 0)) (m2 := 0) (gs_par (ga_cons (g_call (ga_cons (g_var rfl) ga_nil)) (ga_cons (g_call (ga_cons (g_var rfl) ga_nil)) ga_nil))) ?_
  dsimp only [List.set]
  refine gs_exi (i := 2) (Z := { x : Int // Sml x }) (Q := fun x => tyD a (dNum x.1)) rfl (fun v H h => by
    obtain ⟨i, h1, h2, h3⟩ := h
    exact ⟨⟨i, h1, h2⟩, h3⟩) fun ⟨x, hx⟩ => ?_
  dsimp only [List.set]
  refine gs_exi (i := 3) (Z := { x : Int // Sml x }) (Q := fun x => tyD a (dNum x.1)) rfl (fun v H h => by
    obtain ⟨i, h1, h2, h3⟩ := h
    exact ⟨⟨i, h1, h2⟩, h3⟩) fun ⟨y, hy⟩ => ?_
  dsimp only [List.set]
  have bj : 0 ≤ p / 16 % 3 ∧ p / 16 % 3 < 3 := ⟨Int.emod_nonneg _ (by decide), Int.emod_lt_of_pos _ (by decide)⟩
  have bh : 0 ≤ p / 64 % 2 ∧ p / 64 % 2 < 2 := ⟨Int.emod_nonneg _ (by decide), Int.emod_lt_of_pos _ (by decide)⟩
  have br : 0 ≤ p % 7 ∧ p % 7 < 7 := ⟨Int.emod_nonneg _ (by decide), Int.emod_lt_of_pos _ (by decide)⟩
  obtain ⟨j, ej⟩ : ∃ j : Nat, p / 16 % 3 = (j : Int) := ⟨(p / 16 % 3).toNat, by omega⟩
  obtain ⟨h, eh⟩ : ∃ j : Nat, p / 64 % 2 = (j : Int) := ⟨(p / 64 % 2).toNat, by omega⟩
  obtain ⟨r, er⟩ : ∃ j : Nat, p % 7 = (j : Int) := ⟨(p % 7).toNat, by omega⟩
  have lj : j < 3 := by omega
  have lh : h < 2 := by omega
  have lr : r < 7 := by omega
  have nb := numJ_b (j := j) hx hy
  obtain ⟨x1, x2⟩ := id hx
  obtain ⟨y1, y2⟩ := id hy
  have pkl : (pkJ h).length ≤ 5 := by
    match h, lh with
    | 0, _ => decide +kernel
    | 1, _ => decide +kernel
  refine gs_seq (m1 := 0) (m2 := 0) (gs_set (g_pair (ga_cons (g_var rfl) (ga_cons (g_pair (ga_cons (g_var rfl) (ga_cons (gd_tup (gad_cons (gd_str "none") gad_nil)) ga_nil))) ga_nil)))) ?_
  dsimp only [List.set]
  refine gs_seq (m1 := 0) (m2 := 0) (gs_set (gx_ix (T := fun j => tyD a (.str (wordJ j))) (k := 3) (gx_lst (ga_cons (gd_str _) (ga_cons (gd_str _) (ga_cons (gd_str _) ga_nil)))) (gd_pick rfl ⟨by decide, by decide⟩ (by decide) ej) lj)) ?_
  dsimp only [List.set]
  refine gs_seq (m1 := 0) (m2 := 0) (gs_set (gx_ix (T := fun j => tyD a (.int (numJ x y j))) (k := 3) (gx_lst (ga_cons (gd_I0 (f := fun i j => i + j) (gd_ixT (j := 1) (g_var rfl) rfl) (gd_ixT (j := 1) (g_var rfl) rfl)) (ga_cons (gd_I0 (f := fun i j => i - j) (gd_ixT (j := 1) (g_var rfl) rfl) (gd_ixT (j := 1) (g_var rfl) rfl)) (ga_cons (gd_I (f := fun i j => i * j) (gd_ixT (j := 1) (g_var rfl) rfl) (gd_ixT (j := 1) (g_var rfl) rfl) (.inl ⟨by omega, by omega⟩)) ga_nil)))) (gd_pick rfl ⟨by decide, by decide⟩ (by decide) ej) lj)) ?_
  dsimp only [List.set]
  refine gs_seq (m1 := 0) (m2 := 0) (gs_set (gd_tup (gad_cons (gd_str "op") (gad_cons (gd_str "tried") (gad_cons (gd_tup (gad_cons (gd_tup (gad_cons (gd_str "text") (gad_cons (g_var rfl) gad_nil))) (gad_cons (g_var rfl) gad_nil))) gad_nil))))) ?_
  dsimp only [List.set]
  refine gs_seq (m1 := 0) (m2 := 0) (gs_set (gd_tup (gad_cons (gd_str "op") (gad_cons (gd_str "tried") (gad_cons (gd_tup (gad_cons (gd_tup (gad_cons (gd_str "text") (gad_cons (gd_str "joined") gad_nil))) (gad_cons (g_var rfl) gad_nil))) gad_nil))))) ?_
  dsimp only [List.set]
  refine gs_seq (m1 := 0) (m2 := 0) (gs_set (gd_tup (gad_cons (gd_str "op") (gad_cons (gd_str "inside") (gad_cons (gd_tup (gad_cons (gd_tup (gad_cons (gd_str "op") (gad_cons (gx_ix (T := fun j => tyD a (.str (pkJ j))) (k := 2) (gx_lst (ga_cons (gd_str _) (ga_cons (gd_str _) ga_nil))) (gd_pick rfl ⟨by decide, by decide⟩ (by decide) eh) lh) (gad_cons (gd_tup (gad_cons (g_var rfl) gad_nil)) gad_nil)))) gad_nil)) gad_nil))))) ?_
  dsimp only [List.set]
  refine gs_seq (m1 := 0) (m2 := 0) (gs_set (gd_tup (gad_cons (gd_str "op") (gad_cons (gd_str "kind") (gad_cons (gd_tup (gad_cons (gd_tup (gad_cons (gd_str "op") (gad_cons (gx_ix (T := fun j => tyD a (.str (pkJ j))) (k := 2) (gx_lst (ga_cons (gd_str _) (ga_cons (gd_str _) ga_nil))) (gd_pick rfl ⟨by decide, by decide⟩ (by decide) eh) lh) (gad_cons (gd_tup (gad_cons (g_var rfl) gad_nil)) gad_nil)))) gad_nil)) gad_nil))))) ?_
  dsimp only [List.set]
  refine gs_seq (m1 := 0) (m2 := 0) (gs_set (gd_tup (gad_cons (gd_str "op") (gad_cons (gd_str "wound") (gad_cons (gd_tup (gad_cons (gd_tup (gad_cons (gd_str "text") (gad_cons (gd_str "in") gad_nil))) (gad_cons (g_var rfl) gad_nil))) gad_nil))))) ?_
  dsimp only [List.set]
  refine gs_seq (m1 := 0) (m2 := 0) (gs_set (gd_tup (gad_cons (gd_str "let") (gad_cons (gd_str "x") (gad_cons (g_var rfl) (gad_cons (gd_tup (gad_cons (gd_str "op") (gad_cons (gd_str "plus") (gad_cons (gd_tup (gad_cons (gd_tup (gad_cons (gd_str "name") (gad_cons (gd_str "x") gad_nil))) (gad_cons (g_var rfl) gad_nil))) gad_nil)))) gad_nil)))))) ?_
  dsimp only [List.set]
  refine gs_seq (m1 := 0) (m2 := 0) (gs_set (gd_tup (gad_cons (gd_str "let") (gad_cons (gd_str "c") (gad_cons (gd_tup (gad_cons (gd_str "cell") (gad_cons (g_var rfl) gad_nil))) (gad_cons (gd_tup (gad_cons (gd_str "let") (gad_cons (gd_str "q") (gad_cons (gd_tup (gad_cons (gd_str "set") (gad_cons (gd_tup (gad_cons (gd_str "name") (gad_cons (gd_str "c") gad_nil))) (gad_cons (g_var rfl) gad_nil)))) (gad_cons (gd_tup (gad_cons (gd_str "get") (gad_cons (gd_tup (gad_cons (gd_str "name") (gad_cons (gd_str "c") gad_nil))) gad_nil))) gad_nil))))) gad_nil)))))) ?_
  dsimp only [List.set]
  have t1 := toS_small nb
  have tl1 : ("(yes . " : Str).length + (toString (numJ x y j) : Str).length ≤ 1000 := by
    have : ("(yes . " : Str).length = 7 := by decide +kernel
    omega
  have tl2 : (("(yes . " : Str) ++ toString (numJ x y j)).length + (")" : Str).length ≤ 1000 := by
    have h1 : ("(yes . " : Str).length = 7 := by decide +kernel
    have h2 : (")" : Str).length = 1 := by decide +kernel
    rw [Str.length_append]
    omega
  have q1 : ("\"" : Str).length = 1 := by decide +kernel
  refine gs_seq (m1 := 0) (m2 := 0) (gs_set (gx_lst (ga_cons (g_row (ga_cons (g_var rfl) (ga_cons (gd_addS (gd_addS (gd_str _) (gd_strI (g_var rfl) (sml_log nb)) tl1) (gd_str _) tl2) (ga_cons (gd_lst gad_nil) (ga_cons (gd_int 7) ga_nil))))) (ga_cons (g_row (ga_cons (g_var rfl) (ga_cons (gd_str _) (ga_cons (gd_lst gad_nil) (ga_cons (gd_int 7) ga_nil))))) ga_nil)))) ?_
  dsimp only [List.set]
  refine gs_seq (m1 := 0) (m2 := 0) (gs_set (gx_cat (g_var rfl) (gx_lst (ga_cons (g_row (ga_cons (g_var rfl) (ga_cons (gd_strI (gd_ixT (j := 1) (g_var rfl) rfl) (sml_log (by omega))) (ga_cons (gd_lst gad_nil) (ga_cons (gd_int 3) ga_nil))))) (ga_cons (g_row (ga_cons (g_var rfl) (ga_cons (gd_addS (gd_addS (gd_str _) (gx_ix (T := fun j => tyD a (.str (pkJ j))) (k := 2) (gx_lst (ga_cons (gd_str _) (ga_cons (gd_str _) ga_nil))) (gd_pick rfl ⟨by decide, by decide⟩ (by decide) eh) lh) (by omega)) (gd_str _) (by rw [Str.length_append]; omega)) (ga_cons (gd_lst gad_nil) (ga_cons (gd_int 3) ga_nil))))) ga_nil))))) ?_
  dsimp only [List.set]
  refine gs_seq (m1 := 0) (m2 := 0) (gs_set (gx_cat (g_var rfl) (gx_lst (ga_cons (g_row (ga_cons (g_var rfl) (ga_cons (gd_str _) (ga_cons (gd_lst (gad_cons (gd_tup (gad_cons (gd_str _) (gad_cons (gd_ixT (j := 1) (g_var rfl) rfl) gad_nil))) gad_nil)) (ga_cons (gd_int 3) ga_nil))))) (ga_cons (g_row (ga_cons (g_var rfl) (ga_cons (gd_strI (gd_I0 (f := fun i j => i + j) (gd_ixT (j := 1) (g_var rfl) rfl) (gd_ixT (j := 1) (g_var rfl) rfl)) (sml_log (by omega))) (ga_cons (gd_lst gad_nil) (ga_cons (gd_int 5) ga_nil))))) (ga_cons (g_row (ga_cons (g_var rfl) (ga_cons (gd_strI (gd_ixT (j := 1) (g_var rfl) rfl) (sml_log (by omega))) (ga_cons (gd_lst gad_nil) (ga_cons (gd_int 9) ga_nil))))) ga_nil)))))) ?_
  dsimp only [List.set]
  refine gs_ret (GE.sub (gx_ix (T := fun r => tyRow a (dG x y j h r) (zG x y j h r) (lG y r) (cG r)) (k := 7) (g_var rfl) (gd_pick1 rfl (by decide) er) lr) fun v H hv => ⟨x, y, j, h, r, hx, hy, lj, lh, lr, hv⟩)
end
end Wp
set_option Elab.async false
set_option linter.all false
set_option maxRecDepth 100000
set_option maxHeartbeats 2000000
namespace Wp
open PySem PySem.Spec PyProof.Rows L2
def dS (x : Int) : Nat → PyData
  | 0 => dCall (dNum x) []
  | 1 => dCall (dFun [] (dNum x)) [dNum x]
  | 2 => dCall (dFun ["x"] (dNum x)) []
  | 3 => .tuple [.str "if", dNum x, dNum x, dNum x]
  | 4 => dOp2 "plus" (dNum x) dYes
  | 5 => dOp1 "first" (dNum x)
  | 6 => dOp2 "joined" (dNum x) (dNum x)
  | 7 => .tuple [.str "get", dNum x]
  | 8 => dOp1 "inside" (dNum x)
  | 9 => .tuple [.str "set", dNone, dNum x]
  | _ => dOp2 "times" (dNum (10 ^ (29 : Int).toNat)) (dText "x")
def tyStuck (a : Addr) : Ty a := ⟨fun v H => ∃ x r, r < 11 ∧ Dq a H v (dS x r), fun v H H' g hh => by
  obtain ⟨x, r, h1, h2⟩ := hh
  exact ⟨x, r, h1, h2.gx g⟩⟩
def spStuck : Sp := spG 2 (fun a => [tyIs a (.ref a)]) (fun a => tyStuck a)
theorem gx_ixU {a : Addr} {G : List (Option (Ty a))} {K : PySem.W.Frag} {m1 m2 k : Nat} {ta tb : TE} {T : Nat → Ty a} {R : Ty a} {p : Int → Prop} (ha : GE a m1 G ta (tyLs a ((List.range k).map T))) (hb : GE a m2 G tb (tyI a p)) (hp : ∀ i, p i → 0 ≤ i ∧ i < (k : Int)) (hR : ∀ j < k, ∀ v H, (T j).p v H → R.p v H) : GE a (m1 + m2) G (tOp (rIxL K) ta tb) R :=
  g_op ha hb fun x y H hx hy n d Kk q => by
    obtain ⟨s, xs, rfl, np, hs, tp⟩ := hx
    obtain ⟨i, rfl, pi⟩ := hy
    have hi := hp i pi
    obtain ⟨v, e, pv⟩ := tall_at (j := i.toNat) (R := T i.toNat) tp (by rw [List.getElem?_map, List.getElem?_range (by omega)]; rfl)
    have ei : i = ((i.toNat : Nat) : Int) := by omega
    exact ⟨s, xs, i, v, rfl, rfl, SqL.of hs, by rw [ei]; exact atI_nat e, q v H (Gx.refl a H) d (hR _ (by omega) v H pv)⟩
section
variable {P : Program} {w : World} {K : PySem.W.Frag} {mg : Str → Option Value} {base : Heap} {f : Addr} {fd : FuncData}
theorem ok_stuckL (F : Fun K "_law_stuck" "_law_stuck" s_law_stuck f fd) (G_law_next : Has P w K mg base "_law_next" ["_law_dr"] 1 spNext) (G_law_num : Has P w K mg base "_law_num" ["_law_dr"] 2 spNum') : FnOk P w K mg base CX0 3 f fd ["_law_dr"] spStuck := by
  refine fun_G F sc_law_stuck (fun a => rfl) (by decide) fun cdv A outer s H E hr => ⟨_, (pss_cons (ps_set (i := 1) sc_law_stuck.nd rfl (.inl rfl) (pe_has G_law_num (hr.mono (by omega)) (pa_cons (pv 0) pa_nil)))
  (pss_cons (ps_set (i := 2) sc_law_stuck.nd rfl (.inl rfl) (pe_lst (pa_cons (pe_tup (pa_cons pe_str (pa_cons (pv 1) (pa_cons (pe_tup pa_nil) pa_nil)))) (pa_cons (pe_tup (pa_cons pe_str (pa_cons (pe_tup (pa_cons pe_str (pa_cons (pe_tup pa_nil) (pa_cons (pv 1) pa_nil)))) (pa_cons (pe_tup (pa_cons (pv 1) pa_nil)) pa_nil)))) (pa_cons (pe_tup (pa_cons pe_str (pa_cons (pe_tup (pa_cons pe_str (pa_cons (pe_tup (pa_cons pe_str pa_nil)) (pa_cons (pv 1) pa_nil)))) (pa_cons (pe_tup pa_nil) pa_nil)))) (pa_cons (pe_tup (pa_cons pe_str (pa_cons (pv 1) (pa_cons (pv 1) (pa_cons (pv 1) pa_nil))))) pa_nil))))))
  (pss_cons (ps_set (i := 2) sc_law_stuck.nd rfl (.inl rfl) (pe_op op_cat (pv 2) (pe_lst (pa_cons (pe_tup (pa_cons pe_str (pa_cons pe_str (pa_cons (pe_tup (pa_cons (pv 1) (pa_cons (pe_tup (pa_cons pe_str pa_nil)) pa_nil))) pa_nil)))) (pa_cons (pe_tup (pa_cons pe_str (pa_cons pe_str (pa_cons (pe_tup (pa_cons (pv 1) pa_nil)) pa_nil)))) (pa_cons (pe_tup (pa_cons pe_str (pa_cons pe_str (pa_cons (pe_tup (pa_cons (pv 1) (pa_cons (pv 1) pa_nil))) pa_nil)))) (pa_cons (pe_tup (pa_cons pe_str (pa_cons (pv 1) pa_nil))) pa_nil)))))))
  (pss_cons (ps_set (i := 2) sc_law_stuck.nd rfl (.inl rfl) (pe_op op_cat (pv 2) (pe_lst (pa_cons (pe_tup (pa_cons pe_str (pa_cons pe_str (pa_cons (pe_tup (pa_cons (pv 1) pa_nil)) pa_nil)))) (pa_cons (pe_tup (pa_cons pe_str (pa_cons (pe_tup (pa_cons pe_str pa_nil)) (pa_cons (pv 1) pa_nil)))) (pa_cons (pe_tup (pa_cons pe_str (pa_cons pe_str (pa_cons (pe_tup (pa_cons (pe_tup (pa_cons pe_str (pa_cons (pe_op op_pow pe_int pe_int) pa_nil))) (pa_cons (pe_tup (pa_cons pe_str (pa_cons pe_str pa_nil))) pa_nil))) pa_nil)))) pa_nil))))))
  (pss_one (ps_ret (pe_ix ix_list (pv 2) (pe_op op_mod (pe_has G_law_next (hr.mono (by omega)) (pa_cons (pv 0) pa_nil)) pe_int) (fun _ _ => rfl)))))))), fun a => ?_⟩
  show GS a 2 [some (tyIs a (.ref a)), none, none] _ none (tyStuck a)
  refine gs_seq (m1 := 0 + 0 + 1) (m2 := 1) (gs_set (g_call (ga_cons (g_var rfl) ga_nil))) ?_
  dsimp only [List.set]
  refine gs_exi (i := 1) (Z := Int) (Q := fun x => tyD a (dNum x)) rfl (fun v H h => by
    obtain ⟨i, h1, h2, h3⟩ := h
    exact ⟨i, h3⟩) fun x => ?_
  dsimp only [List.set]
  refine gs_seq (m1 := 0) (m2 := 1) (gs_set (gx_lst (ga_cons (gd_tup (gad_cons (gd_str "call") (gad_cons (g_var rfl) (gad_cons (gd_tup gad_nil) gad_nil)))) (ga_cons (gd_tup (gad_cons (gd_str "call") (gad_cons (gd_tup (gad_cons (gd_str "fun") (gad_cons (gd_tup gad_nil) (gad_cons (g_var rfl) gad_nil)))) (gad_cons (gd_tup (gad_cons (g_var rfl) gad_nil)) gad_nil))))
    (ga_cons (gd_tup (gad_cons (gd_str "call") (gad_cons (gd_tup (gad_cons (gd_str "fun") (gad_cons (gd_tup (gad_cons (gd_str "x") gad_nil)) (gad_cons (g_var rfl) gad_nil)))) (gad_cons (gd_tup gad_nil) gad_nil)))) (ga_cons (gd_tup (gad_cons (gd_str "if") (gad_cons (g_var rfl) (gad_cons (g_var rfl) (gad_cons (g_var rfl) gad_nil))))) ga_nil)))))) ?_
  dsimp only [List.set]
  refine gs_seq (m1 := 0) (m2 := 1) (gs_set (gx_cat (g_var rfl) (gx_lst (ga_cons (gd_tup (gad_cons (gd_str "op") (gad_cons (gd_str "plus") (gad_cons (gd_tup (gad_cons (g_var rfl) (gad_cons (gd_tup (gad_cons (gd_str "yes") gad_nil)) gad_nil))) gad_nil)))) (ga_cons (gd_tup (gad_cons (gd_str "op") (gad_cons (gd_str "first") (gad_cons (gd_tup (gad_cons (g_var rfl) gad_nil)) gad_nil))))
    (ga_cons (gd_tup (gad_cons (gd_str "op") (gad_cons (gd_str "joined") (gad_cons (gd_tup (gad_cons (g_var rfl) (gad_cons (g_var rfl) gad_nil))) gad_nil)))) (ga_cons (gd_tup (gad_cons (gd_str "get") (gad_cons (g_var rfl) gad_nil))) ga_nil))))))) ?_
  dsimp only [List.set]
  refine gs_seq (m1 := 0) (m2 := 1) (gs_set (gx_cat (g_var rfl) (gx_lst (ga_cons (gd_tup (gad_cons (gd_str "op") (gad_cons (gd_str "inside") (gad_cons (gd_tup (gad_cons (g_var rfl) gad_nil)) gad_nil)))) (ga_cons (gd_tup (gad_cons (gd_str "set") (gad_cons (gd_tup (gad_cons (gd_str "none") gad_nil)) (gad_cons (g_var rfl) gad_nil))))
    (ga_cons (gd_tup (gad_cons (gd_str "op") (gad_cons (gd_str "times") (gad_cons (gd_tup (gad_cons (gd_tup (gad_cons (gd_str "num") (gad_cons (gd_I (f := fun i j => i ^ j.toNat) (gd_int 10) (gd_int 29) ⟨by decide, by decide, by decide⟩) gad_nil))) (gad_cons (gd_tup (gad_cons (gd_str "text") (gad_cons (gd_str "x") gad_nil))) gad_nil))) gad_nil)))) ga_nil)))))) ?_
  dsimp only [List.set]
  refine gs_ret (GE.up (gx_ixU (m1 := 0) (m2 := 0 + 0 + 1 + 0) (T := fun r => tyD a (dS x r)) (k := 11) (g_var rfl) (g_mod (g_call (ga_cons (g_var rfl) ga_nil)) (by decide)) (fun i hi => hi) fun j hj v H hv => ⟨x, j, hj, hv⟩) (by decide))
end
/-! ### the terms are terms -/
theorem fits_no {k : Str} {ks : List Str} {x : PyData} {xs : List PyData} (h : k ∉ (["handed parts", "row parts", "op parts"] : List Str)) (hr : Fits ks xs) : Fits (k :: ks) (x :: xs) := ⟨fun z => absurd z h, hr⟩
theorem fits_tup {k : Str} {ks : List Str} {ds : List PyData} {xs : List PyData} (h : ds.length ≤ 12) (hr : Fits ks xs) : Fits (k :: ks) (.tuple ds :: xs) := ⟨fun _ => ⟨ds, rfl, h⟩, hr⟩
theorem fm_num (n : Nat) (i : Int) : Fm (n + 1) (dNum i) := .mk (w := "num") (by decide +kernel) (fits_no (by decide) trivial) (fun p hp => by cases hp)
theorem fm_text (n : Nat) (z : Str) : Fm (n + 1) (dText z) := .mk (w := "text") (by decide +kernel) (fits_no (by decide) trivial) (fun p hp => by cases hp)
theorem fm_name (n : Nat) (z : Str) : Fm (n + 1) (dName z) := .mk (w := "name") (by decide +kernel) (fits_no (by decide) trivial) (fun p hp => by cases hp)
theorem fm_none (n : Nat) : Fm (n + 1) dNone := .mk (w := "none") (by decide +kernel) trivial (fun p hp => by cases hp)
theorem fm_yes (n : Nat) : Fm (n + 1) dYes := .mk (w := "yes") (by decide +kernel) trivial (fun p hp => by cases hp)
theorem fm1 {n : Nat} {w : Str} {its : List PyData} {d : PyData} (h1 : (w, formOf w) ∈ forms) (h2 : Fits (formOf w) its) (e : partsF (formOf w) its = [d]) (a : Fm n d) : Fm (n + 1) (.tuple (.str w :: its)) := .mk h1 h2 (fun p hp => by rw [e] at hp; cases hp with | head => exact a | tail _ hp => cases hp)
theorem fm2 {n : Nat} {w : Str} {its : List PyData} {d1 d2 : PyData} (h1 : (w, formOf w) ∈ forms) (h2 : Fits (formOf w) its) (e : partsF (formOf w) its = [d1, d2]) (a : Fm n d1) (b : Fm n d2) : Fm (n + 1) (.tuple (.str w :: its)) := .mk h1 h2 (fun p hp => by
  rw [e] at hp
  rcases List.mem_cons.mp hp with rfl | hp
  · exact a
  rcases List.mem_cons.mp hp with rfl | hp
  · exact b
  cases hp)
theorem fm3 {n : Nat} {w : Str} {its : List PyData} {d1 d2 d3 : PyData} (h1 : (w, formOf w) ∈ forms) (h2 : Fits (formOf w) its) (e : partsF (formOf w) its = [d1, d2, d3]) (a : Fm n d1) (b : Fm n d2) (c : Fm n d3) : Fm (n + 1) (.tuple (.str w :: its)) := .mk h1 h2 (fun p hp => by
  rw [e] at hp
  rcases List.mem_cons.mp hp with rfl | hp
  · exact a
  rcases List.mem_cons.mp hp with rfl | hp
  · exact b
  rcases List.mem_cons.mp hp with rfl | hp
  · exact c
  cases hp)
theorem fm_op1 {n : Nat} {d : PyData} (w : Str) (a : Fm n d) : Fm (n + 1) (dOp1 w d) := fm1 (w := "op") (by decide +kernel) (fits_no (by decide) (fits_tup (by show 1 ≤ 12; decide) trivial)) rfl a
theorem fm_op2 {n : Nat} {d1 d2 : PyData} (w : Str) (a : Fm n d1) (b : Fm n d2) : Fm (n + 1) (dOp2 w d1 d2) := fm2 (w := "op") (by decide +kernel) (fits_no (by decide) (fits_tup (by show 2 ≤ 12; decide) trivial)) rfl a b
theorem fm_let {n : Nat} {d1 d2 : PyData} (z : Str) (a : Fm n d1) (b : Fm n d2) : Fm (n + 1) (dLet z d1 d2) := fm2 (w := "let") (by decide +kernel) (fits_no (by decide) (fits_no (by decide) (fits_no (by decide) trivial))) rfl a b
theorem fm_cell {n : Nat} {d : PyData} (a : Fm n d) : Fm (n + 1) (.tuple [.str "cell", d]) := fm1 (w := "cell") (by decide +kernel) (fits_no (by decide) trivial) rfl a
theorem fm_get {n : Nat} {d : PyData} (a : Fm n d) : Fm (n + 1) (.tuple [.str "get", d]) := fm1 (w := "get") (by decide +kernel) (fits_no (by decide) trivial) rfl a
theorem fm_say {n : Nat} {d : PyData} (a : Fm n d) : Fm (n + 1) (.tuple [.str "say", d]) := fm1 (w := "say") (by decide +kernel) (fits_no (by decide) trivial) rfl a
theorem fm_set {n : Nat} {d1 d2 : PyData} (a : Fm n d1) (b : Fm n d2) : Fm (n + 1) (.tuple [.str "set", d1, d2]) := fm2 (w := "set") (by decide +kernel) (fits_no (by decide) (fits_no (by decide) trivial)) rfl a b
theorem fm_if {n : Nat} {d1 d2 d3 : PyData} (a : Fm n d1) (b : Fm n d2) (c : Fm n d3) : Fm (n + 1) (.tuple [.str "if", d1, d2, d3]) := fm3 (w := "if") (by decide +kernel) (fits_no (by decide) (fits_no (by decide) (fits_no (by decide) trivial))) rfl a b c
theorem fm_fun {n : Nat} {d : PyData} (ns : List Str) (a : Fm n d) : Fm (n + 1) (dFun ns d) := fm1 (w := "fun") (by decide +kernel) (fits_no (by decide) (fits_no (by decide) trivial)) rfl a
theorem fm_rec {n : Nat} {d : PyData} (x y : PyData) (a : Fm n d) : Fm (n + 1) (.tuple [.str "rec", x, y, d]) := fm1 (w := "rec") (by decide +kernel) (fits_no (by decide) (fits_no (by decide) (fits_no (by decide) trivial))) rfl a
theorem fm_call0 {n : Nat} {d : PyData} (a : Fm n d) : Fm (n + 1) (dCall d []) := fm1 (w := "call") (by decide +kernel) (fits_no (by decide) (fits_tup (by decide) trivial)) rfl a
theorem fm_call1 {n : Nat} {d d1 : PyData} (a : Fm n d) (b : Fm n d1) : Fm (n + 1) (dCall d [d1]) := fm2 (w := "call") (by decide +kernel) (fits_no (by decide) (fits_tup (by show 1 ≤ 12; decide) trivial)) rfl a b
theorem good_fm (x y : Int) (j h : Nat) : ∀ r, Fm 10 (dEnd (dG x y j h r))
  | 0 => fm_op2 _ (fm_text _ _) (fm_op2 _ (fm_text _ _) (fm_op2 _ (fm_num _ _) (fm_op2 _ (fm_num _ _) (fm_none _))))
  | 1 => fm_op2 _ (fm_text _ _) (fm_op2 _ (fm_text _ _) (fm_op2 _ (fm_num _ _) (fm_op2 _ (fm_num _ _) (fm_none _))))
  | 2 => fm_op2 _ (fm_text _ _) (fm_op1 _ (fm_op1 _ (fm_num _ _)))
  | 3 => fm_op2 _ (fm_text _ _) (fm_op1 _ (fm_op1 _ (fm_num _ _)))
  | 4 => fm_op2 _ (fm_text _ _) (fm_op2 _ (fm_text _ _) (fm_num _ _))
  | 5 => fm_op2 _ (fm_text _ _) (fm_let _ (fm_num _ _) (fm_op2 _ (fm_name _ _) (fm_num _ _)))
  | _ + 6 => fm_op2 _ (fm_text _ _) (fm_let _ (fm_cell (fm_num _ _)) (fm_let _ (fm_set (fm_name _ _) (fm_num _ _)) (fm_get (fm_name _ _))))
theorem good_cw (x y : Int) (j h : Nat) : ∀ r, cw (dEnd (dG x y j h r)) ≤ 20000
  | 0 | 1 | 2 | 3 | 4 | 5 | _ + 6 => by simp [cw, cwL, dG]
theorem stuck_fm (x : Int) : ∀ r, Fm 9 (dS x r)
  | 0 => fm_call0 (fm_num _ _)
  | 1 => fm_call1 (fm_fun _ (fm_num _ _)) (fm_num _ _)
  | 2 => fm_call0 (fm_fun _ (fm_num _ _))
  | 3 => fm_if (fm_num _ _) (fm_num _ _) (fm_num _ _)
  | 4 => fm_op2 _ (fm_num _ _) (fm_yes _)
  | 5 => fm_op1 _ (fm_num _ _)
  | 6 => fm_op2 _ (fm_num _ _) (fm_num _ _)
  | 7 => fm_get (fm_num _ _)
  | 8 => fm_op1 _ (fm_num _ _)
  | 9 => fm_set (fm_none _) (fm_num _ _)
  | _ + 10 => fm_op2 _ (fm_num _ _) (fm_text _ _)
theorem stuck_cw (x : Int) : ∀ r, cw (dS x r) ≤ 10000
  | 0 | 1 | 2 | 3 | 4 | 5 | 6 | 7 | 8 | 9 | _ + 10 => by simp [cw, cwL, dS]
theorem loop_fm (i : Int) : Fm 10 (dLoop i) := fm_call1 (fm_rec _ _ (fm_if (fm_op2 _ (fm_name _ _) (fm_num _ _)) (fm_op2 _ (fm_text _ _) (fm_name _ _)) (fm_let _ (fm_say (fm_name _ _)) (fm_call1 (fm_name _ _) (fm_op2 _ (fm_name _ _) (fm_num _ _)))))) (fm_num _ _)
theorem loop_cw (i : Int) : cw (dLoop i) ≤ 20000 := by simp [cw, cwL]
end Wp
set_option Elab.async false
set_option linter.all false
set_option maxRecDepth 100000
set_option maxHeartbeats 300000
namespace Wp
open PySem PySem.Spec PyProof.Rows L2
abbrev lD (L : List (Str × Int)) : List PyData := L.map fun e => .tuple [.str e.1, .int e.2]
def GEv (A : Ad) (gv : V) (E : XK) (d : PyData) (c hh : Nat) (W : Wt) (L : List (Str × Int)) : Prop := ∀ m f lo lw H0 QF y en, Stat A m f lo lw H0 → PTr A.pl H0 y d → EvT A m f lo lw H0 100 QF E (PrE en (inEnv gv)) y en c hh W L
section
variable {A : Ad} {gv : V} {E : XK}
theorem stb_t {A : Ad} {m f lo lw : Addr} {H0 : Hp} {B : Int} : Stb A m f lo lw H0 B (fun _ => True) := fun _ _ _ _ _ _ _ _ _ => True.intro
theorem ev_list {a b : Int} {m f lo lw : Addr} {H0 : Hp} {QF : Hp → Prop} {y en : Addr} {Pr : Hp → Prop} (S : Stat A m f lo lw H0) (hP : Stb A m f lo lw H0 100 Pr) (h : PTr A.pl H0 y (dList a b)) : Ev A m f lo lw H0 100 QF E Pr y en 5 2 (wList a b) :=
  ev_op2 (c1 := 1) (c2 := 3) (h1 := 0) (h2 := 1) (W1 := .int a) (W2 := .pair (.int b) .non) S h (fun y hy => ev_num S hy) (fun y hy => ev_op2 (c1 := 1) (c2 := 1) (h1 := 0) (h2 := 0) (W1 := .int b) (W2 := .non) S hy (fun y hy => ev_num S hy) (fun y hy => ev_none S hy) hP (e_pair _ _)) hP (e_pair _ _)
theorem small_far {i : Int} (h : -1000 ≤ i ∧ i ≤ 1000) : i.natAbs < far.natAbs := by
  have : far.natAbs = 10 ^ 60 := by decide
  rw [this]
  have h1 : i.natAbs ≤ 1000 := by omega
  exact Nat.lt_of_le_of_lt h1 (by decide)
theorem tried_op {x y : Int} (hx : Sml x) (hy : Sml y) (m : Addr) : ∀ j, j < 3 → OpE A m "tried" [.str (wordJ j), wList x y] (.pair (.bl true) (.int (numJ x y j)))
  | 0, _ => e_tried (by decide) fun H E Q q => ar_q (E := E) (op := (· + ·)) True.intro (small_far (numJ_b (j := 0) hx hy)) q
  | 1, _ => e_tried (by decide) fun H E Q q => ar_q (E := E) (op := (· - ·)) True.intro (small_far (numJ_b (j := 1) hx hy)) q
  | 2, _ => e_tried (by decide) fun H E Q q => ar_q (E := E) (op := (· * ·)) (lim := limT) (by unfold limT; obtain ⟨h1, h2⟩ := hx; omega) (small_far (numJ_b (j := 2) hx hy)) q
theorem codes_q (z : Str) : shW (.str z) = [34] ++ (z.cps.toList ++ [34]) := by
  show ("\"" ++ z ++ "\"" : Str).cps.toList = _
  rw [Str.cps_append, Str.cps_append, Array.toList_append, Array.toList_append]
  have e : ("\"" : Str).cps.toList = [34] := by decide +kernel
  rw [e]
  simp
/-- each drawn term comes to its worth -/
theorem good_ev {x y : Int} {j h : Nat} (hno : A.no ≠ A.ce) (hx : Sml x) (hy : Sml y) (lj : j < 3) (lh : h < 2) : ∀ r, r < 7 → ∃ (c hh : Nat) (W : Wt) (L : List (Str × Int)), cG r = (c : Int) ∧ c ≤ 100 ∧ hh ≤ 90 ∧ GEv A gv E (dG x y j h r) c hh W L ∧ shW W = (zG x y j h r).cps.toList ∧ okW W ∧ szW W ≤ 1000 ∧ (shW W).length ≤ 100000 ∧ lG y r = lD L := by
  have zs : ∀ {i : Int}, -1000 ≤ i ∧ i ≤ 1000 → (toString i : Str).cps.toList.length ≤ 10 := fun h => toS_small h
  have bx : -1000 ≤ x ∧ x ≤ 1000 := by obtain ⟨h1, h2⟩ := hx; omega
  have by' : -1000 ≤ y ∧ y ≤ 1000 := by obtain ⟨h1, h2⟩ := hy; omega
  have bxy : -1000 ≤ x + y ∧ x + y ≤ 1000 := by obtain ⟨h1, h2⟩ := hx; obtain ⟨h3, h4⟩ := hy; omega
  have nb := numJ_b (j := j) hx hy
  intro r hr
  match r, hr with
  | 0, _ =>
    refine ⟨7, 3, .pair (.bl true) (.int (numJ x y j)), [], rfl, by decide, by decide, fun m f lo lw H0 QF yy en S p => Ev.t (ev_op2 (c1 := 1) (c2 := 5) (h1 := 0) (h2 := 2) (W1 := .str (wordJ j)) (W2 := wList x y) S p (fun y hy => ev_text S hy) (fun y hy => ev_list S stb_e hy) stb_e (tried_op hx hy m j lj)), ?_, ⟨True.intro, sml_log nb⟩, Nat.le_of_ble_eq_true rfl, ?_, rfl⟩
    · show _ = ("(yes . " ++ toString (numJ x y j) ++ ")" : Str).cps.toList
      rw [Str.cps_append, Str.cps_append, Array.toList_append, Array.toList_append]
      have e1 : ("(yes . " : Str).cps.toList = [40, 121, 101, 115, 32, 46, 32] := by decide +kernel
      have e2 : (")" : Str).cps.toList = [41] := by decide +kernel
      have e3 : shW (.bl true) = [121, 101, 115] := by decide +kernel
      show [40] ++ (shW (.bl true) ++ ([32, 46, 32] ++ ((toString (numJ x y j) : Str).cps.toList ++ [41]))) = _
      rw [e1, e2, e3]
      simp
    · show ([40] ++ (shW (.bl true) ++ ([32, 46, 32] ++ ((toString (numJ x y j) : Str).cps.toList ++ [41])))).length ≤ 100000
      have e3 : shW (.bl true) = [121, 101, 115] := by decide +kernel
      have := zs nb
      rw [e3]
      simp only [List.length_append, List.length_cons, List.length_nil]
      omega
  | 1, _ =>
    refine ⟨7, 3, .pair (.bl false) (.str "no text"), [], rfl, by decide, by decide, fun m f lo lw H0 QF yy en S p => Ev.t (ev_op2 (c1 := 1) (c2 := 5) (h1 := 0) (h2 := 2) (W1 := .str "joined") (W2 := wList x y) S p (fun y hy => ev_text S hy) (fun y hy => ev_list S stb_e hy) stb_e (e_bad x y)), ?_, ⟨True.intro, by show ("no text" : Str).length ≤ 100000; decide +kernel⟩, by decide, by decide +kernel, rfl⟩
    show shW _ = ("(no . \"no text\")" : Str).cps.toList
    decide +kernel
  | 2, _ =>
    refine ⟨3, 2, .int x, [], rfl, by decide, by decide, ?_, rfl, sml_log bx, Nat.le_of_ble_eq_true rfl, by show (toString x : Str).cps.toList.length ≤ _; have := zs bx; omega, rfl⟩
    match h, lh with
    | 0, _ => exact fun m f lo lw H0 QF yy en S p => Ev.t (ev_op1 (c1 := 2) (h1 := 1) (W1 := .point (.int x)) S p (fun y hy => ev_op1 (c1 := 1) (h1 := 0) (W1 := .int x) S hy (fun y hy => ev_num S hy) stb_e (e_point _)) stb_e (e_insideO _))
    | 1, _ => exact fun m f lo lw H0 QF yy en S p => Ev.t (ev_op1 (c1 := 2) (h1 := 1) (W1 := .part (.int x)) S p (fun y hy => ev_op1 (c1 := 1) (h1 := 0) (W1 := .int x) S hy (fun y hy => ev_num S hy) stb_e (e_part _)) stb_e (e_insideT _))
  | 3, _ =>
    match h, lh with
    | 0, _ => exact ⟨3, 2, .str "point", [], rfl, by decide, by decide, fun m f lo lw H0 QF yy en S p => Ev.t (ev_op1 (c1 := 2) (h1 := 1) (W1 := .point (.int x)) S p (fun y hy => ev_op1 (c1 := 1) (h1 := 0) (W1 := .int x) S hy (fun y hy => ev_num S hy) stb_e (e_point _)) stb_e (e_kind (.point (.int x)))), rfl, by show ("point" : Str).length ≤ 100000; decide +kernel, by decide, by decide +kernel, rfl⟩
    | 1, _ => exact ⟨3, 2, .str "part", [], rfl, by decide, by decide, fun m f lo lw H0 QF yy en S p => Ev.t (ev_op1 (c1 := 2) (h1 := 1) (W1 := .part (.int x)) S p (fun y hy => ev_op1 (c1 := 1) (h1 := 0) (W1 := .int x) S hy (fun y hy => ev_num S hy) stb_e (e_part _)) stb_e (e_kind (.part (.int x)))), rfl, by show ("part" : Str).length ≤ 100000; decide +kernel, by decide, by decide +kernel, rfl⟩
  | 4, _ => exact ⟨3, 1, .non, [("in", y)], rfl, by decide, by decide, fun m f lo lw H0 QF yy en S p => ev_wound S p stb_e, rfl, True.intro, by decide, by decide +kernel, rfl⟩
  | 5, _ =>
    refine ⟨5, 1, .int (x + y), [], rfl, by decide, by decide, fun m f lo lw H0 QF yy en S p => Ev.t (ev_let (W1 := .int x) (c1 := 1) (c2 := 3) (h1 := 0) (h2 := 1) S p (by show 1 ≤ 500; decide) (fun y hy => ev_num S hy) fun y2 pe v hy2 => ?_), rfl, sml_log bxy, Nat.le_of_ble_eq_true rfl, by show (toString (x + y) : Str).cps.toList.length ≤ _; have := zs bxy; omega, rfl⟩
    exact ev_op2 (c1 := 1) (c2 := 1) (h1 := 0) (h2 := 0) (W1 := .int x) (W2 := .int y) S hy2 (fun y hy => ev_name S hy (stb_and stb_e (stb_v S)) fun H h => ⟨_, v, h.1, valV_putK _ _ _, h.2⟩) (fun y hy => ev_num S hy) (stb_and stb_e (stb_v S)) (e_plus (small_far bxy))
  | 6, _ => exact ⟨9, 2, .int y, [], rfl, by decide, by decide, fun m f lo lw H0 QF yy en S p => Ev.t (ev_cells S hno p (by show 1 ≤ 400; decide)), rfl, sml_log by', Nat.le_of_ble_eq_true rfl, by show (toString y : Str).cps.toList.length ≤ _; have := zs by'; omega, rfl⟩
def GSt (A : Ad) (gv : V) (E : XK) (d : PyData) (c hh : Nat) : Prop := ∀ m f lo lw H0 QF x en, Stat A m f lo lw H0 → HE A m f H0 E → PTr A.pl H0 x d → Stk A m f lo lw H0 100 QF E (PrE en (inEnv gv)) x en c hh
theorem stuck_st (x : Int) : ∀ r, ∃ c hh, c ≤ 50 ∧ hh ≤ 50 ∧ ∀ E, GSt A gv E (dS x r) c hh
  | 0 => ⟨2, 1, by decide, by decide, fun E m f lo lw H0 QF y en S he p => stk_call0 S he p⟩
  | 1 => ⟨3, 1, by decide, by decide, fun E m f lo lw H0 QF y en S he p => stk_call1 S he (by show 1 ≤ 500; decide) p⟩
  | 2 => ⟨2, 1, by decide, by decide, fun E m f lo lw H0 QF y en S he p => stk_call2 S he (by show 1 ≤ 500; decide) p⟩
  | 3 => ⟨2, 1, by decide, by decide, fun E m f lo lw H0 QF y en S he p => stk_if S he p⟩
  | 4 => ⟨3, 1, by decide, by decide, fun E m f lo lw H0 QF y en S he p => stk_op2 (c1 := 1) (c2 := 1) (h1 := 0) (h2 := 0) (W1 := .int x) (W2 := .bl true) S he p (fun y hy => ev_num S hy) (fun y hy => ev_yes S hy) (f_plus x true)⟩
  | 5 => ⟨2, 1, by decide, by decide, fun E m f lo lw H0 QF y en S he p => stk_op1 (c1 := 1) (h1 := 0) (W1 := .int x) S he p (fun y hy => ev_num S hy) (f_first x)⟩
  | 6 => ⟨3, 1, by decide, by decide, fun E m f lo lw H0 QF y en S he p => stk_op2 (c1 := 1) (c2 := 1) (h1 := 0) (h2 := 0) (W1 := .int x) (W2 := .int x) S he p (fun y hy => ev_num S hy) (fun y hy => ev_num S hy) (f_joined x x)⟩
  | 7 => ⟨2, 1, by decide, by decide, fun E m f lo lw H0 QF y en S he p => stk_get S he p⟩
  | 8 => ⟨2, 1, by decide, by decide, fun E m f lo lw H0 QF y en S he p => stk_op1 (c1 := 1) (h1 := 0) (W1 := .int x) S he p (fun y hy => ev_num S hy) (f_inside x)⟩
  | 9 => ⟨3, 1, by decide, by decide, fun E m f lo lw H0 QF y en S he p => stk_set S he p⟩
  | _ + 10 => ⟨3, 1, by decide, by decide, fun E m f lo lw H0 QF y en S he p => stk_op2 (c1 := 1) (c2 := 1) (h1 := 0) (h2 := 0) (W1 := .int (10 ^ (29 : Int).toNat)) (W2 := .str "x") S he p (fun y hy => ev_num S hy) (fun y hy => ev_text S hy) (f_times _ "x")⟩
theorem stuck_end {d : PyData} {c hh : Nat} (h : GSt A gv E d c hh) : GSt A gv E (dEnd d) (c + 2) (hh + 1) := fun m f lo lw H0 QF y en S he p => stk_end S p stb_e fun y hy => h m f lo lw H0 QF y en S he hy
end
end Wp
set_option Elab.async false
set_option linter.all false
set_option maxRecDepth 100000
set_option maxHeartbeats 4000000
namespace Wp
open PySem PySem.Spec PyProof.Rows L2
/-- what «except x1 as n» wishes, the error being kept behind it -/
def wKeep1 (K : PySem.W.Frag) (c1 : Value) (i : Nat) (ts : Addr → Value → Option Addr → TS) (D : Ends) : WX := fun cls d σ H =>
  PySem.W.exmOne K cls c1 = some true ∧ ∀ a, H a = none → ts a cls d { nx := fun σ' H' => D.nx (σ'.set i none) (upd H' a (exK a cls d)), rt := fun _ _ => False, bk := fun _ _ => False, ct := fun _ _ => False } (σ.set i (some (.ref a))) H
section
variable {X : Cx} {x1 n : Str} {C1 : Addr} {i : Nat} {body suite : List Stmt} {b0 : Stmt} {p1 pos pos' : Pos} {tb : WX → TS} {ts : Addr → Value → Option Addr → TS}
theorem ps_try_keep1 (hs : X.stack = X.env :: X.outer) (hf : X.env.frame = some X.env.locals) (hex : X.ex = []) (hN : X.N.Nodup) (hi : X.N[i]? = some n) (hln : X.env.kindOf n = some .local)
    (g1 : Gl X x1) (m1 : X.mg x1 = some (.ref C1))
    (hb : ∀ (W : WX) (pn : List (Addr × Obj)) (xe : Value → Shared → Prop), Takes (X.tr pn xe) W → PassesOwn (model X.prog X.w) X.A X.env xe → PSs (X.tr pn xe) body (tb W))
    (hsu : ∀ (a : Addr) (oe : Obj) (cls : Value) (d : Option Addr) (pn : List (Addr × Obj)), Zc cls d oe → (∃ vs, oe.data = .fields vs) → PSs (X.suite a ((a, oe) :: pn)) (b0 :: suite) (ts a cls d))
    (d1 : (x1 == ("__debug__" : Str)) = false := by decide) :
    PS X (.Try body [.ExceptHandler (some (.Name x1 p1)) (some n) (b0 :: suite) pos'] [] [] pos) (fun D σ H => tb (wKeep1 X.K (.ref C1) i ts D) D σ H) := by
  refine ⟨fun pins s σ H D I h => ?_⟩
  have ok := I.ok
  have hfr : X.A.frames = some (X.env :: X.outer) := by rw [ok.frames, hs]
  have hloc : Loc X.env.scope n := .inl hln
  refine wpAny_Try_except ?_
  refine wpAny_mono ((hb (wKeep1 X.K (.ref C1) i ts D) (X.pn ++ pins)
    (fun e s1 => wpAny (model X.prog X.w) X.A (noteFrame e X.env) (fun _ s2 => wpAny (model X.prog X.w) X.A (setFlight e none) (fun _ s3 =>
      wpAny (model X.prog X.w) X.A (handleBy e X.env [.ExceptHandler (some (.Name x1 p1)) (some n) (b0 :: suite) pos']) (SP X pins D) X.xe s3) X.xe s2) X.xe s1)
    (fun u s' xx => ?_) PassesOwn.looking).run [] s σ H D (I.toTry _) h) (fun fl s1 hsp => ?_) (fun e s1 he => he)
  · obtain ⟨a, B, sI, pins', σ', H', cls, d, rfl, J', nb, up, sky, na, os, ag, hb1, hyes⟩ := xx
    have J : Inv X pins σ' H' sI := J'.ofTry ok
    have sky' : Sky B (X.env :: X.outer) a (Zc cls d) X.env.locals s'.heap := by rw [← hs]; exact sky
    show wpAny (model X.prog X.w) X.A (noteFrame (.ref a) X.env) _ _ _
    refine Sky.land Zc.steady hfr hf sky' fun h3 fl3 up3 => ?_
    have J3 : Inv X pins σ' H' { s' with heap := h3 } := J.landed nb fl3.1 (up.trans up3) os ag
    obtain ⟨oe3, vs3, he3, hz3, hd3⟩ := fl3.there
    have nfr : a ∉ frs (X.env :: X.outer) := fun hm => by
      obtain ⟨_, o', e', hnf⟩ := fl3.2.2.1.mem hm
      rw [he3] at e'
      cases e'
      exact hnf _ hd3
    have nL : a ≠ X.env.locals := fun z => nfr (List.mem_filterMap.mpr ⟨X.env, List.mem_cons_self, by rw [hf, z]⟩)
    have nF : a ∉ X.fs := fun hm => by
      obtain ⟨e, he, q⟩ := List.mem_filterMap.mp hm
      exact nfr (List.mem_filterMap.mpr ⟨e, List.mem_cons_of_mem _ he, q⟩)
    have nI : sI.heap.get? a = none := by
      cases q : sI.heap.get? a with
      | none => rfl
      | some o =>
        have z := nb a o q (by rw [hs]; exact nfr)
        rw [fl3.2.1] at z
        cases z
    have n0 : X.s_0.heap.get? a = none := by
      cases q : X.s_0.heap.get? a with
      | none => rfl
      | some o =>
        obtain ⟨o', z⟩ := J.base.there a o q (by rw [hex]; exact fun z => nomatch z)
        rw [nI] at z
        cases z
    have nP : ∀ p ∈ X.pn ++ pins, p.1 ≠ a := fun p hp z => by
      have q := (J.pin p hp).1
      rw [z, nI] at q
      cases q
    have S3 := J3.suite he3 hd3 na nL nF
    refine wpAny_handleBy_cons (codeAny_handlers_test ?_) (by intro q; cases q)
    have LT : PySem.W.Looks (model X.prog X.w) h3 (typeOf (.ref a)) cls := fun A Q E s k q => wpAny_typeOf_ref (k _ _ he3) (by rw [hz3.1]; exact q)
    have nm : ∀ {x : Str} {C : Addr} {p : Pos} {Q : Value → Shared → Prop} {E : Value → Shared → Prop}, Gl X x → X.mg x = some (.ref C) → (x == ("__debug__" : Str)) = false → Q (.ref C) { s' with heap := h3 } → wpAny (model X.prog X.w) (X.A.mark (some (.ref a))) (eval (.Name x p) X.env) Q E { s' with heap := h3 } :=
      fun {x C p Q E} hg hm hd q => ld_glob (X := X.suite a ((a, oe3) :: (X.pn ++ pins))) S3 hg hm q hd
    refine nm g1 m1 d1 ((PySem.W.exm_one (M := model X.prog X.w) J3.kIn LT hb1).here ?_)
    refine codeAny_handlers_suite_as ?_
    refine HandSPX.lands_againZ fl3 fun h4 fl4 up4 => ?_
    have st : B.StaysIn h4 := fl4.1
    have J4 : Inv X pins σ' H' { s' with heap := h4 } := J.landed nb st ((up.trans up3).trans up4) os ag
    obtain ⟨oe4, vs4, he4, hz4, hd4⟩ := fl4.there
    have S4 := J4.suite he4 hd4 na nL nF
    refine store_ok (X := X.suite a ((a, oe4) :: (X.pn ++ pins))) (v := .ref a) S4 hN hi hloc rfl (fun s5 S5 => ?_) (.inr hln)
    refine wpAny_mono ((hsu a oe4 cls d (X.pn ++ pins) hz4 ⟨_, hd4⟩).run [] s5 _ H' _ S5 (hyes a na)) (fun fl s6 hsp => ?_) (fun _ _ z => False.elim z)
    cases fl with
    | next =>
      obtain ⟨σ6, H6, S6, q6⟩ := hsp
      obtain ⟨e6, n6, _⟩ := S6.pin (a, oe4) (List.mem_append_left _ List.mem_cons_self)
      have T6 := S6.unsuite ok
      have nC : ∀ x c, X.env.cells.lookup x = some c → c ≠ a := fun x c e z => by
        obtain ⟨v, o, ho, hc⟩ := T6.cell x c e
        rw [z] at ho
        have e7 : s6.heap.get? a = some oe4 := e6
        rw [e7] at ho
        cases ho
        rw [hd4] at hc
        cases hc
      have T7 := inv_track (o := exK a cls d) T6 n0 n6 nL nC nP (exK_ok e6 hz4 hd4)
      exact gone_ok T7 hN hi hln fun s7 J7 => ⟨_, _, J7, q6⟩
    | brk =>
      obtain ⟨_, _, _, q6⟩ := hsp
      exact q6.elim
    | cont =>
      obtain ⟨_, _, _, q6⟩ := hsp
      exact q6.elim
    | ret u =>
      obtain ⟨_, _, _, _, _, q6⟩ := hsp
      exact q6.elim
  · cases fl with
    | next =>
      obtain ⟨σ', H', J', q⟩ := hsp
      exact wpAny_execs_nil ⟨σ', H', J'.ofTry ok, q⟩
    | brk =>
      obtain ⟨σ', H', J', q⟩ := hsp
      exact ⟨σ', H', J'.ofTry ok, q⟩
    | cont =>
      obtain ⟨σ', H', J', q⟩ := hsp
      exact ⟨σ', H', J'.ofTry ok, q⟩
    | ret u =>
      obtain ⟨v, σ', H', J', r, q⟩ := hsp
      exact ⟨v, σ', H', J'.ofTry ok, r, q⟩
end
end Wp
set_option Elab.async false
set_option linter.all false
set_option maxRecDepth 100000
set_option maxHeartbeats 400000
namespace Wp
open PySem PySem.Spec PyProof.Rows L2
-- _law_asked: slots _law_term 0, _law_kept 1, e 2
abbrev s_law_asked : Stmt := top 101
theorem sc_law_asked : FnScope ["_law_term", "_law_kept", "e"] ["_law_term"] (defScope s_law_asked) := ⟨rfl, rfl, rfl, by decide +kernel, rfl, by decide +kernel, by decide +kernel⟩
abbrev sl_law_asked : List Str := ["_law_term", "_law_kept", "e"]
-- _law_is: slots _law_told 0, _law_text 1, _law_winds 2, _law_steps 3, _law_output 4
abbrev s_law_is : Stmt := top 102
theorem sc_law_is : FnScope ["_law_told", "_law_text", "_law_winds", "_law_steps", "_law_output"] ["_law_told", "_law_text", "_law_winds", "_law_steps", "_law_output"] (defScope s_law_is) := ⟨rfl, rfl, rfl, by decide +kernel, rfl, by decide +kernel, by decide +kernel⟩
abbrev sl_law_is : List Str := ["_law_told", "_law_text", "_law_winds", "_law_steps", "_law_output"]
def HD (P : Program) (w : World) (K : PySem.W.Frag) (mg : Str → Option Value) (base : Heap) (x : Str) (ps : List Str) (k : Nat) (dvs : List V) (sp : Sp) : Prop :=
  ∃ (f : Addr) (fd : FuncData) (ds : List Value), FnOk P w K mg base (L2.CX P w) k f fd ps sp ∧ mg x = some (.ref f) ∧ PySem.W.keepIn K (.ref f) = true ∧ Binds K fd ps ds ∧ Vals dvs ds
section
variable {X : Cx} {k : Nat} {dvs : List V} {ps : List Str} {sp : Sp} {x : Str} {p pos : Pos} {e : Expr} {es : List Expr} {t : TA} {E : L2.St → XK}
theorem pe_hd (h : HD X.prog X.w X.K X.mg X.base x ps k dvs sp) (hr : Room k X.A) (ha : PA X (e :: es) t) (hg : Gl X x := by rfl)
    (hdb : (x == ("__debug__" : Str)) = false := by decide) (he : starEach (e :: es) X.env = (false, eval e X.env) :: starEach es X.env := by rfl) (hpl : (backTo pos (starEach es X.env)).any (·.1) = false := by rfl) :
    PE X (.Call (.Name x p) (e :: es) [] pos) (tCall sp dvs E0 t) := by
  obtain ⟨f, fd, ds, F, m, kp, b, v⟩ := h
  exact pe_call F hr hg m kp b v passL ha hdb he hpl
def tCallSD (sp : Sp) (dvs : List V) (E : L2.St → XK) (t : TA) : TE := fun σ H Q => t σ H fun vs H1 => sp (vs ++ dvs) H1 Q (E σ)
theorem pe_hds (h : HD X.prog X.w X.K X.mg X.base x ps k dvs sp) (hr : Room k X.A) (hx : ∀ σ, PassesAt (L2.CX X.prog X.w) X σ (E σ)) (ha : PA X (e :: es) t) (hg : Gl X x := by rfl)
    (hdb : (x == ("__debug__" : Str)) = false := by decide) (he : starEach (e :: es) X.env = (false, eval e X.env) :: starEach es X.env := by rfl) (hpl : (backTo pos (starEach es X.env)).any (·.1) = false := by rfl) : PE X (.Call (.Name x p) (e :: es) [] pos) (tCallSD sp dvs E t) := by
  obtain ⟨f, fd, ds, F, hm, hk, hb, hd⟩ := h
  refine ⟨fun pins s σ H Q I h => wpAny_Call_Name_kw (ld_glob I hg hm ?_ hdb)⟩
  refine PySem.W.callWith_K (h₀ := X.base) I.ok.mod.kin hk (thn (ha.run pos pins s σ H _ I h) fun us s1 ⟨vs, H1, I1, r, q⟩ => ⟨I1.kIn, ?_⟩) he hpl
  have r2 : Vals (vs ++ dvs) (us ++ ds) := r.append hd
  have ll : (us ++ ds).length = ps.length := by rw [← r2.length]; exact F.len _ _ _ _ q
  refine wpAny_call (codeAny_mono (F.run X.A X.stack s1 H1 ⟨us, []⟩ (us ++ ds) (vs ++ dvs) Q (E σ) hr I1.env0 (hb s1 us I1.kIn ll) r2 q) fun r s' z => ?_)
  cases r with
  | error er => exact hx σ pins H1 s1 er s' I1 z
  | ok fl =>
    cases fl with
    | ret u => exact I1.after z
    | _ => exact False.elim z
end
abbrev bodyOfTry : Stmt → List Stmt
  | .Try b _ _ _ _ => b
  | _ => []
abbrev askTry : List Stmt := bodyOfTry ((defBody s_law_asked).getD 1 (.Pass ⟨0, 0, 0, 0⟩))
def tAskTry (A : Ad) (W : WX) : TS := tDrop (tCallSD (spRT A) [.int 200000] (WE W) (tCons (tVar 0) (tCons (tC .non) tNil)))
def spAsked (A : Ad) : Sp := fun vs H Q _ => ∃ (a : Addr) (tv : V) (d : PyData) (n c hh : Nat), vs = [tv] ∧ Dq a H tv d ∧ Fm n d ∧ n ≤ 100 ∧ cw d ≤ 20000 ∧ c ≤ 100 ∧ hh ≤ 90 ∧ (∀ E, GSt A .non E d c hh) ∧ ∀ H', Same H H' → Q (.bl true) H'
theorem wl_dql {a : Addr} {H : Hp} (ha : ∃ xs, H a = some (.lst xs)) : ∀ {ws : List V} {L : List (Str × Int)}, WL H ws L → DqL a H ws (lD L)
  | _, _, .nil => .nil
  | _, _, .cons h r => .cons (.tup (fun z => by
      obtain ⟨xs, ha⟩ := ha
      rw [z, ha] at h
      cases h) h (.cons (.str _) (.cons (.int _) .nil))) (wl_dql ha r)
def spIs (A : Ad) : Sp := fun vs H Q _ => ∃ (a r wl ol : Addr) (z : Str) (st : Int) (v hg : V) (W : Wt) (outs wnds ws os : List V) (dsW dsO : List PyData), vs = [.ref r, .str z, .ref wl, .int st, .ref ol] ∧ ResAt A H r (.str "worth") v outs wnds (.int st) hg ∧ VAt A H v W ∧ okW W ∧ szW W ≤ 1000 ∧ (shW W).length ≤ 100000 ∧ shW W = z.cps.toList ∧
  H wl = some (.lst ws) ∧ H ol = some (.lst os) ∧ DqL a H wnds dsW ∧ DqL a H ws dsW ∧ DqL a H outs dsO ∧ DqL a H os dsO ∧ SeqAt.shaped (.list dsW) = true ∧ SeqAt.shaped (.list dsO) = true ∧ (PyData.list dsW).canLay0 = true ∧ (PyData.list dsO).canLay0 = true ∧ ∀ H', Same H H' → Q (.bl true) H'
section
variable {P : Program} {w : World} {K : PySem.W.Frag} {mg : Str → Option Value} {base : Heap} {f : Addr} {fd : FuncData} {A : Ad}
theorem ok_is (F : Fun K "_law_is" "_law_is" s_law_is f fd) (TR : TxC K A.re reNs) (Gshown : Has P w K mg base "shown" ["worth"] 3 (spShown A)) : FnOk P w K mg base CX0 4 f fd ["_law_told", "_law_text", "_law_winds", "_law_steps", "_law_output"] (spIs A) := by
  refine F.ok sc_law_is (fun vs H Q E h => ?_) (fun cdv A' outer s0 H vs Q E hr h => ?_)
  · obtain ⟨a, r, wl, ol, z, st, v, hg, W, outs, wnds, ws, os, dsW, dsO, rfl, _⟩ := h
    rfl
  obtain ⟨a, r, wl, ol, z, st, v, hg, W, outs, wnds, ws, os, dsW, dsO, rfl, ⟨dx, lo, lw, hr0, hlo, hlw⟩, hv, ok, sz, ln, ez, hwl, hol, q1, q2, q3, q4, sh1, sh2, cl1, cl2, q⟩ := h
  refine ⟨_, (pss_cons (ps_if (PW.pt (pw_or (pt_cmpR op_ne (pe_fld (pv 0) rfl) pe_str (nomark _)) (pw_or (pt_cmpR op_ne (pe_has Gshown (hr.mono (by omega)) (pa_cons (pe_fld (pv 0) rfl) pa_nil)) (pv 1) (nomark _)) (pw_or (pt_cmpR (op_neD hr.units) (pe_fld (pv 0) rfl) (pv 2) (nomark _)) (pw_or1 (pt_cmpR (op_neD hr.units) (pe_fld (pv 0) rfl) (pv 4) (nomark _))))))) (pss_one (ps_ret pe_bl)) pss_nil)
  (pss_one (ps_ret (pe_cmpR op_eq (pe_fld (pv 0) rfl) (pv 3) (nomark _))))), ?_⟩
  refine ⟨_, rfl, r, A.re, dx, _, _, rfl, hr0, TR.cl, TR.no _ (by decide), rfl, rfl, _, rfl, ?_⟩
  refine iteF ?_
  refine ⟨_, rfl, r, A.re, dx, _, _, rfl, hr0, TR.cl, TR.no _ (by decide), rfl, v, _, _, rfl, hv.sh ok, sz, ln, fun tx H1 htx s1 => ?_⟩
  have etx : tx = z := str_ext (htx.trans ez)
  subst etx
  refine ⟨_, rfl, rfl, _, rfl, ?_⟩
  refine ite2 (fun c => absurd c (by simp)) (fun _ => ?_)
  have hr1 := s1 _ _ hr0
  have kq : ∀ {vs : List V} {ds : List PyData}, DqL a H vs ds → DqL a H1 vs ds := fun h => h.st fun b xs _ e => s1 _ _ e
  refine ⟨_, rfl, r, A.re, dx, _, _, rfl, hr1, TR.cl, TR.no _ (by decide), rfl, _, rfl, .list dsW, .list dsW, .lst (SqL.of (s1 _ _ hlw)) (kq q1).dp, .lst (SqL.of (s1 _ _ hwl)) (kq q2).dp, sh1, sh1, _, rfl, ?_⟩
  rw [SeqAt.eqv_refl _ cl1]
  refine iteF ?_
  refine ⟨_, rfl, r, A.re, dx, _, _, rfl, hr1, TR.cl, TR.no _ (by decide), rfl, _, rfl, .list dsO, .list dsO, .lst (SqL.of (s1 _ _ hlo)) (kq q3).dp, .lst (SqL.of (s1 _ _ hol)) (kq q4).dp, sh2, sh2, _, rfl, ?_⟩
  rw [SeqAt.eqv_refl _ cl2]
  refine iteF ?_
  refine ⟨_, rfl, r, A.re, dx, _, _, rfl, hr1, TR.cl, TR.no _ (by decide), rfl, _, rfl, rfl, ?_⟩
  rw [decide_eq_true rfl]
  exact q H1 s1
theorem ok_asked {S : Addr} (F : Fun K "_law_asked" "_law_asked" s_law_asked f fd) (T : AllC K A) (Grun_turned : HD P w K mg base "run_turned" ["term", "given", "most"] 19 [.int 200000] (spRT A)) (m_isinstance : mg "isinstance" = none) (m_RuntimeError : mg "RuntimeError" = none) (m_str : mg "str" = none) (mC : mg "Stuck" = some (.ref A.sk)) (hx : PySem.W.exmOne K (.ref A.sk) (.ref A.sk) = some true) (iC : IsC K A.sk) (xC : XfC K A.sk) (hn1 : PySem.W.findIn K (.ref A.sk) "word" = some none) (hL : PySem.W.kitOne K (.ref A.sk) (.type "RuntimeError") = some true) : FnOk P w K mg base CX0 20 f fd ["_law_term"] (spAsked A) := by
  refine F.ok sc_law_asked (fun vs H Q E h => ?_) (fun cdv A' outer s H vs Q E hr h => ?_)
  · obtain ⟨a, tv, d, n, c, hh, rfl, _⟩ := h
    rfl
  obtain ⟨a, tv, d, n, c, hh, rfl, hd, fm, hn, hcw, hc, hh1, hst, q⟩ := h
  have hb : ∀ (W : WX) (pn : List (Addr × Obj)) (xe : Value → Shared → Prop), Takes ((cxOf CX0 P w K mg base sl_law_asked "_law_asked" (defScope s_law_asked) f cdv A' outer s H E).nox.tr pn xe) W → PassesOwn (model P w) (cxOf CX0 P w K mg base sl_law_asked "_law_asked" (defScope s_law_asked) f cdv A' outer s H E).nox.A (cxOf CX0 P w K mg base sl_law_asked "_law_asked" (defScope s_law_asked) f cdv A' outer s H E).nox.env xe → PSs ((cxOf CX0 P w K mg base sl_law_asked "_law_asked" (defScope s_law_asked) f cdv A' outer s H E).nox.tr pn xe) askTry (tAskTry A W) := by
    intro W pn xe tk po
    exact pss_one (ps_expr (pe_hds Grun_turned (hr.mono (by decide)) (fun σ => passAt tk σ) (pa_cons (pv 0) (pa_cons pe_non pa_nil))))
  refine ⟨_, pss_cons (ps_set (i := 1) sc_law_asked.nd rfl (.inl rfl) pe_non) (pss_cons
    (ps_try_keep1 (i := 2) rfl rfl rfl sc_law_asked.nd rfl rfl rfl mC hb
      (fun a oe cls d pn hz hv => pss_one (ps_set (i := 1) sc_law_asked.nd rfl (.inl rfl) (pv 2))))
    (pss_one (ps_ret (pe_and (pe_cmpR op_notN (pv 1) pe_non (nomark _)) (pe_and (pe_callB call_isK rfl m_isinstance PyProof.Rows.Boot.isinstance (pa_cons (pv 1) (pa_cons (pe_bltn (v := .ty "RuntimeError") rfl m_RuntimeError PyProof.Rows.Boot.«RuntimeError» rfl) pa_nil))) (pe_one (pe_callB call_isi rfl m_isinstance PyProof.Rows.Boot.isinstance (pa_cons (pe_kf (pv 1)) (pa_cons (pe_bltn (v := .ty "str") rfl m_str PyProof.Rows.Boot.«str» rfl) pa_nil))))))))), ?_⟩
  refine ⟨_, rfl, rt_stuck T hd fm hn hcw (by omega) hh1 (fun H1 z s1 => ?_) (hst _)⟩
  intro dd H2 s2 nd ed
  refine ⟨hx, fun er ner => ⟨_, rfl, ?_⟩⟩
  have nd2 : dd ≠ er := ne_of_none ed ner
  have ed2 : upd H2 er (exK er (.ref A.sk) (some dd)) dd = some (.xd [("word", .str z)]) := (upd_ne nd2).trans ed
  refine ⟨_, rfl, rfl, _, rfl, ?_⟩
  refine ite2 (fun _ => ?_) (fun c => absurd (by simp) c)
  refine ⟨_, rfl, er, A.sk, dd, _, .ty "RuntimeError", .type "RuntimeError", true, rfl, .ty _, upd_same, ed2, iC, hL, _, rfl, ?_⟩
  refine iteT ?_
  refine ⟨_, rfl, er, A.sk, dd, _, .str z, rfl, upd_same, xC, hn1, ed2, rfl, .str z, .ty "str", .type "str", .type "str", true, rfl, .ty _, .base (.str z), kit_ty (by decide +kernel), ?_⟩
  exact q _ fun b o e => by
    have e2 := s2 _ _ (s1 _ _ e)
    rw [upd_ne (ne_of_none e2 ner)]
    exact e2
end
end Wp
set_option Elab.async false
set_option linter.all false
set_option maxRecDepth 100000
set_option maxHeartbeats 400000
namespace Wp
open PySem PySem.Spec PyProof.Rows L2
-- _law_loop: slots _law_dr 0, _law_many 1, _law_less 2, _law_again 3, _law_body 4, _law_told 5, _law_said 6, _law_k 7
abbrev s_law_loop : Stmt := top 103
theorem sc_law_loop : FnScope ["_law_dr", "_law_many", "_law_less", "_law_again", "_law_body", "_law_told", "_law_said", "_law_k"] ["_law_dr"] (defScope s_law_loop) := ⟨rfl, rfl, rfl, by decide +kernel, rfl, by decide +kernel, by decide +kernel⟩
abbrev sl_law_loop : List Str := ["_law_dr", "_law_many", "_law_less", "_law_again", "_law_body", "_law_told", "_law_said", "_law_k"]
theorem g_end {a : Addr} {G : List (Option (Ty a))} {m1 : Nat} {E : XK} {ta : TA} {d1 : PyData} (h : GA a m1 G ta [tyD a d1]) : GE a (m1 + 0) G (tCall spEndL [] E ta) (tyD a (dEnd d1)) := fun n σ H hn c d Q q =>
  h n σ H (by omega) c d _ fun vs H1 g1 d1' ps => ⟨d1, a, n + m1, by omega, d1', by rw [List.append_nil]; exact ps, fun v H2 g2 d2 p2 => q v H2 (g1.trans g2) (d2.mono (by omega)) p2⟩
theorem said_range : ∀ (i k : Nat), k ≤ i → (List.range k).map (fun j : Nat => V.str (toString ((i : Int) - ((0 : Int) + (j : Int))))) = (said i).take k
  | i, 0, _ => by simp
  | 0, k + 1, h => absurd h (by omega)
  | i + 1, k + 1, h => by
    rw [List.range_succ_eq_map, List.map_cons, List.map_map, said, List.take_succ_cons]
    congr 1
    rw [← said_range i k (by omega)]
    apply List.map_congr_left
    intro j _
    show V.str (toString (((i + 1 : Nat) : Int) - ((0 : Int) + ((j + 1 : Nat) : Int)))) = _
    rw [show ((i + 1 : Nat) : Int) - ((0 : Int) + ((j + 1 : Nat) : Int)) = (i : Int) - ((0 : Int) + (j : Int)) by omega]
def saidD (i : Nat) : List PyData := (said i).map fun v => match v with | .str z => .str z | _ => .none
theorem said_dql {a : Addr} {H : Hp} : ∀ i, DqL a H (said i) (saidD i)
  | 0 => .nil
  | i + 1 => .cons (.str _) (said_dql i)
theorem said_lay : ∀ i : Nat, i < 31 → PyData.canLayAll0 (saidD i) = true := by decide +kernel
theorem said_depth : ∀ i, PyData.depthAll (saidD i) ≤ 1
  | 0 => Nat.zero_le _
  | i + 1 => by
    have := said_depth i
    show max (PyData.depth (.str _)) (PyData.depthAll (saidD i)) ≤ 1
    exact Nat.max_le.mpr ⟨by show 0 ≤ 1; decide, this⟩
def spLoop : Sp := spG 1 (fun a => [tyIs a (.ref a)]) (fun a => tyIs a (.bl true))
theorem dr_lst {H : Hp} {a : Addr} {n : Nat} (d : Dr H a n) : ∃ xs, H a = some (.lst xs) := by
  obtain ⟨x, c, b, h, _⟩ := d
  exact ⟨_, h⟩
theorem dr_same {H H' : Hp} {a : Addr} {n : Nat} (d : Dr H a n) (s : Same H H') : Dr H' a n := by
  obtain ⟨x, c, b, h, r⟩ := d
  exact ⟨x, c, b, s _ _ h, r⟩
section
variable {P : Program} {w : World} {K : PySem.W.Frag} {mg : Str → Option Value} {base : Heap} {f : Addr} {fd : FuncData} {A : Ad}
theorem ok_loop (F : Fun K "_law_loop" "_law_loop" s_law_loop f fd) (T : AllC K A) (TR : TxC K A.re reNs) (m_range : mg "range" = none) (m_str : mg "str" = none) (G_law_next : Has P w K mg base "_law_next" ["_law_dr"] 1 spNext) (G_law_end : Has P w K mg base "_law_end" ["_law_term"] 2 spEndL) (Grun_turned : HD P w K mg base "run_turned" ["term", "given", "most"] 19 [.int 200000] (spRT A)) (CPair : HasC P w K mg base "Pair" A.pa ["self", "first", "rest"] 1 (spIni A.pa ["first", "rest"])) (G_law_is : Has P w K mg base "_law_is" ["_law_told", "_law_text", "_law_winds", "_law_steps", "_law_output"] 4 (spIs A)) : FnOk P w K mg base CX0 20 f fd ["_law_dr"] spLoop := by
  refine fun_G F sc_law_loop (fun a => rfl) (by decide) fun cdv A' outer s0 H00 E hr => ⟨_, (pss_cons (ps_set (i := 1) sc_law_loop.nd rfl (.inr rfl) (pe_op op_mod (pe_has G_law_next (hr.mono (by omega)) (pa_cons (pv 0) pa_nil)) pe_int))
  (pss_cons (ps_set (i := 2) sc_law_loop.nd rfl (.inl rfl) (pe_tup (pa_cons pe_str (pa_cons pe_str (pa_cons (pe_tup (pa_cons (pe_tup (pa_cons pe_str (pa_cons pe_str pa_nil))) (pa_cons (pe_tup (pa_cons pe_str (pa_cons pe_int pa_nil))) pa_nil))) pa_nil)))))
  (pss_cons (ps_set (i := 3) sc_law_loop.nd rfl (.inl rfl) (pe_tup (pa_cons pe_str (pa_cons pe_str (pa_cons (pe_tup (pa_cons pe_str (pa_cons (pe_tup (pa_cons pe_str (pa_cons pe_str pa_nil))) pa_nil))) (pa_cons (pe_tup (pa_cons pe_str (pa_cons (pe_tup (pa_cons pe_str (pa_cons pe_str pa_nil))) (pa_cons (pe_tup (pa_cons (pv 2) pa_nil)) pa_nil)))) pa_nil))))))
  (pss_cons (ps_set (i := 4) sc_law_loop.nd rfl (.inl rfl) (pe_tup (pa_cons pe_str (pa_cons (pe_tup (pa_cons pe_str (pa_cons pe_str (pa_cons (pe_tup (pa_cons (pe_tup (pa_cons pe_str (pa_cons pe_str pa_nil))) (pa_cons (pe_tup (pa_cons pe_str (pa_cons pe_int pa_nil))) pa_nil))) pa_nil)))) (pa_cons (pe_has G_law_end (hr.mono (by omega)) (pa_cons (pe_tup (pa_cons pe_str (pa_cons pe_str pa_nil))) pa_nil)) (pa_cons (pv 3) pa_nil))))))
  (pss_cons (ps_set (i := 5) sc_law_loop.nd rfl (.inl rfl) (pe_hd Grun_turned (hr.mono (by omega)) (pa_cons (pe_tup (pa_cons pe_str (pa_cons (pe_tup (pa_cons pe_str (pa_cons pe_str (pa_cons (pe_tup (pa_cons pe_str pa_nil)) (pa_cons (pv 4) pa_nil))))) (pa_cons (pe_tup (pa_cons (pe_tup (pa_cons pe_str (pa_cons (pv 1) pa_nil))) pa_nil)) pa_nil)))) (pa_cons (pe_hasC CPair (hr.mono (by omega)) (pa_cons pe_int (pa_cons pe_non pa_nil))) pa_nil))))
  (pss_cons (ps_setLc (i := 6) (own := [("_law_k", 7)]) (g := gName 7) (tt := tYes) (te := (tCB (fun xs H Q => ∃ i : Int, xs = [.int i] ∧ i.natAbs.log2 < 1920 ∧ Q (.str (toString i)) H) (tCons (tOp (rI0 fun i j => .int (i - j)) (tVar 1) (tVar 7)) tNil))) rfl sc_law_loop.nd rfl rfl (sw_true rfl rfl rfl (by decide +kernel)) (pi_range1 rfl m_range (pa_cons (pv 1) pa_nil)) (blkOk_by (N := sl_law_loop) (sc := defScope s_law_loop) (by decide +kernel)) (fun _ _ _ _ _ => (pg_name (i := 7) sc_law_loop.nd rfl (.inl rfl))) (fun _ _ _ _ _ => pts_nil) (fun _ _ _ _ _ => (pe_callTy call_str_int rfl m_str PyProof.Rows.Boot.«str» (pa_cons (pe_op op_sub (pv 1) (pv 7)) pa_nil))))
  (pss_one (ps_ret (pe_and (pe_has G_law_is (hr.mono (by omega)) (pa_cons (pv 5) (pa_cons pe_str (pa_cons (pe_lst pa_nil) (pa_cons (pe_op op_add pe_int (pe_op op_mul pe_int (pv 1))) (pa_cons (pv 6) pa_nil)))))) (pe_one (pe_cmpR op_lt (pe_fld (pv 5) rfl) pe_int (nomark _)))))))))))), fun a => ?_⟩
  show GS a 1 [some (tyIs a (.ref a)), none, none, none, none, none, none, none] _ none (tyIs a (.bl true))
  refine gs_seq (m1 := 1) (m2 := 0) (GS.up (gs_set (g_mod (g_call (ga_cons (g_var rfl) ga_nil)) (by decide))) (by decide)) ?_
  dsimp only [List.set]
  refine gs_exi (i := 1) (Z := { i : Nat // i < 30 }) (Q := fun i => tyD a (.int (i.1 : Int))) rfl (fun v H h => by
    obtain ⟨i, rfl, h1, h2⟩ := h
    refine ⟨⟨i.toNat, by omega⟩, ?_⟩
    have e : i = ((i.toNat : Nat) : Int) := by omega
    show Dq a H (.int i) (.int ((i.toNat : Nat) : Int))
    rw [← e]
    exact .int i) fun ⟨i, li⟩ => ?_
  dsimp only [List.set]
  refine gs_seq (m1 := 0) (m2 := 0) (gs_set (gd_tup (gad_cons (gd_str "op") (gad_cons (gd_str "minus") (gad_cons (gd_tup (gad_cons (gd_tup (gad_cons (gd_str "name") (gad_cons (gd_str "n") gad_nil))) (gad_cons (gd_tup (gad_cons (gd_str "num") (gad_cons (gd_int 1) gad_nil))) gad_nil))) gad_nil))))) ?_
  dsimp only [List.set]
  refine gs_seq (m1 := 0) (m2 := 0) (gs_set (gd_tup (gad_cons (gd_str "let") (gad_cons (gd_str "q") (gad_cons (gd_tup (gad_cons (gd_str "say") (gad_cons (gd_tup (gad_cons (gd_str "name") (gad_cons (gd_str "n") gad_nil))) gad_nil))) (gad_cons (gd_tup (gad_cons (gd_str "call") (gad_cons (gd_tup (gad_cons (gd_str "name") (gad_cons (gd_str "f") gad_nil))) (gad_cons (gd_tup (gad_cons (g_var rfl) gad_nil)) gad_nil)))) gad_nil)))))) ?_
  dsimp only [List.set]
  refine gs_seq (m1 := 0) (m2 := 0) (gs_set (gd_tup (gad_cons (gd_str "if") (gad_cons (gd_tup (gad_cons (gd_str "op") (gad_cons (gd_str "less") (gad_cons (gd_tup (gad_cons (gd_tup (gad_cons (gd_str "name") (gad_cons (gd_str "n") gad_nil))) (gad_cons (gd_tup (gad_cons (gd_str "num") (gad_cons (gd_int 1) gad_nil))) gad_nil))) gad_nil)))) (gad_cons (g_end (ga_cons (gd_tup (gad_cons (gd_str "name") (gad_cons (gd_str "input") gad_nil))) ga_nil)) (gad_cons (g_var rfl) gad_nil)))))) ?_
  dsimp only [List.set]
  have hT0 : ∀ {G : List (Option (Ty a))} {ta : TA} {ds : List PyData}, GAD a 0 G ta ds → ds.length ≤ 1000 → GE a 0 G (tTup ta) (tyD a (.tuple ds)) := fun h hl => gd_tup h hl
  have ⟨TT, hTT⟩ : ∃ TT, TT = tTup := ⟨_, rfl⟩
  rw [← hTT] at hT0
  rw [← hTT]
  have gT : ∀ {G : List (Option (Ty a))} {ta : TA} {ds : List PyData} (_ : GAD a 0 G ta ds) (_ : ds.length ≤ 1000 := by simp), GE a 0 G (TT ta) (tyD a (.tuple ds)) := fun h hl => hT0 h hl
  intro n σ H D0 hn c d q k2
  refine (gT (gad_cons (gd_str "call") (gad_cons (gT (gad_cons (gd_str "rec") (gad_cons (gd_str "f") (gad_cons (gT (gad_cons (gd_str "n") gad_nil)) (gad_cons (g_var (i := 4) (by rfl)) gad_nil))))) (gad_cons (gT (gad_cons (gT (gad_cons (gd_str "num") (gad_cons (g_var (i := 1) (by rfl)) gad_nil))) gad_nil)) gad_nil))) : GE a 0 _ _ (tyD a (dLoop (i : Int)))) n σ H hn c d _ fun v5 H5 g5 d5 p5 => ?_
  match σ, c.len, c with
  | [o0, o1, o2, o3, o4, o5, o6, o7], _, c =>
  obtain ⟨w1, e1, q1⟩ := c.at_ 1 _ rfl
  cases q1
  have e1' : o1 = some (.int (i : Int)) := by simpa using e1
  subst e1'
  have p5' : Dq a H5 v5 (dLoop (i : Int)) := p5
  have gA := g5
  refine fun px dpx npx ndpx npd => ⟨px, dpx, [.int 1, .non], rfl, rfl, upd_same, fun H6 hpx k6 => ⟨rfl, ?_⟩⟩
  have s6 : Same H5 H6 := fun b o e => by
    rw [k6 b (ne_of_none e npx), upd_ne (ne_of_none e npx), upd_ne (ne_of_none e ndpx)]
    exact e
  have hg : VAt A H6 (.ref px) wIn := .pair hpx (.int 1) .non
  refine rt_loop (i := i) T (p5'.tp fun b xs e => s6 _ _ e) (loop_fm _) (by decide) (loop_cw _) (by omega) (by omega) hg fun r H7 v hgt s7 hres hle hv => ?_
  have d7 := dr_same (dr_same d5 s6) s7
  have lst7 := dr_lst d7
  refine ⟨_, rfl, (i : Int), rfl, by omega, by omega, fun D hD => ?_⟩
  have en : ((i : Nat) : Int).toNat = i := by omega
  have nDa : D ≠ a := d7.ne hD
  refine lc_range (lo := 0) (n := ((i : Nat) : Int).toNat) (fun t H' => Same H7 H' ∧ H' D = some (.lst ((List.range t).map fun j : Nat => V.str (toString ((i : Int) - ((0 : Int) + (j : Int))))))) ⟨same_new hD, by rw [upd_same]; rfl⟩ ?_ ?_
  · rintro t H' ht ⟨s', hD'⟩
    refine ⟨rfl, ?_⟩
    refine ⟨_, rfl, _, rfl, _, _, rfl, rfl, _, rfl, ?_, ?_⟩
    · exact sml_log (by omega)
    refine ⟨_, hD', by rw [List.length_map, List.length_range, sizeLine_eq]; omega, fun b o e => ?_, ?_⟩
    · rw [upd_ne (ne_of_none e hD)]
      exact s' _ _ e
    · rw [upd_same, List.range_succ, List.map_append]
      rfl
  · rintro H8 ⟨s8, hD8⟩
    rw [en, said_range i i (Nat.le_refl _), List.take_of_length_le (by rw [said_len]; exact Nat.le_refl _)] at hD8
    obtain ⟨dxr, lo, lw, hr8, hlo8, hlw8⟩ := id hres
    refine ⟨_, rfl, (by decide), fun wl nwl => ?_⟩
    have s9 : Same H8 (upd H8 wl (.lst [])) := same_new nwl
    have hwl : upd H8 wl (.lst []) wl = some (.lst []) := upd_same
    generalize upd H8 wl (.lst []) = H9 at s9 hwl ⊢
    have s79 : Same H7 H9 := fun b o e => s9 _ _ (s8 _ _ e)
    refine ⟨_, rfl, _, _, rfl, rfl, .inl ⟨by decide, by decide⟩, _, _, rfl, rfl, _, rfl, ?_⟩
    have est : (10 : Int) + 12 * (i : Int) = ((10 + 12 * i : Nat) : Int) := by omega
    refine ⟨a, r, wl, D, "(1 . none)", 10 + 12 * (i : Int), v, .int hgt, wIn, said i, [], [], said i, [], saidD i, rfl, ⟨dxr, lo, lw, by rw [est]; exact s79 _ _ hr8, s79 _ _ hlo8, s79 _ _ hlw8⟩, hv.same s79, ⟨by show (1 : Int).natAbs.log2 < 1920; decide, True.intro⟩, by decide, by decide +kernel, by decide +kernel, hwl, s9 _ _ hD8, .nil, .nil, said_dql i, said_dql i, shaped_list rfl (by decide), shaped_list (said_lay i (by omega)) (Nat.le_trans (said_depth i) (by decide)), rfl, said_lay i (by omega), fun H10 s10 => ?_⟩
    refine ⟨_, rfl, ?_⟩
    refine iteT ?_
    refine ⟨_, rfl, r, A.re, dxr, _, _, rfl, s10 _ _ (s79 _ _ hr8), TR.cl, TR.no _ (by decide), rfl, _, _, rfl, rfl, ?_⟩
    have eb : decide (hgt < 4) = true := decide_eq_true (by omega)
    show D0.rt (.bl (decide (hgt < 4))) H10
    rw [eb]
    have gg : Gx a H H10 := fun b o nb e => s10 _ _ (s79 _ _ (s7 _ _ (s6 _ _ (gA b o nb e))))
    exact q _ H10 gg (dr_same (dr_same d7 s79) s10) rfl
end
end Wp
set_option Elab.async false
set_option linter.all false
set_option maxRecDepth 100000
set_option maxHeartbeats 400000
namespace Wp
open PySem PySem.Spec PyProof.Rows L2
-- law: slots _law_script 0, _law_cell 1, _law_dr 2, _law_turn 3, _law_term 4, _law_text 5, _law_winds 6, _law_steps 7
abbrev slaw : Stmt := top 104
theorem sclaw : FnScope ["_law_script", "_law_cell", "_law_dr", "_law_turn", "_law_term", "_law_text", "_law_winds", "_law_steps"] ["_law_script"] (defScope slaw) := ⟨rfl, rfl, rfl, by decide +kernel, rfl, by decide +kernel, by decide +kernel⟩
abbrev sllaw : List Str := ["_law_script", "_law_cell", "_law_dr", "_law_turn", "_law_term", "_law_text", "_law_winds", "_law_steps"]
def spLaw (K : PySem.W.Frag) : Sp := fun vs H Q _ => ∃ (a : Addr) (ns : List Int), vs = [.ref a] ∧ SqL K H a (ns.map V.int) ∧ ns.length ≤ 63 ∧ ∀ H', Q (.bl true) H'
theorem lG_lay (y : Int) : ∀ r, PyData.canLayAll0 (lG y r) = true ∧ PyData.depthAll (lG y r) ≤ 60
  | 0 => ⟨rfl, Nat.zero_le _⟩
  | 1 => ⟨rfl, Nat.zero_le _⟩
  | 2 => ⟨rfl, Nat.zero_le _⟩
  | 3 => ⟨rfl, Nat.zero_le _⟩
  | 4 => ⟨by
      show (PyData.strOk "in" && (true && true) && true) = true
      have : PyData.strOk "in" = true := by decide +kernel
      rw [this]
      rfl, by
      show max (PyData.depth (.tuple [.str "in", .int y])) 0 ≤ 60
      simp [PyData.depth, PyData.depthAll]⟩
  | 5 => ⟨rfl, Nat.zero_le _⟩
  | _ + 6 => ⟨rfl, Nat.zero_le _⟩
section
variable {P : Program} {w : World} {K : PySem.W.Frag} {mg : Str → Option Value} {base : Heap} {f : Addr} {fd : FuncData} {A : Ad}
theorem ok_law (F : Fun K "law" "law" slaw f fd) (T : AllC K A) {tk : Tok} (m_TURNED_MOST : mg "TURNED_MOST" = some (.int 200000 tk)) (m_range : mg "range" = none) (G_law_draws : Has P w K mg base "_law_draws" ["_law_cell"] 1 spDraws) (G_law_good : Has P w K mg base "_law_good" ["_law_dr"] 3 spGood) (G_law_end : Has P w K mg base "_law_end" ["_law_term"] 2 spEndL) (Grun_turned : HD P w K mg base "run_turned" ["term", "given", "most"] 19 [.int 200000] (spRT A))
    (G_law_is : Has P w K mg base "_law_is" ["_law_told", "_law_text", "_law_winds", "_law_steps", "_law_output"] 4 (spIs A)) (G_law_asked : Has P w K mg base "_law_asked" ["_law_term"] 20 (spAsked A)) (G_law_stuck : Has P w K mg base "_law_stuck" ["_law_dr"] 3 spStuck) (G_law_loop : Has P w K mg base "_law_loop" ["_law_dr"] 20 spLoop) : FnOk P w K mg base CX0 21 f fd ["_law_script"] (spLaw K) := by
  refine F.ok sclaw (fun vs H Q E h => ?_) (fun cdv A' outer s0 H vs Q E hr h => ?_)
  · obtain ⟨a, ns, rfl, _⟩ := h
    rfl
  obtain ⟨a, ns, rfl, hs, hl, q⟩ := h
  refine ⟨_, (pss_cons (ps_if (pt_cmpR op_ne (pe_glob (v := (.int 200000)) rfl m_TURNED_MOST ⟨_, rfl⟩) pe_int (nomark _)) (pss_one (ps_ret pe_bl)) pss_nil)
  (pss_cons (ps_for PassesOwn.never rfl (pi_list (pe_op op_cat (pe_slice sl_list (pv 0) po_none (po_some pe_int)) (pe_lst (pa_cons pe_int pa_nil)))) (pg_name (i := 1) sclaw.nd rfl (.inl rfl)) (pss_cons (ps_set (i := 2) sclaw.nd rfl (.inl rfl) (pe_has G_law_draws (hr.mono (by omega)) (pa_cons (pv 1) pa_nil)))
  (pss_cons (ps_for PassesOwn.never rfl (pi_range1 rfl m_range (pa_cons pe_int pa_nil)) (pg_name (i := 3) sclaw.nd rfl (.inl rfl)) (pss_cons (ps_asg (pe_has G_law_good (hr.mono (by omega)) (pa_cons (pv 2) pa_nil)) (pg_tup rfl (pgs_cons (pg_name (i := 4) sclaw.nd rfl (.inl rfl)) (pgs_cons (pg_name (i := 5) sclaw.nd rfl (.inl rfl)) (pgs_cons (pg_name (i := 6) sclaw.nd rfl (.inl rfl)) (pgs_cons (pg_name (i := 7) sclaw.nd rfl (.inl rfl)) pgs_nil))))))
  (pss_cons (ps_if (pt_not (pt_val (pe_has G_law_is (hr.mono (by omega)) (pa_cons (pe_hd Grun_turned (hr.mono (by omega)) (pa_cons (pe_has G_law_end (hr.mono (by omega)) (pa_cons (pv 4) pa_nil)) (pa_cons pe_non pa_nil))) (pa_cons (pv 5) (pa_cons (pv 6) (pa_cons (pe_op op_add (pv 7) pe_int) (pa_cons (pe_lst pa_nil) pa_nil)))))))) (pss_one (ps_ret pe_bl)) pss_nil)
  (pss_one (ps_if (PW.pt (pw_or (pt_not (pt_val (pe_has G_law_asked (hr.mono (by omega)) (pa_cons (pe_has G_law_stuck (hr.mono (by omega)) (pa_cons (pv 2) pa_nil)) pa_nil)))) (pw_or1 (pt_not (pt_val (pe_has G_law_asked (hr.mono (by omega)) (pa_cons (pe_has G_law_end (hr.mono (by omega)) (pa_cons (pe_has G_law_stuck (hr.mono (by omega)) (pa_cons (pv 2) pa_nil)) pa_nil)) pa_nil))))))) (pss_one (ps_ret pe_bl)) pss_nil)))))
  (pss_one (ps_if (pt_not (pt_val (pe_has G_law_loop (hr.mono (by omega)) (pa_cons (pv 2) pa_nil)))) (pss_one (ps_ret pe_bl)) pss_nil)))))
  (pss_one (ps_ret pe_bl)))), ?_⟩
  refine ⟨rfl, _, rfl, ?_⟩
  refine ite2 (fun c => absurd c (by decide)) (fun _ => ?_)
  refine ⟨_, rfl, 6, rfl, a, _, rfl, hs, fun p1 h1 => ⟨(by show 1 ≤ sizeLine; decide), fun p2 h2 => ?_⟩⟩
  have hcl := cutV_length (ns.map V.int) none (some 6)
  have hcm : ∀ x ∈ cutV (ns.map V.int) none (some 6), ∃ c : Int, x = .int c := fun x hx => by
    unfold cutV at hx
    obtain ⟨c, _, e⟩ := List.mem_map.mp (List.mem_of_mem_drop (List.mem_of_mem_take hx))
    exact ⟨c, e.symm⟩
  rw [List.length_map] at hcl
  generalize cutV (ns.map V.int) none (some 6) = cs at *
  have hall : ∀ x ∈ cs ++ [V.int 0], ∃ c : Int, x = .int c := fun x hx => by
    rcases List.mem_append.mp hx with h | h
    · exact hcm x h
    · exact ⟨0, List.mem_singleton.mp h⟩
  refine ⟨p1, p2, cs, [.int 0], rfl, rfl, same_new h2 _ _ upd_same, upd_same, Nat.le_of_lt (small1000 (by show cs.length + 1 ≤ 1000; omega)), fun l hl' => ⟨l, rfl, ⟨_, SqL.of upd_same⟩, for_list (xs := cs ++ [V.int 0]) (fun i σ H' => H' l = some (.lst (cs ++ [V.int 0])) ∧ ∃ t1 t2 t3 t4 t5 t6 t7, σ = [some (.ref a), t1, t2, t3, t4, t5, t6, t7]) ?_ ?_ ?_ ?_⟩⟩
  · exact ⟨upd_same, none, none, none, none, none, none, none, rfl⟩
  · rintro i σ H' hi ⟨e, _⟩
    exact SqL.of e
  · rintro i x σ H' hx ⟨e, t1, t2, t3, t4, t5, t6, t7, rfl⟩
    obtain ⟨c, rfl⟩ := hall x (List.mem_of_getElem? hx)
    refine ⟨_, rfl, c, rfl, fun p H2 s2 n2 d2 => ?_⟩
    have nl : l ≠ p := ne_of_none e n2
    refine ⟨6, rfl, by decide, by decide, for_range (n := 6) (fun i σ H' => H' l = some (.lst (cs ++ [V.int 0])) ∧ Dr H' p (i * 10) ∧ ∃ t3 t4 t5 t6 t7, σ = [some (.ref a), some (.int c), some (.ref p), t3, t4, t5, t6, t7]) ?_ ?_ ?_⟩
    · exact ⟨s2 _ _ e, d2.mono (Nat.zero_le _), t3, t4, t5, t6, t7, rfl⟩
    · rintro k σ H3 hk ⟨e3, d3, t3, t4, t5, t6, t7, rfl⟩
      have kb : k * 10 + 10 ≤ big := by
        have : k * 10 ≤ 60 := by omega
        exact Nat.le_trans (Nat.add_le_add_right this 10) (by decide)
      refine ⟨_, rfl, p, k * 10, by omega, d3, .cons rfl .nil, fun v4 H4 g4 d4 p4 => ?_⟩
      obtain ⟨x, y, j, h, r, hx4, hy4, lj, lh, lr, qq, tv, wv, rfl, nq, hq, hd, wl, ws, rfl, nwl, hwl, hws⟩ := p4
      refine ⟨qq, _, rfl, SqT.of hq, rfl, _, _, rfl, _, _, rfl, _, _, rfl, _, _, rfl, rfl, ?_⟩
      refine ⟨_, rfl, dG x y j h r, p, k * 10 + 3, by omega, d4, .cons hd .nil, fun v5 H5 g5 d5 p5 => ?_⟩
      obtain ⟨cc, hh, W, L, ec, lc, lhh, gev, esh, okw, szw, lnw, elG⟩ := good_ev (A := A) (gv := .non) (E := E0) (noce_of T) hx4 hy4 lj lh r lr
      have p5' : Dq p H5 v5 (dEnd (dG x y j h r)) := p5
      refine rt_good (W := W) (L := L) T p5' (good_fm x y j h r) (by decide) (good_cw x y j h r) (by omega) lhh gev fun rr H6 v wnds hg s6 hres hv hwnd => ?_
      have d6 := dr_same d5 s6
      refine ⟨_, rfl, _, rfl, _, rfl, _, _, rfl, rfl, (by decide), fun ol nol => ?_⟩
      have s7 : Same H6 (upd H6 ol (.lst [])) := same_new nol
      have hol : upd H6 ol (.lst []) ol = some (.lst []) := upd_same
      generalize upd H6 ol (.lst []) = H7 at s7 hol ⊢
      obtain ⟨dxr, lo, lw, hr6, hlo6, hlw6⟩ := hres
      have est : cG r + 2 = ((cc + 2 : Nat) : Int) := by rw [ec]; omega
      have ly := lG_lay y r
      have wq : DqL p H7 ws (lG y r) := hws.st fun b xs nb ee => s7 _ _ (s6 _ _ (g5 _ _ nb ee))
      have wq2 : DqL p H7 wnds (lG y r) := by
        rw [elG]
        exact (wl_dql (dr_lst d6) hwnd).st fun b xs nb ee => s7 _ _ ee
      refine ⟨p, rr, wl, ol, zG x y j h r, cG r + 2, v, .int hg, W, [], wnds, ws, [], lG y r, [], rfl, ⟨dxr, lo, lw, by rw [est]; exact s7 _ _ hr6, s7 _ _ hlo6, s7 _ _ hlw6⟩, hv.same s7, okw, szw, lnw, esh, s7 _ _ (s6 _ _ (g5 _ _ nwl hwl)), hol, wq2, wq, .nil, .nil, shaped_list ly.1 ly.2, shaped_list rfl (by decide), ly.1, rfl, fun H8 s8 => ?_⟩
      refine ⟨_, rfl, ?_⟩
      refine iteF ?_
      have d8 := dr_same (dr_same d6 s7) s8
      refine ⟨_, rfl, p, k * 10 + 3, by omega, d8.mono (by omega), .cons rfl .nil, fun v9 H9 g9 d9 p9 => ?_⟩
      obtain ⟨x9, r9, lr9, hd9⟩ := p9
      obtain ⟨c9, hh9, l9, m9, st9⟩ := stuck_st (A := A) (gv := .non) x9 r9
      refine ⟨p, v9, dS x9 r9, 9, c9, hh9, rfl, hd9, stuck_fm x9 r9, by decide, Nat.le_trans (stuck_cw x9 r9) (by decide), by omega, by omega, st9, fun H10 s10 => ?_⟩
      refine ⟨_, rfl, ?_⟩
      refine iteF ?_
      have d10 := dr_same d9 s10
      refine ⟨_, rfl, p, k * 10 + 3 + 2, by omega, d10, .cons rfl .nil, fun v11 H11 g11 d11 p11 => ?_⟩
      obtain ⟨x11, r11, lr11, hd11⟩ := p11
      refine ⟨dS x11 r11, p, k * 10 + 3 + 2 + 2, by omega, d11, .cons hd11 .nil, fun v12 H12 g12 d12 p12 => ?_⟩
      obtain ⟨c12, hh12, l12, m12, st12⟩ := stuck_st (A := A) (gv := .non) x11 r11
      have cw12 : cw (dEnd (dS x11 r11)) ≤ 20000 := by
        have := stuck_cw x11 r11
        simp only [cw, cwL]
        omega
      refine ⟨p, v12, dEnd (dS x11 r11), 10, c12 + 2, hh12 + 1, rfl, p12, fm_op2 _ (fm_text _ _) (stuck_fm x11 r11), by decide, cw12, by omega, by omega, fun E => stuck_end (st12 E), fun H13 s13 => ?_⟩
      refine ⟨_, rfl, ?_⟩
      refine iteF ?_
      have eF : H13 l = some (.lst (cs ++ [V.int 0])) := s13 _ _ (g12 _ _ nl (g11 _ _ nl (s10 _ _ (g9 _ _ nl (s8 _ _ (s7 _ _ (s6 _ _ (g5 _ _ nl (g4 _ _ nl e3)))))))))
      exact ⟨eF, (dr_same d12 s13).mono (by omega), _, _, _, _, _, rfl⟩
    · rintro σ H3 ⟨e3, d3, t3, t4, t5, t6, t7, rfl⟩
      refine ⟨_, rfl, p, 6 * 10, by decide, d3, .cons rfl .nil, fun v4 H4 g4 d4 p4 => ?_⟩
      cases p4
      refine ⟨_, rfl, ?_⟩
      refine iteF ?_
      exact ⟨g4 _ _ nl e3, _, _, _, _, _, _, _, rfl⟩
  · rintro σ H' ⟨e, t1, t2, t3, t4, t5, t6, t7, rfl⟩
    exact q H'
end
end Wp
set_option Elab.async false
set_option linter.all false
set_option maxRecDepth 100000
set_option maxHeartbeats 1000000
namespace Wp
open PySem PySem.Spec PyProof.Rows L2
section
variable {P : Program} {w : World} {K : PySem.W.Frag} {mg : Str → Option Value} {base : Heap} {f C N : Addr} {fd : FuncData}
theorem ok_funD {dvs : List V} {kws : List (Str × V)} (F : FunD K "__init__" "Fun.__init__" (defArgs sFun___init__) (defBody sFun___init__) (defScope sFun___init__) dvs kws f fd) (T : TxC K C ["place", "env"]) : FnOk P w K mg base CX0 1 f fd ["self", "place", "env"] (spIni C ["place", "env"]) := by
  refine F.ok (CX := CX0) scFun___init__ (fun vs H Q E h => ?_) (fun cdv A outer s H vs Q E hr h => ?_)
  · obtain ⟨x, dx, ws, rfl, hl, _⟩ := h
    rw [List.length_cons, hl]
    rfl
  obtain ⟨x, dx, ws, rfl, hl, hx, q⟩ := h
  match ws, hl with
  | [v0, v1], _ =>
  refine ⟨_, (pss_cons (ps_fld (pv 0) (pv 1) rfl)
  (pss_one (ps_fld (pv 0) (pv 2) rfl))), ?_⟩
  refine ⟨_, rfl, _, rfl, x, C, dx, _, rfl, hx, T.cl, T.no _ (by decide), (by show 0 < 1000; decide), ?_⟩
  refine ⟨_, rfl, _, rfl, x, C, dx, _, rfl, upd_same, T.cl, T.no _ (by decide), (by show 1 < 1000; decide), ?_⟩
  exact q _ upd_same fun b hb => by rw [upd_ne hb, upd_ne hb]
theorem ok_cellD {dvs : List V} {kws : List (Str × V)} (F : FunD K "__init__" "Cell.__init__" (defArgs sCell___init__) (defBody sCell___init__) (defScope sCell___init__) dvs kws f fd) (T : TxC K C ["held"]) : FnOk P w K mg base CX0 1 f fd ["self", "held"] (spIni C ["held"]) := by
  refine F.ok (CX := CX0) scCell___init__ (fun vs H Q E h => ?_) (fun cdv A outer s H vs Q E hr h => ?_)
  · obtain ⟨x, dx, ws, rfl, hl, _⟩ := h
    rw [List.length_cons, hl]
    rfl
  obtain ⟨x, dx, ws, rfl, hl, hx, q⟩ := h
  match ws, hl with
  | [v0], _ =>
  refine ⟨_, (pss_one (ps_fld (pv 0) (pv 1) rfl)), ?_⟩
  refine ⟨_, rfl, _, rfl, x, C, dx, _, rfl, hx, T.cl, T.no _ (by decide), (by show 0 < 1000; decide), ?_⟩
  exact q _ upd_same fun b hb => by rw [upd_ne hb]
theorem ok_pointD {dvs : List V} {kws : List (Str × V)} (F : FunD K "__init__" "Point.__init__" (defArgs sPoint___init__) (defBody sPoint___init__) (defScope sPoint___init__) dvs kws f fd) (T : TxC K C ["held"]) : FnOk P w K mg base CX0 1 f fd ["self", "held"] (spIni C ["held"]) := by
  refine F.ok (CX := CX0) scPoint___init__ (fun vs H Q E h => ?_) (fun cdv A outer s H vs Q E hr h => ?_)
  · obtain ⟨x, dx, ws, rfl, hl, _⟩ := h
    rw [List.length_cons, hl]
    rfl
  obtain ⟨x, dx, ws, rfl, hl, hx, q⟩ := h
  match ws, hl with
  | [v0], _ =>
  refine ⟨_, (pss_one (ps_fld (pv 0) (pv 1) rfl)), ?_⟩
  refine ⟨_, rfl, _, rfl, x, C, dx, _, rfl, hx, T.cl, T.no _ (by decide), (by show 0 < 1000; decide), ?_⟩
  exact q _ upd_same fun b hb => by rw [upd_ne hb]
theorem ok_partD {dvs : List V} {kws : List (Str × V)} (F : FunD K "__init__" "Part.__init__" (defArgs sPart___init__) (defBody sPart___init__) (defScope sPart___init__) dvs kws f fd) (T : TxC K C ["held"]) : FnOk P w K mg base CX0 1 f fd ["self", "held"] (spIni C ["held"]) := by
  refine F.ok (CX := CX0) scPart___init__ (fun vs H Q E h => ?_) (fun cdv A outer s H vs Q E hr h => ?_)
  · obtain ⟨x, dx, ws, rfl, hl, _⟩ := h
    rw [List.length_cons, hl]
    rfl
  obtain ⟨x, dx, ws, rfl, hl, hx, q⟩ := h
  match ws, hl with
  | [v0], _ =>
  refine ⟨_, (pss_one (ps_fld (pv 0) (pv 1) rfl)), ?_⟩
  refine ⟨_, rfl, _, rfl, x, C, dx, _, rfl, hx, T.cl, T.no _ (by decide), (by show 0 < 1000; decide), ?_⟩
  exact q _ upd_same fun b hb => by rw [upd_ne hb]
theorem bindsF {dvs : List V} {kws : List (Str × V)} (hd : dvs.length = 2) (F : FunD K "__init__" "Fun.__init__" (defArgs sFun___init__) (defBody sFun___init__) (defScope sFun___init__) dvs kws f fd) : Binds K fd ["self", "place", "env"] [] := by
  obtain ⟨ds, v, b⟩ := F.binds1 (ps := ["self", "place", "env"]) 3 2 (fun z => by rw [z] at hd; cases hd) (by rw [hd]; rfl) (fun T kV doc pm an cdv ct us its l1 l2 => by
    rw [hd] at l2
    match us, its, l1, l2 with
    | [_, _, _], [_, _], _, _ => exact ⟨_, rfl, rfl⟩)
  have e : dvs.drop 2 = [] := List.drop_eq_nil_of_le (by omega)
  rw [e] at v
  cases v
  exact b
theorem bindsCell {dvs : List V} {kws : List (Str × V)} (hd : dvs.length = 1) (F : FunD K "__init__" "Cell.__init__" (defArgs sCell___init__) (defBody sCell___init__) (defScope sCell___init__) dvs kws f fd) : Binds K fd ["self", "held"] [] := by
  obtain ⟨ds, v, b⟩ := F.binds1 (ps := ["self", "held"]) 2 1 (fun z => by rw [z] at hd; cases hd) (by rw [hd]; rfl) (fun T kV doc pm an cdv ct us its l1 l2 => by
    rw [hd] at l2
    match us, its, l1, l2 with
    | [_, _], [_], _, _ => exact ⟨_, rfl, rfl⟩)
  have e : dvs.drop 1 = [] := List.drop_eq_nil_of_le (by omega)
  rw [e] at v
  cases v
  exact b
theorem bindsPoint {dvs : List V} {kws : List (Str × V)} (hd : dvs.length = 1) (F : FunD K "__init__" "Point.__init__" (defArgs sPoint___init__) (defBody sPoint___init__) (defScope sPoint___init__) dvs kws f fd) : Binds K fd ["self", "held"] [] := by
  obtain ⟨ds, v, b⟩ := F.binds1 (ps := ["self", "held"]) 2 1 (fun z => by rw [z] at hd; cases hd) (by rw [hd]; rfl) (fun T kV doc pm an cdv ct us its l1 l2 => by
    rw [hd] at l2
    match us, its, l1, l2 with
    | [_, _], [_], _, _ => exact ⟨_, rfl, rfl⟩)
  have e : dvs.drop 1 = [] := List.drop_eq_nil_of_le (by omega)
  rw [e] at v
  cases v
  exact b
theorem bindsPart {dvs : List V} {kws : List (Str × V)} (hd : dvs.length = 1) (F : FunD K "__init__" "Part.__init__" (defArgs sPart___init__) (defBody sPart___init__) (defScope sPart___init__) dvs kws f fd) : Binds K fd ["self", "held"] [] := by
  obtain ⟨ds, v, b⟩ := F.binds1 (ps := ["self", "held"]) 2 1 (fun z => by rw [z] at hd; cases hd) (by rw [hd]; rfl) (fun T kV doc pm an cdv ct us its l1 l2 => by
    rw [hd] at l2
    match us, its, l1, l2 with
    | [_, _], [_], _, _ => exact ⟨_, rfl, rfl⟩)
  have e : dvs.drop 1 = [] := List.drop_eq_nil_of_le (by omega)
  rw [e] at v
  cases v
  exact b
end
end Wp
set_option Elab.async false
set_option linter.all false
set_option maxRecDepth 100000
set_option maxHeartbeats 4000000
namespace Wp
open PySem PySem.Spec PyProof.Rows L2
theorem strs_vals : ∀ {vs : List Value} {xs : List Str}, strsV vs = some xs → Vals (xs.map V.str) vs
  | [], _, h => by
    cases h
    exact .nil
  | v :: vs, xs, h => by
    rw [strsV] at h
    cases h1 : strV v with
    | none => rw [h1] at h; cases h
    | some x =>
      cases h2 : strsV vs with
      | none => rw [h1, h2] at h; cases h
      | some ys =>
        rw [h1, h2] at h
        cases h
        refine .cons ?_ (strs_vals h2)
        cases v with
        | str y t =>
          cases h1
          exact ⟨t, rfl⟩
        | _ => cases h1
def intV : Value → Option Int
  | .int x _ => some x
  | _ => none
def intsV : List Value → Option (List Int)
  | [] => some []
  | v :: vs => match intV v, intsV vs with
    | some x, some xs => some (x :: xs)
    | _, _ => none
def tupN (o : Obj) : Option (List Int) := match o.cls, o.data with
  | .type n, .seq its _ => if n = "tuple" ∧ its.size ≤ 100 then intsV its.toList else none
  | _, _ => none
theorem ints_vals : ∀ {vs : List Value} {xs : List Int}, intsV vs = some xs → Vals (xs.map V.int) vs
  | [], _, h => by
    cases h
    exact .nil
  | v :: vs, xs, h => by
    rw [intsV] at h
    cases h1 : intV v with
    | none => rw [h1] at h; cases h
    | some x =>
      cases h2 : intsV vs with
      | none => rw [h1, h2] at h; cases h
      | some ys =>
        rw [h1, h2] at h
        cases h
        refine .cons ?_ (ints_vals h2)
        cases v with
        | int y t =>
          cases h1
          exact ⟨t, rfl⟩
        | _ => cases h1
theorem sq_strs {K : PySem.W.Frag} {t : Addr} {o : Obj} {ks : List Str} (g : K.lookup t = some o) (v : tupS o = some ks) (H : Hp) : SqT K H t (ks.map V.str) := by
  obtain ⟨oc, od, dt, sl⟩ := o
  unfold tupS at v
  cases oc with
  | type nm =>
    cases dt with
    | seq its m =>
      dsimp only at v
      by_cases h : nm = "tuple" ∧ its.size ≤ 100
      · rw [if_pos h] at v
        refine .inr ⟨_, its, m, g, by rw [h.1], rfl, ?_, strs_vals v⟩
        rw [sizeLine_eq]
        omega
      · rw [if_neg h] at v
        cases v
    | _ => cases v
  | _ => cases v
theorem sq_ints {K : PySem.W.Frag} {t : Addr} {o : Obj} {ks : List Int} (g : K.lookup t = some o) (v : tupN o = some ks) (H : Hp) : SqT K H t (ks.map V.int) := by
  obtain ⟨oc, od, dt, sl⟩ := o
  unfold tupN at v
  cases oc with
  | type nm =>
    cases dt with
    | seq its m =>
      dsimp only at v
      by_cases h : nm = "tuple" ∧ its.size ≤ 100
      · rw [if_pos h] at v
        refine .inr ⟨_, its, m, g, by rw [h.1], rfl, ?_, ints_vals v⟩
        rw [sizeLine_eq]
        omega
      · rw [if_neg h] at v
        cases v
    | _ => cases v
  | _ => cases v
theorem in_ok {K : PySem.W.Frag} {w : World} {d : Addr} {es : Array DictEntry} {n : Nat} {z : Str} {r : Option Value} (l : K.lookup d = some ⟨.type "dict", none, .dict es n, #[]⟩) (kl : PySem.W.KeysLit w.params es.toList) (lo : (d == sysModules) = false) (e : PySem.W.nsIn K d z = some r) : InOk K w d z r.isSome := ⟨es, n, r, ⟨l, kl, lo⟩, e, rfl⟩
theorem exm_of {K : PySem.W.Frag} {S c : Addr} {b : Bool} (h1 : PySem.W.subIn K (.ref c) (.type "BaseException") = some true) (h2 : PySem.W.isClsIn K c = true) (h3 : PySem.W.typeIn K (.ref c) = some (.type "type")) (h4 : PySem.W.subIn K (.ref S) (.ref c) = some b) :
    PySem.W.exmOne K (.ref S) (.ref c) = some b := by
  unfold PySem.W.isClsIn at h2
  unfold PySem.W.exmOne PySem.W.kitCls
  rw [h1]
  have e2 : ((PySem.W.clsIn K c).isSome && PySem.W.typeIn K (.ref c) == some (.type "type")) = true := by
    rw [h2, h3]
    rfl
  exact (if_pos rfl).trans ((if_pos e2).trans h4)
theorem kit_re {K : PySem.W.Frag} {S : Addr} (h : PySem.W.subIn K (.ref S) (.type "RuntimeError") = some true) : PySem.W.kitOne K (.ref S) (.type "RuntimeError") = some true := by
  have e : PySem.W.kitMeta "RuntimeError" = true := by decide +kernel
  unfold PySem.W.kitOne PySem.W.kitCls
  rw [if_neg (by simp)]
  exact (if_pos e).trans h
theorem formA {K : PySem.W.Frag} {w : World} {fo t : Addr} {es : Array DictEntry} {n : Nat} {x : Str} {o : Obj} {ks : List Str} (l : K.lookup fo = some ⟨.type "dict", none, .dict es n, #[]⟩) (kl : PySem.W.KeysLit w.params es.toList) (e : PySem.W.nsIn K fo x = some (some (.ref t))) (g : K.lookup t = some o) (v : tupS o = some ks) :
    ∃ t, KDct K w fo x (.ref t) ∧ ∀ H, SqT K H t (ks.map V.str) := ⟨t, ⟨es, n, _, l, kl, e, rfl⟩, sq_strs g v⟩
theorem own_mro {K : PySem.W.Frag} {C : Addr} {o : Obj} {l : List Value} (g : K.lookup C = some o) (v : mroO o = some l) : ∃ cd, PySem.W.clsIn K C = some cd ∧ cd.mro = l := by
  obtain ⟨a, b, d, s⟩ := o
  unfold mroO at v
  dsimp only at v
  split at v
  · rename_i cd
    cases v
    exact ⟨cd, by unfold PySem.W.clsIn; rw [g], rfl⟩
  · cases v
theorem fals {P : Program} {w : World} {K : PySem.W.Frag} {mg : Str → Option Value} {base : Heap} {CX : CXT} {k : Nat} {f : Addr} {fd : FuncData} {ps : List Str} : FnOk P w K mg base CX k f fd ps (fun _ _ _ _ => False) := ⟨fun _ _ _ _ h => h.elim, fun _ _ _ _ _ _ _ _ _ _ _ _ _ h => h.elim⟩

theorem all_mk {l : PySem.W.OpenLaw} {w : World} {K : PySem.W.Frag} {h : Heap} {mg : Str → Option Value} {fa : Addr}
    {f_next : Addr} {oc_next kV_next dc_next pm_next cd_next ct_next : Value} {od_next an_next : Option Addr} {sl_next : Array (Option Value)}
    {f_draws : Addr} {oc_draws kV_draws dc_draws pm_draws cd_draws ct_draws : Value} {od_draws an_draws : Option Addr} {sl_draws : Array (Option Value)}
    {f_pairL : Addr} {oc_pairL kV_pairL dc_pairL pm_pairL cd_pairL ct_pairL : Value} {od_pairL an_pairL : Option Addr} {sl_pairL : Array (Option Value)}
    {f_endL : Addr} {oc_endL kV_endL dc_endL pm_endL cd_endL ct_endL : Value} {od_endL an_endL : Option Addr} {sl_endL : Array (Option Value)}
    {f_numL : Addr} {oc_numL kV_numL dc_numL pm_numL cd_numL ct_numL : Value} {od_numL an_numL : Option Addr} {sl_numL : Array (Option Value)}
    {f_good : Addr} {oc_good kV_good dc_good pm_good cd_good ct_good : Value} {od_good an_good : Option Addr} {sl_good : Array (Option Value)}
    {f_stuckL : Addr} {oc_stuckL kV_stuckL dc_stuckL pm_stuckL cd_stuckL ct_stuckL : Value} {od_stuckL an_stuckL : Option Addr} {sl_stuckL : Array (Option Value)}
    {f_asked : Addr} {oc_asked kV_asked dc_asked pm_asked cd_asked ct_asked : Value} {od_asked an_asked : Option Addr} {sl_asked : Array (Option Value)}
    {f_is : Addr} {oc_is kV_is dc_is pm_is cd_is ct_is : Value} {od_is an_is : Option Addr} {sl_is : Array (Option Value)}
    {f_loop : Addr} {oc_loop kV_loop dc_loop pm_loop cd_loop ct_loop : Value} {od_loop an_loop : Option Addr} {sl_loop : Array (Option Value)}
    {f_law : Addr} {oc_law kV_law dc_law pm_law cd_law ct_law : Value} {od_law an_law : Option Addr} {sl_law : Array (Option Value)}
    {f_whole : Addr} {oc_whole kV_whole dc_whole pm_whole cd_whole ct_whole : Value} {od_whole an_whole : Option Addr} {sl_whole : Array (Option Value)}
    {f_kindOf : Addr} {oc_kindOf kV_kindOf dc_kindOf pm_kindOf cd_kindOf ct_kindOf : Value} {od_kindOf an_kindOf : Option Addr} {sl_kindOf : Array (Option Value)}
    {f_shA : Addr} {oc_shA kV_shA dc_shA pm_shA cd_shA ct_shA : Value} {od_shA an_shA : Option Addr} {sl_shA : Array (Option Value)}
    {f_shown : Addr} {oc_shown kV_shown dc_shown pm_shown cd_shown ct_shown : Value} {od_shown an_shown : Option Addr} {sl_shown : Array (Option Value)}
    {f_unch : Addr} {oc_unch kV_unch dc_unch pm_unch cd_unch ct_unch : Value} {od_unch an_unch : Option Addr} {sl_unch : Array (Option Value)}
    {f_whole2 : Addr} {oc_whole2 kV_whole2 dc_whole2 pm_whole2 cd_whole2 ct_whole2 : Value} {od_whole2 an_whole2 : Option Addr} {sl_whole2 : Array (Option Value)}
    {f_bnum : Addr} {oc_bnum kV_bnum dc_bnum pm_bnum cd_bnum ct_bnum : Value} {od_bnum an_bnum : Option Addr} {sl_bnum : Array (Option Value)}
    {f_btext : Addr} {oc_btext kV_btext dc_btext pm_btext cd_btext ct_btext : Value} {od_btext an_btext : Option Addr} {sl_btext : Array (Option Value)}
    {f_plus : Addr} {oc_plus kV_plus dc_plus pm_plus cd_plus ct_plus : Value} {od_plus an_plus : Option Addr} {sl_plus : Array (Option Value)}
    {f_minus : Addr} {oc_minus kV_minus dc_minus pm_minus cd_minus ct_minus : Value} {od_minus an_minus : Option Addr} {sl_minus : Array (Option Value)}
    {f_times : Addr} {oc_times kV_times dc_times pm_times cd_times ct_times : Value} {od_times an_times : Option Addr} {sl_times : Array (Option Value)}
    {f_less : Addr} {oc_less kV_less dc_less pm_less cd_less ct_less : Value} {od_less an_less : Option Addr} {sl_less : Array (Option Value)}
    {f_join : Addr} {oc_join kV_join dc_join pm_join cd_join ct_join : Value} {od_join an_join : Option Addr} {sl_join : Array (Option Value)}
    {f_first : Addr} {oc_first kV_first dc_first pm_first cd_first ct_first : Value} {od_first an_first : Option Addr} {sl_first : Array (Option Value)}
    {f_kindW : Addr} {oc_kindW kV_kindW dc_kindW pm_kindW cd_kindW ct_kindW : Value} {od_kindW an_kindW : Option Addr} {sl_kindW : Array (Option Value)}
    {f_opW : Addr} {oc_opW kV_opW dc_opW pm_opW cd_opW ct_opW : Value} {od_opW an_opW : Option Addr} {sl_opW : Array (Option Value)}
    {f_partsOf : Addr} {oc_partsOf kV_partsOf dc_partsOf pm_partsOf cd_partsOf ct_partsOf : Value} {od_partsOf an_partsOf : Option Addr} {sl_partsOf : Array (Option Value)}
    {f_placedP : Addr} {oc_placedP kV_placedP dc_placedP pm_placedP cd_placedP ct_placedP : Value} {od_placedP an_placedP : Option Addr} {sl_placedP : Array (Option Value)}
    {f_waits : Addr} {oc_waits kV_waits dc_waits pm_waits cd_waits ct_waits : Value} {od_waits an_waits : Option Addr} {sl_waits : Array (Option Value)}
    {f_allP : Addr} {oc_allP kV_allP dc_allP pm_allP cd_allP ct_allP : Value} {od_allP an_allP : Option Addr} {sl_allP : Array (Option Value)}
    {f_placed : Addr} {oc_placed kV_placed dc_placed pm_placed cd_placed ct_placed : Value} {od_placed an_placed : Option Addr} {sl_placed : Array (Option Value)}
    {f_wo : Addr} {oc_wo kV_wo dc_wo pm_wo cd_wo ct_wo : Value} {od_wo an_wo : Option Addr} {sl_wo : Array (Option Value)}
    {f_ts : Addr} {oc_ts kV_ts dc_ts pm_ts cd_ts ct_ts : Value} {od_ts an_ts : Option Addr} {sl_ts : Array (Option Value)}
    {f_act : Addr} {oc_act kV_act dc_act pm_act cd_act ct_act : Value} {od_act an_act : Option Addr} {sl_act : Array (Option Value)}
    {f_gb : Addr} {oc_gb kV_gb dc_gb pm_gb cd_gb ct_gb : Value} {od_gb an_gb : Option Addr} {sl_gb : Array (Option Value)}
    {f_adv : Addr} {oc_adv kV_adv dc_adv pm_adv cd_adv ct_adv : Value} {od_adv an_adv : Option Addr} {sl_adv : Array (Option Value)}
    {f_ro : Addr} {oc_ro kV_ro dc_ro pm_ro cd_ro ct_ro : Value} {od_ro an_ro : Option Addr} {sl_ro : Array (Option Value)}
    {f_lit : Addr} {oc_lit kV_lit dc_lit pm_lit cd_lit ct_lit : Value} {od_lit an_lit : Option Addr} {sl_lit : Array (Option Value)}
    {f_yes : Addr} {oc_yes kV_yes dc_yes pm_yes cd_yes ct_yes : Value} {od_yes an_yes : Option Addr} {sl_yes : Array (Option Value)}
    {f_no : Addr} {oc_no kV_no dc_no pm_no cd_no ct_no : Value} {od_no an_no : Option Addr} {sl_no : Array (Option Value)}
    {f_none : Addr} {oc_none kV_none dc_none pm_none cd_none ct_none : Value} {od_none an_none : Option Addr} {sl_none : Array (Option Value)}
    {f_name : Addr} {oc_name kV_name dc_name pm_name cd_name ct_name : Value} {od_name an_name : Option Addr} {sl_name : Array (Option Value)}
    {f_funA : Addr} {oc_funA kV_funA dc_funA pm_funA cd_funA ct_funA : Value} {od_funA an_funA : Option Addr} {sl_funA : Array (Option Value)}
    {f_names : Addr} {oc_names kV_names dc_names pm_names cd_names ct_names : Value} {od_names an_names : Option Addr} {sl_names : Array (Option Value)}
    {f_cenv : Addr} {oc_cenv kV_cenv dc_cenv pm_cenv cd_cenv ct_cenv : Value} {od_cenv an_cenv : Option Addr} {sl_cenv : Array (Option Value)}
    {f_call : Addr} {oc_call kV_call dc_call pm_call cd_call ct_call : Value} {od_call an_call : Option Addr} {sl_call : Array (Option Value)}
    {f_let : Addr} {oc_let kV_let dc_let pm_let cd_let ct_let : Value} {od_let an_let : Option Addr} {sl_let : Array (Option Value)}
    {f_if : Addr} {oc_if kV_if dc_if pm_if cd_if ct_if : Value} {od_if an_if : Option Addr} {sl_if : Array (Option Value)}
    {f_op : Addr} {oc_op kV_op dc_op pm_op cd_op ct_op : Value} {od_op an_op : Option Addr} {sl_op : Array (Option Value)}
    {f_cellA : Addr} {oc_cellA kV_cellA dc_cellA pm_cellA cd_cellA ct_cellA : Value} {od_cellA an_cellA : Option Addr} {sl_cellA : Array (Option Value)}
    {f_get : Addr} {oc_get kV_get dc_get pm_get cd_get ct_get : Value} {od_get an_get : Option Addr} {sl_get : Array (Option Value)}
    {f_set : Addr} {oc_set kV_set dc_set pm_set cd_set ct_set : Value} {od_set an_set : Option Addr} {sl_set : Array (Option Value)}
    {f_say : Addr} {oc_say kV_say dc_say pm_say cd_say ct_say : Value} {od_say an_say : Option Addr} {sl_say : Array (Option Value)}
    {f_pairT : Addr} {oc_pairT kV_pairT dc_pairT pm_pairT cd_pairT ct_pairT : Value} {od_pairT an_pairT : Option Addr} {sl_pairT : Array (Option Value)}
    {f_tried : Addr} {oc_tried kV_tried dc_tried pm_tried cd_tried ct_tried : Value} {od_tried an_tried : Option Addr} {sl_tried : Array (Option Value)}
    {f_wound : Addr} {oc_wound kV_wound dc_wound pm_wound cd_wound ct_wound : Value} {od_wound an_wound : Option Addr} {sl_wound : Array (Option Value)}
    {f_pointT : Addr} {oc_pointT kV_pointT dc_pointT pm_pointT cd_pointT ct_pointT : Value} {od_pointT an_pointT : Option Addr} {sl_pointT : Array (Option Value)}
    {f_partT : Addr} {oc_partT kV_partT dc_partT pm_partT cd_partT ct_partT : Value} {od_partT an_partT : Option Addr} {sl_partT : Array (Option Value)}
    {f_inside : Addr} {oc_inside kV_inside dc_inside pm_inside cd_inside ct_inside : Value} {od_inside an_inside : Option Addr} {sl_inside : Array (Option Value)}
    {f_ie : Addr} {oc_ie kV_ie dc_ie pm_ie cd_ie ct_ie : Value} {od_ie an_ie : Option Addr} {sl_ie : Array (Option Value)}
    {u_TOO_GREAT : Tok}
    {u_TURNED_MOST : Tok}
    {fo wf wn oo aw am al : Addr} {esF esO esW esM esL : Array DictEntry} {nF nO nW nM nL : Nat} {owf own : Obj}
    {t0 : Addr} {o0 : Obj}
    {t1 : Addr} {o1 : Obj}
    {t2 : Addr} {o2 : Obj}
    {t3 : Addr} {o3 : Obj}
    {t4 : Addr} {o4 : Obj}
    {t5 : Addr} {o5 : Obj}
    {t6 : Addr} {o6 : Obj}
    {t7 : Addr} {o7 : Obj}
    {t8 : Addr} {o8 : Obj}
    {t9 : Addr} {o9 : Obj}
    {t10 : Addr} {o10 : Obj}
    {t11 : Addr} {o11 : Obj}
    {t12 : Addr} {o12 : Obj}
    {t13 : Addr} {o13 : Obj}
    {t14 : Addr} {o14 : Obj}
    {t15 : Addr} {o15 : Obj}
    {t16 : Addr} {o16 : Obj}
    {t17 : Addr} {o17 : Obj}
    {t18 : Addr} {o18 : Obj}
    {t19 : Addr} {o19 : Obj}
    {t20 : Addr} {o20 : Obj}
    {t21 : Addr} {o21 : Obj}
    {t22 : Addr} {o22 : Obj}
    {t23 : Addr} {o23 : Obj}
    {t24 : Addr} {o24 : Obj}
    {uo_plus : Tok}
    {uo_minus : Tok}
    {uo_times : Tok}
    {uo_joined : Tok}
    {cpl cpa cfu cce cpo cpt cno cfr cma cre csk : Addr}
    {ocpa : Obj}
    {ocfu : Obj}
    {occe : Obj}
    {ocpo : Obj}
    {ocpt : Obj}
    {f_Mpinit : Addr} {oc_Mpinit kV_Mpinit dc_Mpinit pm_Mpinit cd_Mpinit ct_Mpinit : Value} {od_Mpinit an_Mpinit : Option Addr} {sl_Mpinit : Array (Option Value)}
    {f_Mpainit : Addr} {oc_Mpainit kV_Mpainit dc_Mpainit pm_Mpainit cd_Mpainit ct_Mpainit : Value} {od_Mpainit an_Mpainit : Option Addr} {sl_Mpainit : Array (Option Value)}
    {f_Mninit : Addr} {oc_Mninit kV_Mninit dc_Mninit pm_Mninit cd_Mninit ct_Mninit : Value} {od_Mninit an_Mninit : Option Addr} {sl_Mninit : Array (Option Value)}
    {f_Mfinit : Addr} {oc_Mfinit kV_Mfinit dc_Mfinit pm_Mfinit cd_Mfinit ct_Mfinit : Value} {od_Mfinit an_Mfinit : Option Addr} {sl_Mfinit : Array (Option Value)}
    {f_Mminit : Addr} {oc_Mminit kV_Mminit dc_Mminit pm_Mminit cd_Mminit ct_Mminit : Value} {od_Mminit an_Mminit : Option Addr} {sl_Mminit : Array (Option Value)}
    {f_Mrinit : Addr} {oc_Mrinit kV_Mrinit dc_Mrinit pm_Mrinit cd_Mrinit ct_Mrinit : Value} {od_Mrinit an_Mrinit : Option Addr} {sl_Mrinit : Array (Option Value)}
    {f_Mpush : Addr} {oc_Mpush kV_Mpush dc_Mpush pm_Mpush cd_Mpush ct_Mpush : Value} {od_Mpush an_Mpush : Option Addr} {sl_Mpush : Array (Option Value)}
    {f_Mpull : Addr} {oc_Mpull kV_Mpull dc_Mpull pm_Mpull cd_Mpull ct_Mpull : Value} {od_Mpull an_Mpull : Option Addr} {sl_Mpull : Array (Option Value)}
    {f_Mmany : Addr} {oc_Mmany kV_Mmany dc_Mmany pm_Mmany cd_Mmany ct_Mmany : Value} {od_Mmany an_Mmany : Option Addr} {sl_Mmany : Array (Option Value)}
    {f_Mbegin : Addr} {oc_Mbegin kV_Mbegin dc_Mbegin pm_Mbegin cd_Mbegin ct_Mbegin : Value} {od_Mbegin an_Mbegin : Option Addr} {sl_Mbegin : Array (Option Value)}
    {f_Mgive : Addr} {oc_Mgive kV_Mgive dc_Mgive pm_Mgive cd_Mgive ct_Mgive : Value} {od_Mgive an_Mgive : Option Addr} {sl_Mgive : Array (Option Value)}
    {f_Mend : Addr} {oc_Mend kV_Mend dc_Mend pm_Mend cd_Mend ct_Mend : Value} {od_Mend an_Mend : Option Addr} {sl_Mend : Array (Option Value)}
    {f_Mfaulted : Addr} {oc_Mfaulted kV_Mfaulted dc_Mfaulted pm_Mfaulted cd_Mfaulted ct_Mfaulted : Value} {od_Mfaulted an_Mfaulted : Option Addr} {sl_Mfaulted : Array (Option Value)}
    {f_Mact_more : Addr} {oc_Mact_more kV_Mact_more dc_Mact_more pm_Mact_more cd_Mact_more ct_Mact_more : Value} {od_Mact_more an_Mact_more : Option Addr} {sl_Mact_more : Array (Option Value)}
    {f_Mback_to : Addr} {oc_Mback_to kV_Mback_to dc_Mback_to pm_Mback_to cd_Mback_to ct_Mback_to : Value} {od_Mback_to an_Mback_to : Option Addr} {sl_Mback_to : Array (Option Value)}
    {f_Mop_told : Addr} {oc_Mop_told kV_Mop_told dc_Mop_told pm_Mop_told cd_Mop_told ct_Mop_told : Value} {od_Mop_told an_Mop_told : Option Addr} {sl_Mop_told : Array (Option Value)}
    {f_Dfun : Addr} {fd_Dfun : FuncData}
    {f_Dcell : Addr} {fd_Dcell : FuncData}
    {f_Dpoint : Addr} {fd_Dpoint : FuncData}
    {f_Dpart : Addr} {fd_Dpart : FuncData}
    {f_rt : Addr} {fd_rt : FuncData}
    {fI : Addr} {ocI kVI dcI pmI cdI ctI : Value} {odI anI : Option Addr} {slI : Array (Option Value)}
    (X : K.In h) (G : h.Ns mainGlobals mg) (hfa : mg "law" = some (.ref fa))
    (a_next : PySem.W.nsIn K mainGlobals "_law_next" = some (some (.ref f_next)))
    (l_next : K.lookup f_next = some ⟨oc_next, od_next, .func (PySem.W.fnOf "_law_next" "_law_next" (defArgs s_law_next) (defBody s_law_next) (defScope s_law_next) .none kV_next dc_next pm_next an_next cd_next ct_next), sl_next⟩)
    (c_next : PySem.W.codeIn K cd_next "_law_next" = true)
    (k_next : PySem.W.keepIn K (.ref f_next) = true)
    (a_draws : PySem.W.nsIn K mainGlobals "_law_draws" = some (some (.ref f_draws)))
    (l_draws : K.lookup f_draws = some ⟨oc_draws, od_draws, .func (PySem.W.fnOf "_law_draws" "_law_draws" (defArgs s_law_draws) (defBody s_law_draws) (defScope s_law_draws) .none kV_draws dc_draws pm_draws an_draws cd_draws ct_draws), sl_draws⟩)
    (c_draws : PySem.W.codeIn K cd_draws "_law_draws" = true)
    (k_draws : PySem.W.keepIn K (.ref f_draws) = true)
    (a_pairL : PySem.W.nsIn K mainGlobals "_law_pair" = some (some (.ref f_pairL)))
    (l_pairL : K.lookup f_pairL = some ⟨oc_pairL, od_pairL, .func (PySem.W.fnOf "_law_pair" "_law_pair" (defArgs s_law_pair) (defBody s_law_pair) (defScope s_law_pair) .none kV_pairL dc_pairL pm_pairL an_pairL cd_pairL ct_pairL), sl_pairL⟩)
    (c_pairL : PySem.W.codeIn K cd_pairL "_law_pair" = true)
    (k_pairL : PySem.W.keepIn K (.ref f_pairL) = true)
    (a_endL : PySem.W.nsIn K mainGlobals "_law_end" = some (some (.ref f_endL)))
    (l_endL : K.lookup f_endL = some ⟨oc_endL, od_endL, .func (PySem.W.fnOf "_law_end" "_law_end" (defArgs s_law_end) (defBody s_law_end) (defScope s_law_end) .none kV_endL dc_endL pm_endL an_endL cd_endL ct_endL), sl_endL⟩)
    (c_endL : PySem.W.codeIn K cd_endL "_law_end" = true)
    (k_endL : PySem.W.keepIn K (.ref f_endL) = true)
    (a_numL : PySem.W.nsIn K mainGlobals "_law_num" = some (some (.ref f_numL)))
    (l_numL : K.lookup f_numL = some ⟨oc_numL, od_numL, .func (PySem.W.fnOf "_law_num" "_law_num" (defArgs s_law_num) (defBody s_law_num) (defScope s_law_num) .none kV_numL dc_numL pm_numL an_numL cd_numL ct_numL), sl_numL⟩)
    (c_numL : PySem.W.codeIn K cd_numL "_law_num" = true)
    (k_numL : PySem.W.keepIn K (.ref f_numL) = true)
    (a_good : PySem.W.nsIn K mainGlobals "_law_good" = some (some (.ref f_good)))
    (l_good : K.lookup f_good = some ⟨oc_good, od_good, .func (PySem.W.fnOf "_law_good" "_law_good" (defArgs s_law_good) (defBody s_law_good) (defScope s_law_good) .none kV_good dc_good pm_good an_good cd_good ct_good), sl_good⟩)
    (c_good : PySem.W.codeIn K cd_good "_law_good" = true)
    (k_good : PySem.W.keepIn K (.ref f_good) = true)
    (a_stuckL : PySem.W.nsIn K mainGlobals "_law_stuck" = some (some (.ref f_stuckL)))
    (l_stuckL : K.lookup f_stuckL = some ⟨oc_stuckL, od_stuckL, .func (PySem.W.fnOf "_law_stuck" "_law_stuck" (defArgs s_law_stuck) (defBody s_law_stuck) (defScope s_law_stuck) .none kV_stuckL dc_stuckL pm_stuckL an_stuckL cd_stuckL ct_stuckL), sl_stuckL⟩)
    (c_stuckL : PySem.W.codeIn K cd_stuckL "_law_stuck" = true)
    (k_stuckL : PySem.W.keepIn K (.ref f_stuckL) = true)
    (a_asked : PySem.W.nsIn K mainGlobals "_law_asked" = some (some (.ref f_asked)))
    (l_asked : K.lookup f_asked = some ⟨oc_asked, od_asked, .func (PySem.W.fnOf "_law_asked" "_law_asked" (defArgs s_law_asked) (defBody s_law_asked) (defScope s_law_asked) .none kV_asked dc_asked pm_asked an_asked cd_asked ct_asked), sl_asked⟩)
    (c_asked : PySem.W.codeIn K cd_asked "_law_asked" = true)
    (k_asked : PySem.W.keepIn K (.ref f_asked) = true)
    (a_is : PySem.W.nsIn K mainGlobals "_law_is" = some (some (.ref f_is)))
    (l_is : K.lookup f_is = some ⟨oc_is, od_is, .func (PySem.W.fnOf "_law_is" "_law_is" (defArgs s_law_is) (defBody s_law_is) (defScope s_law_is) .none kV_is dc_is pm_is an_is cd_is ct_is), sl_is⟩)
    (c_is : PySem.W.codeIn K cd_is "_law_is" = true)
    (k_is : PySem.W.keepIn K (.ref f_is) = true)
    (a_loop : PySem.W.nsIn K mainGlobals "_law_loop" = some (some (.ref f_loop)))
    (l_loop : K.lookup f_loop = some ⟨oc_loop, od_loop, .func (PySem.W.fnOf "_law_loop" "_law_loop" (defArgs s_law_loop) (defBody s_law_loop) (defScope s_law_loop) .none kV_loop dc_loop pm_loop an_loop cd_loop ct_loop), sl_loop⟩)
    (c_loop : PySem.W.codeIn K cd_loop "_law_loop" = true)
    (k_loop : PySem.W.keepIn K (.ref f_loop) = true)
    (a_law : PySem.W.nsIn K mainGlobals "law" = some (some (.ref f_law)))
    (l_law : K.lookup f_law = some ⟨oc_law, od_law, .func (PySem.W.fnOf "law" "law" (defArgs slaw) (defBody slaw) (defScope slaw) .none kV_law dc_law pm_law an_law cd_law ct_law), sl_law⟩)
    (c_law : PySem.W.codeIn K cd_law "law" = true)
    (k_law : PySem.W.keepIn K (.ref f_law) = true)
    (a_whole : PySem.W.nsIn K mainGlobals "is_whole" = some (some (.ref f_whole)))
    (l_whole : K.lookup f_whole = some ⟨oc_whole, od_whole, .func (PySem.W.fnOf "is_whole" "is_whole" (defArgs sis_whole) (defBody sis_whole) (defScope sis_whole) .none kV_whole dc_whole pm_whole an_whole cd_whole ct_whole), sl_whole⟩)
    (c_whole : PySem.W.codeIn K cd_whole "is_whole" = true)
    (k_whole : PySem.W.keepIn K (.ref f_whole) = true)
    (a_kindOf : PySem.W.nsIn K mainGlobals "kind_of" = some (some (.ref f_kindOf)))
    (l_kindOf : K.lookup f_kindOf = some ⟨oc_kindOf, od_kindOf, .func (PySem.W.fnOf "kind_of" "kind_of" (defArgs skind_of) (defBody skind_of) (defScope skind_of) .none kV_kindOf dc_kindOf pm_kindOf an_kindOf cd_kindOf ct_kindOf), sl_kindOf⟩)
    (c_kindOf : PySem.W.codeIn K cd_kindOf "kind_of" = true)
    (k_kindOf : PySem.W.keepIn K (.ref f_kindOf) = true)
    (a_shA : PySem.W.nsIn K mainGlobals "shown_alone" = some (some (.ref f_shA)))
    (l_shA : K.lookup f_shA = some ⟨oc_shA, od_shA, .func (PySem.W.fnOf "shown_alone" "shown_alone" (defArgs sshown_alone) (defBody sshown_alone) (defScope sshown_alone) .none kV_shA dc_shA pm_shA an_shA cd_shA ct_shA), sl_shA⟩)
    (c_shA : PySem.W.codeIn K cd_shA "shown_alone" = true)
    (k_shA : PySem.W.keepIn K (.ref f_shA) = true)
    (a_shown : PySem.W.nsIn K mainGlobals "shown" = some (some (.ref f_shown)))
    (l_shown : K.lookup f_shown = some ⟨oc_shown, od_shown, .func (PySem.W.fnOf "shown" "shown" (defArgs sshown) (defBody sshown) (defScope sshown) .none kV_shown dc_shown pm_shown an_shown cd_shown ct_shown), sl_shown⟩)
    (c_shown : PySem.W.codeIn K cd_shown "shown" = true)
    (k_shown : PySem.W.keepIn K (.ref f_shown) = true)
    (a_unch : PySem.W.nsIn K mainGlobals "unchained" = some (some (.ref f_unch)))
    (l_unch : K.lookup f_unch = some ⟨oc_unch, od_unch, .func (PySem.W.fnOf "unchained" "unchained" (defArgs sunchained) (defBody sunchained) (defScope sunchained) .none kV_unch dc_unch pm_unch an_unch cd_unch ct_unch), sl_unch⟩)
    (c_unch : PySem.W.codeIn K cd_unch "unchained" = true)
    (k_unch : PySem.W.keepIn K (.ref f_unch) = true)
    (a_whole2 : PySem.W.nsIn K mainGlobals "are_whole" = some (some (.ref f_whole2)))
    (l_whole2 : K.lookup f_whole2 = some ⟨oc_whole2, od_whole2, .func (PySem.W.fnOf "are_whole" "are_whole" (defArgs sare_whole) (defBody sare_whole) (defScope sare_whole) .none kV_whole2 dc_whole2 pm_whole2 an_whole2 cd_whole2 ct_whole2), sl_whole2⟩)
    (c_whole2 : PySem.W.codeIn K cd_whole2 "are_whole" = true)
    (k_whole2 : PySem.W.keepIn K (.ref f_whole2) = true)
    (a_bnum : PySem.W.nsIn K mainGlobals "bounded_number" = some (some (.ref f_bnum)))
    (l_bnum : K.lookup f_bnum = some ⟨oc_bnum, od_bnum, .func (PySem.W.fnOf "bounded_number" "bounded_number" (defArgs sbounded_number) (defBody sbounded_number) (defScope sbounded_number) .none kV_bnum dc_bnum pm_bnum an_bnum cd_bnum ct_bnum), sl_bnum⟩)
    (c_bnum : PySem.W.codeIn K cd_bnum "bounded_number" = true)
    (k_bnum : PySem.W.keepIn K (.ref f_bnum) = true)
    (a_btext : PySem.W.nsIn K mainGlobals "bounded_text" = some (some (.ref f_btext)))
    (l_btext : K.lookup f_btext = some ⟨oc_btext, od_btext, .func (PySem.W.fnOf "bounded_text" "bounded_text" (defArgs sbounded_text) (defBody sbounded_text) (defScope sbounded_text) .none kV_btext dc_btext pm_btext an_btext cd_btext ct_btext), sl_btext⟩)
    (c_btext : PySem.W.codeIn K cd_btext "bounded_text" = true)
    (k_btext : PySem.W.keepIn K (.ref f_btext) = true)
    (a_plus : PySem.W.nsIn K mainGlobals "plus_worth" = some (some (.ref f_plus)))
    (l_plus : K.lookup f_plus = some ⟨oc_plus, od_plus, .func (PySem.W.fnOf "plus_worth" "plus_worth" (defArgs splus_worth) (defBody splus_worth) (defScope splus_worth) .none kV_plus dc_plus pm_plus an_plus cd_plus ct_plus), sl_plus⟩)
    (c_plus : PySem.W.codeIn K cd_plus "plus_worth" = true)
    (k_plus : PySem.W.keepIn K (.ref f_plus) = true)
    (a_minus : PySem.W.nsIn K mainGlobals "minus_worth" = some (some (.ref f_minus)))
    (l_minus : K.lookup f_minus = some ⟨oc_minus, od_minus, .func (PySem.W.fnOf "minus_worth" "minus_worth" (defArgs sminus_worth) (defBody sminus_worth) (defScope sminus_worth) .none kV_minus dc_minus pm_minus an_minus cd_minus ct_minus), sl_minus⟩)
    (c_minus : PySem.W.codeIn K cd_minus "minus_worth" = true)
    (k_minus : PySem.W.keepIn K (.ref f_minus) = true)
    (a_times : PySem.W.nsIn K mainGlobals "times_worth" = some (some (.ref f_times)))
    (l_times : K.lookup f_times = some ⟨oc_times, od_times, .func (PySem.W.fnOf "times_worth" "times_worth" (defArgs stimes_worth) (defBody stimes_worth) (defScope stimes_worth) .none kV_times dc_times pm_times an_times cd_times ct_times), sl_times⟩)
    (c_times : PySem.W.codeIn K cd_times "times_worth" = true)
    (k_times : PySem.W.keepIn K (.ref f_times) = true)
    (a_less : PySem.W.nsIn K mainGlobals "less_worth" = some (some (.ref f_less)))
    (l_less : K.lookup f_less = some ⟨oc_less, od_less, .func (PySem.W.fnOf "less_worth" "less_worth" (defArgs sless_worth) (defBody sless_worth) (defScope sless_worth) .none kV_less dc_less pm_less an_less cd_less ct_less), sl_less⟩)
    (c_less : PySem.W.codeIn K cd_less "less_worth" = true)
    (k_less : PySem.W.keepIn K (.ref f_less) = true)
    (a_join : PySem.W.nsIn K mainGlobals "joined_worth" = some (some (.ref f_join)))
    (l_join : K.lookup f_join = some ⟨oc_join, od_join, .func (PySem.W.fnOf "joined_worth" "joined_worth" (defArgs sjoined_worth) (defBody sjoined_worth) (defScope sjoined_worth) .none kV_join dc_join pm_join an_join cd_join ct_join), sl_join⟩)
    (c_join : PySem.W.codeIn K cd_join "joined_worth" = true)
    (k_join : PySem.W.keepIn K (.ref f_join) = true)
    (a_first : PySem.W.nsIn K mainGlobals "first_worth" = some (some (.ref f_first)))
    (l_first : K.lookup f_first = some ⟨oc_first, od_first, .func (PySem.W.fnOf "first_worth" "first_worth" (defArgs sfirst_worth) (defBody sfirst_worth) (defScope sfirst_worth) .none kV_first dc_first pm_first an_first cd_first ct_first), sl_first⟩)
    (c_first : PySem.W.codeIn K cd_first "first_worth" = true)
    (k_first : PySem.W.keepIn K (.ref f_first) = true)
    (a_kindW : PySem.W.nsIn K mainGlobals "kind_worth" = some (some (.ref f_kindW)))
    (l_kindW : K.lookup f_kindW = some ⟨oc_kindW, od_kindW, .func (PySem.W.fnOf "kind_worth" "kind_worth" (defArgs skind_worth) (defBody skind_worth) (defScope skind_worth) .none kV_kindW dc_kindW pm_kindW an_kindW cd_kindW ct_kindW), sl_kindW⟩)
    (c_kindW : PySem.W.codeIn K cd_kindW "kind_worth" = true)
    (k_kindW : PySem.W.keepIn K (.ref f_kindW) = true)
    (a_opW : PySem.W.nsIn K mainGlobals "op_worth" = some (some (.ref f_opW)))
    (l_opW : K.lookup f_opW = some ⟨oc_opW, od_opW, .func (PySem.W.fnOf "op_worth" "op_worth" (defArgs sop_worth) (defBody sop_worth) (defScope sop_worth) .none kV_opW dc_opW pm_opW an_opW cd_opW ct_opW), sl_opW⟩)
    (c_opW : PySem.W.codeIn K cd_opW "op_worth" = true)
    (k_opW : PySem.W.keepIn K (.ref f_opW) = true)
    (a_partsOf : PySem.W.nsIn K mainGlobals "parts_of" = some (some (.ref f_partsOf)))
    (l_partsOf : K.lookup f_partsOf = some ⟨oc_partsOf, od_partsOf, .func (PySem.W.fnOf "parts_of" "parts_of" (defArgs sparts_of) (defBody sparts_of) (defScope sparts_of) .none kV_partsOf dc_partsOf pm_partsOf an_partsOf cd_partsOf ct_partsOf), sl_partsOf⟩)
    (c_partsOf : PySem.W.codeIn K cd_partsOf "parts_of" = true)
    (k_partsOf : PySem.W.keepIn K (.ref f_partsOf) = true)
    (a_placedP : PySem.W.nsIn K mainGlobals "placed_parts" = some (some (.ref f_placedP)))
    (l_placedP : K.lookup f_placedP = some ⟨oc_placedP, od_placedP, .func (PySem.W.fnOf "placed_parts" "placed_parts" (defArgs splaced_parts) (defBody splaced_parts) (defScope splaced_parts) .none kV_placedP dc_placedP pm_placedP an_placedP cd_placedP ct_placedP), sl_placedP⟩)
    (c_placedP : PySem.W.codeIn K cd_placedP "placed_parts" = true)
    (k_placedP : PySem.W.keepIn K (.ref f_placedP) = true)
    (a_waits : PySem.W.nsIn K mainGlobals "waits_for" = some (some (.ref f_waits)))
    (l_waits : K.lookup f_waits = some ⟨oc_waits, od_waits, .func (PySem.W.fnOf "waits_for" "waits_for" (defArgs swaits_for) (defBody swaits_for) (defScope swaits_for) .none kV_waits dc_waits pm_waits an_waits cd_waits ct_waits), sl_waits⟩)
    (c_waits : PySem.W.codeIn K cd_waits "waits_for" = true)
    (k_waits : PySem.W.keepIn K (.ref f_waits) = true)
    (a_allP : PySem.W.nsIn K mainGlobals "all_places" = some (some (.ref f_allP)))
    (l_allP : K.lookup f_allP = some ⟨oc_allP, od_allP, .func (PySem.W.fnOf "all_places" "all_places" (defArgs sall_places) (defBody sall_places) (defScope sall_places) .none kV_allP dc_allP pm_allP an_allP cd_allP ct_allP), sl_allP⟩)
    (c_allP : PySem.W.codeIn K cd_allP "all_places" = true)
    (k_allP : PySem.W.keepIn K (.ref f_allP) = true)
    (a_placed : PySem.W.nsIn K mainGlobals "placed" = some (some (.ref f_placed)))
    (l_placed : K.lookup f_placed = some ⟨oc_placed, od_placed, .func (PySem.W.fnOf "placed" "placed" (defArgs splaced) (defBody splaced) (defScope splaced) .none kV_placed dc_placed pm_placed an_placed cd_placed ct_placed), sl_placed⟩)
    (c_placed : PySem.W.codeIn K cd_placed "placed" = true)
    (k_placed : PySem.W.keepIn K (.ref f_placed) = true)
    (a_wo : PySem.W.nsIn K mainGlobals "work_out" = some (some (.ref f_wo)))
    (l_wo : K.lookup f_wo = some ⟨oc_wo, od_wo, .func (PySem.W.fnOf "work_out" "work_out" (defArgs swork_out) (defBody swork_out) (defScope swork_out) .none kV_wo dc_wo pm_wo an_wo cd_wo ct_wo), sl_wo⟩)
    (c_wo : PySem.W.codeIn K cd_wo "work_out" = true)
    (k_wo : PySem.W.keepIn K (.ref f_wo) = true)
    (a_ts : PySem.W.nsIn K mainGlobals "take_step" = some (some (.ref f_ts)))
    (l_ts : K.lookup f_ts = some ⟨oc_ts, od_ts, .func (PySem.W.fnOf "take_step" "take_step" (defArgs stake_step) (defBody stake_step) (defScope stake_step) .none kV_ts dc_ts pm_ts an_ts cd_ts ct_ts), sl_ts⟩)
    (c_ts : PySem.W.codeIn K cd_ts "take_step" = true)
    (k_ts : PySem.W.keepIn K (.ref f_ts) = true)
    (a_act : PySem.W.nsIn K mainGlobals "act" = some (some (.ref f_act)))
    (l_act : K.lookup f_act = some ⟨oc_act, od_act, .func (PySem.W.fnOf "act" "act" (defArgs sact) (defBody sact) (defScope sact) .none kV_act dc_act pm_act an_act cd_act ct_act), sl_act⟩)
    (c_act : PySem.W.codeIn K cd_act "act" = true)
    (k_act : PySem.W.keepIn K (.ref f_act) = true)
    (a_gb : PySem.W.nsIn K mainGlobals "go_back" = some (some (.ref f_gb)))
    (l_gb : K.lookup f_gb = some ⟨oc_gb, od_gb, .func (PySem.W.fnOf "go_back" "go_back" (defArgs sgo_back) (defBody sgo_back) (defScope sgo_back) .none kV_gb dc_gb pm_gb an_gb cd_gb ct_gb), sl_gb⟩)
    (c_gb : PySem.W.codeIn K cd_gb "go_back" = true)
    (k_gb : PySem.W.keepIn K (.ref f_gb) = true)
    (a_adv : PySem.W.nsIn K mainGlobals "advance" = some (some (.ref f_adv)))
    (l_adv : K.lookup f_adv = some ⟨oc_adv, od_adv, .func (PySem.W.fnOf "advance" "advance" (defArgs sadvance) (defBody sadvance) (defScope sadvance) .none kV_adv dc_adv pm_adv an_adv cd_adv ct_adv), sl_adv⟩)
    (c_adv : PySem.W.codeIn K cd_adv "advance" = true)
    (k_adv : PySem.W.keepIn K (.ref f_adv) = true)
    (a_ro : PySem.W.nsIn K mainGlobals "result_of" = some (some (.ref f_ro)))
    (l_ro : K.lookup f_ro = some ⟨oc_ro, od_ro, .func (PySem.W.fnOf "result_of" "result_of" (defArgs sresult_of) (defBody sresult_of) (defScope sresult_of) .none kV_ro dc_ro pm_ro an_ro cd_ro ct_ro), sl_ro⟩)
    (c_ro : PySem.W.codeIn K cd_ro "result_of" = true)
    (k_ro : PySem.W.keepIn K (.ref f_ro) = true)
    (a_lit : PySem.W.nsIn K mainGlobals "act_literal" = some (some (.ref f_lit)))
    (l_lit : K.lookup f_lit = some ⟨oc_lit, od_lit, .func (PySem.W.fnOf "act_literal" "act_literal" (defArgs sact_literal) (defBody sact_literal) (defScope sact_literal) .none kV_lit dc_lit pm_lit an_lit cd_lit ct_lit), sl_lit⟩)
    (c_lit : PySem.W.codeIn K cd_lit "act_literal" = true)
    (k_lit : PySem.W.keepIn K (.ref f_lit) = true)
    (a_yes : PySem.W.nsIn K mainGlobals "act_yes" = some (some (.ref f_yes)))
    (l_yes : K.lookup f_yes = some ⟨oc_yes, od_yes, .func (PySem.W.fnOf "act_yes" "act_yes" (defArgs sact_yes) (defBody sact_yes) (defScope sact_yes) .none kV_yes dc_yes pm_yes an_yes cd_yes ct_yes), sl_yes⟩)
    (c_yes : PySem.W.codeIn K cd_yes "act_yes" = true)
    (k_yes : PySem.W.keepIn K (.ref f_yes) = true)
    (a_no : PySem.W.nsIn K mainGlobals "act_no" = some (some (.ref f_no)))
    (l_no : K.lookup f_no = some ⟨oc_no, od_no, .func (PySem.W.fnOf "act_no" "act_no" (defArgs sact_no) (defBody sact_no) (defScope sact_no) .none kV_no dc_no pm_no an_no cd_no ct_no), sl_no⟩)
    (c_no : PySem.W.codeIn K cd_no "act_no" = true)
    (k_no : PySem.W.keepIn K (.ref f_no) = true)
    (a_none : PySem.W.nsIn K mainGlobals "act_none" = some (some (.ref f_none)))
    (l_none : K.lookup f_none = some ⟨oc_none, od_none, .func (PySem.W.fnOf "act_none" "act_none" (defArgs sact_none) (defBody sact_none) (defScope sact_none) .none kV_none dc_none pm_none an_none cd_none ct_none), sl_none⟩)
    (c_none : PySem.W.codeIn K cd_none "act_none" = true)
    (k_none : PySem.W.keepIn K (.ref f_none) = true)
    (a_name : PySem.W.nsIn K mainGlobals "act_name" = some (some (.ref f_name)))
    (l_name : K.lookup f_name = some ⟨oc_name, od_name, .func (PySem.W.fnOf "act_name" "act_name" (defArgs sact_name) (defBody sact_name) (defScope sact_name) .none kV_name dc_name pm_name an_name cd_name ct_name), sl_name⟩)
    (c_name : PySem.W.codeIn K cd_name "act_name" = true)
    (k_name : PySem.W.keepIn K (.ref f_name) = true)
    (a_funA : PySem.W.nsIn K mainGlobals "act_fun" = some (some (.ref f_funA)))
    (l_funA : K.lookup f_funA = some ⟨oc_funA, od_funA, .func (PySem.W.fnOf "act_fun" "act_fun" (defArgs sact_fun) (defBody sact_fun) (defScope sact_fun) .none kV_funA dc_funA pm_funA an_funA cd_funA ct_funA), sl_funA⟩)
    (c_funA : PySem.W.codeIn K cd_funA "act_fun" = true)
    (k_funA : PySem.W.keepIn K (.ref f_funA) = true)
    (a_names : PySem.W.nsIn K mainGlobals "names_of" = some (some (.ref f_names)))
    (l_names : K.lookup f_names = some ⟨oc_names, od_names, .func (PySem.W.fnOf "names_of" "names_of" (defArgs snames_of) (defBody snames_of) (defScope snames_of) .none kV_names dc_names pm_names an_names cd_names ct_names), sl_names⟩)
    (c_names : PySem.W.codeIn K cd_names "names_of" = true)
    (k_names : PySem.W.keepIn K (.ref f_names) = true)
    (a_cenv : PySem.W.nsIn K mainGlobals "called_env" = some (some (.ref f_cenv)))
    (l_cenv : K.lookup f_cenv = some ⟨oc_cenv, od_cenv, .func (PySem.W.fnOf "called_env" "called_env" (defArgs scalled_env) (defBody scalled_env) (defScope scalled_env) .none kV_cenv dc_cenv pm_cenv an_cenv cd_cenv ct_cenv), sl_cenv⟩)
    (c_cenv : PySem.W.codeIn K cd_cenv "called_env" = true)
    (k_cenv : PySem.W.keepIn K (.ref f_cenv) = true)
    (a_call : PySem.W.nsIn K mainGlobals "act_call" = some (some (.ref f_call)))
    (l_call : K.lookup f_call = some ⟨oc_call, od_call, .func (PySem.W.fnOf "act_call" "act_call" (defArgs sact_call) (defBody sact_call) (defScope sact_call) .none kV_call dc_call pm_call an_call cd_call ct_call), sl_call⟩)
    (c_call : PySem.W.codeIn K cd_call "act_call" = true)
    (k_call : PySem.W.keepIn K (.ref f_call) = true)
    (a_let : PySem.W.nsIn K mainGlobals "act_let" = some (some (.ref f_let)))
    (l_let : K.lookup f_let = some ⟨oc_let, od_let, .func (PySem.W.fnOf "act_let" "act_let" (defArgs sact_let) (defBody sact_let) (defScope sact_let) .none kV_let dc_let pm_let an_let cd_let ct_let), sl_let⟩)
    (c_let : PySem.W.codeIn K cd_let "act_let" = true)
    (k_let : PySem.W.keepIn K (.ref f_let) = true)
    (a_if : PySem.W.nsIn K mainGlobals "act_if" = some (some (.ref f_if)))
    (l_if : K.lookup f_if = some ⟨oc_if, od_if, .func (PySem.W.fnOf "act_if" "act_if" (defArgs sact_if) (defBody sact_if) (defScope sact_if) .none kV_if dc_if pm_if an_if cd_if ct_if), sl_if⟩)
    (c_if : PySem.W.codeIn K cd_if "act_if" = true)
    (k_if : PySem.W.keepIn K (.ref f_if) = true)
    (a_op : PySem.W.nsIn K mainGlobals "act_op" = some (some (.ref f_op)))
    (l_op : K.lookup f_op = some ⟨oc_op, od_op, .func (PySem.W.fnOf "act_op" "act_op" (defArgs sact_op) (defBody sact_op) (defScope sact_op) .none kV_op dc_op pm_op an_op cd_op ct_op), sl_op⟩)
    (c_op : PySem.W.codeIn K cd_op "act_op" = true)
    (k_op : PySem.W.keepIn K (.ref f_op) = true)
    (a_cellA : PySem.W.nsIn K mainGlobals "act_cell" = some (some (.ref f_cellA)))
    (l_cellA : K.lookup f_cellA = some ⟨oc_cellA, od_cellA, .func (PySem.W.fnOf "act_cell" "act_cell" (defArgs sact_cell) (defBody sact_cell) (defScope sact_cell) .none kV_cellA dc_cellA pm_cellA an_cellA cd_cellA ct_cellA), sl_cellA⟩)
    (c_cellA : PySem.W.codeIn K cd_cellA "act_cell" = true)
    (k_cellA : PySem.W.keepIn K (.ref f_cellA) = true)
    (a_get : PySem.W.nsIn K mainGlobals "act_get" = some (some (.ref f_get)))
    (l_get : K.lookup f_get = some ⟨oc_get, od_get, .func (PySem.W.fnOf "act_get" "act_get" (defArgs sact_get) (defBody sact_get) (defScope sact_get) .none kV_get dc_get pm_get an_get cd_get ct_get), sl_get⟩)
    (c_get : PySem.W.codeIn K cd_get "act_get" = true)
    (k_get : PySem.W.keepIn K (.ref f_get) = true)
    (a_set : PySem.W.nsIn K mainGlobals "act_set" = some (some (.ref f_set)))
    (l_set : K.lookup f_set = some ⟨oc_set, od_set, .func (PySem.W.fnOf "act_set" "act_set" (defArgs sact_set) (defBody sact_set) (defScope sact_set) .none kV_set dc_set pm_set an_set cd_set ct_set), sl_set⟩)
    (c_set : PySem.W.codeIn K cd_set "act_set" = true)
    (k_set : PySem.W.keepIn K (.ref f_set) = true)
    (a_say : PySem.W.nsIn K mainGlobals "act_say" = some (some (.ref f_say)))
    (l_say : K.lookup f_say = some ⟨oc_say, od_say, .func (PySem.W.fnOf "act_say" "act_say" (defArgs sact_say) (defBody sact_say) (defScope sact_say) .none kV_say dc_say pm_say an_say cd_say ct_say), sl_say⟩)
    (c_say : PySem.W.codeIn K cd_say "act_say" = true)
    (k_say : PySem.W.keepIn K (.ref f_say) = true)
    (a_pairT : PySem.W.nsIn K mainGlobals "pair_told" = some (some (.ref f_pairT)))
    (l_pairT : K.lookup f_pairT = some ⟨oc_pairT, od_pairT, .func (PySem.W.fnOf "pair_told" "pair_told" (defArgs spair_told) (defBody spair_told) (defScope spair_told) .none kV_pairT dc_pairT pm_pairT an_pairT cd_pairT ct_pairT), sl_pairT⟩)
    (c_pairT : PySem.W.codeIn K cd_pairT "pair_told" = true)
    (k_pairT : PySem.W.keepIn K (.ref f_pairT) = true)
    (a_tried : PySem.W.nsIn K mainGlobals "tried_told" = some (some (.ref f_tried)))
    (l_tried : K.lookup f_tried = some ⟨oc_tried, od_tried, .func (PySem.W.fnOf "tried_told" "tried_told" (defArgs stried_told) (defBody stried_told) (defScope stried_told) .none kV_tried dc_tried pm_tried an_tried cd_tried ct_tried), sl_tried⟩)
    (c_tried : PySem.W.codeIn K cd_tried "tried_told" = true)
    (k_tried : PySem.W.keepIn K (.ref f_tried) = true)
    (a_wound : PySem.W.nsIn K mainGlobals "wound_told" = some (some (.ref f_wound)))
    (l_wound : K.lookup f_wound = some ⟨oc_wound, od_wound, .func (PySem.W.fnOf "wound_told" "wound_told" (defArgs swound_told) (defBody swound_told) (defScope swound_told) .none kV_wound dc_wound pm_wound an_wound cd_wound ct_wound), sl_wound⟩)
    (c_wound : PySem.W.codeIn K cd_wound "wound_told" = true)
    (k_wound : PySem.W.keepIn K (.ref f_wound) = true)
    (a_pointT : PySem.W.nsIn K mainGlobals "point_told" = some (some (.ref f_pointT)))
    (l_pointT : K.lookup f_pointT = some ⟨oc_pointT, od_pointT, .func (PySem.W.fnOf "point_told" "point_told" (defArgs spoint_told) (defBody spoint_told) (defScope spoint_told) .none kV_pointT dc_pointT pm_pointT an_pointT cd_pointT ct_pointT), sl_pointT⟩)
    (c_pointT : PySem.W.codeIn K cd_pointT "point_told" = true)
    (k_pointT : PySem.W.keepIn K (.ref f_pointT) = true)
    (a_partT : PySem.W.nsIn K mainGlobals "part_told" = some (some (.ref f_partT)))
    (l_partT : K.lookup f_partT = some ⟨oc_partT, od_partT, .func (PySem.W.fnOf "part_told" "part_told" (defArgs spart_told) (defBody spart_told) (defScope spart_told) .none kV_partT dc_partT pm_partT an_partT cd_partT ct_partT), sl_partT⟩)
    (c_partT : PySem.W.codeIn K cd_partT "part_told" = true)
    (k_partT : PySem.W.keepIn K (.ref f_partT) = true)
    (a_inside : PySem.W.nsIn K mainGlobals "inside_told" = some (some (.ref f_inside)))
    (l_inside : K.lookup f_inside = some ⟨oc_inside, od_inside, .func (PySem.W.fnOf "inside_told" "inside_told" (defArgs sinside_told) (defBody sinside_told) (defScope sinside_told) .none kV_inside dc_inside pm_inside an_inside cd_inside ct_inside), sl_inside⟩)
    (c_inside : PySem.W.codeIn K cd_inside "inside_told" = true)
    (k_inside : PySem.W.keepIn K (.ref f_inside) = true)
    (a_ie : PySem.W.nsIn K mainGlobals "is_end" = some (some (.ref f_ie)))
    (l_ie : K.lookup f_ie = some ⟨oc_ie, od_ie, .func (PySem.W.fnOf "is_end" "is_end" (defArgs sis_end) (defBody sis_end) (defScope sis_end) .none kV_ie dc_ie pm_ie an_ie cd_ie ct_ie), sl_ie⟩)
    (c_ie : PySem.W.codeIn K cd_ie "is_end" = true)
    (k_ie : PySem.W.keepIn K (.ref f_ie) = true)
    (z_len : PySem.W.nsIn K mainGlobals "len" = some none)
    (z_range : PySem.W.nsIn K mainGlobals "range" = some none)
    (z_list : PySem.W.nsIn K mainGlobals "list" = some none)
    (z_isinstance : PySem.W.nsIn K mainGlobals "isinstance" = some none)
    (z_enumerate : PySem.W.nsIn K mainGlobals "enumerate" = some none)
    (z_zip : PySem.W.nsIn K mainGlobals "zip" = some none)
    (z_str : PySem.W.nsIn K mainGlobals "str" = some none)
    (z_int : PySem.W.nsIn K mainGlobals "int" = some none)
    (z_bool : PySem.W.nsIn K mainGlobals "bool" = some none)
    (z_abs : PySem.W.nsIn K mainGlobals "abs" = some none)
    (z_max : PySem.W.nsIn K mainGlobals "max" = some none)
    (z_dict : PySem.W.nsIn K mainGlobals "dict" = some none)
    (z_RuntimeError : PySem.W.nsIn K mainGlobals "RuntimeError" = some none)
    (a_TOO_GREAT : PySem.W.nsIn K mainGlobals "TOO_GREAT" = some (some (.int 1000000000000000000000000000000000000000000000000000000000000 u_TOO_GREAT)))
    (a_TURNED_MOST : PySem.W.nsIn K mainGlobals "TURNED_MOST" = some (some (.int 200000 u_TURNED_MOST)))
    (a_FORMS : PySem.W.nsIn K mainGlobals "FORMS" = some (some (.ref fo)))
    (l_FORMS : K.lookup fo = some ⟨.type "dict", none, .dict esF nF, #[]⟩)
    (klF : PySem.W.KeysLit w.params esF.toList)
    (loF : (fo == sysModules) = false)
    (a_OPS : PySem.W.nsIn K mainGlobals "OPS" = some (some (.ref oo)))
    (l_OPS : K.lookup oo = some ⟨.type "dict", none, .dict esO nO, #[]⟩)
    (klO : PySem.W.KeysLit w.params esO.toList)
    (loO : (oo == sysModules) = false)
    (a_ACTIONS_worths : PySem.W.nsIn K mainGlobals "ACTIONS_worths" = some (some (.ref aw)))
    (l_ACTIONS_worths : K.lookup aw = some ⟨.type "dict", none, .dict esW nW, #[]⟩)
    (klW : PySem.W.KeysLit w.params esW.toList)
    (loW : (aw == sysModules) = false)
    (a_ACTIONS_machine : PySem.W.nsIn K mainGlobals "ACTIONS_machine" = some (some (.ref am)))
    (l_ACTIONS_machine : K.lookup am = some ⟨.type "dict", none, .dict esM nM, #[]⟩)
    (klM : PySem.W.KeysLit w.params esM.toList)
    (loM : (am == sysModules) = false)
    (a_LESSER_ACTIONS : PySem.W.nsIn K mainGlobals "LESSER_ACTIONS" = some (some (.ref al)))
    (l_LESSER_ACTIONS : K.lookup al = some ⟨.type "dict", none, .dict esL nL, #[]⟩)
    (klL : PySem.W.KeysLit w.params esL.toList)
    (loL : (al == sysModules) = false)
    (e0 : PySem.W.nsIn K fo "num" = some (some (.ref t0)))
    (g0 : K.lookup t0 = some o0)
    (v0 : tupS o0 = some (["number"] : List Str))
    (e1 : PySem.W.nsIn K fo "text" = some (some (.ref t1)))
    (g1 : K.lookup t1 = some o1)
    (v1 : tupS o1 = some (["text"] : List Str))
    (e2 : PySem.W.nsIn K fo "yes" = some (some (.ref t2)))
    (g2 : K.lookup t2 = some o2)
    (v2 : tupS o2 = some ([] : List Str))
    (e3 : PySem.W.nsIn K fo "no" = some (some (.ref t3)))
    (g3 : K.lookup t3 = some o3)
    (v3 : tupS o3 = some ([] : List Str))
    (e4 : PySem.W.nsIn K fo "none" = some (some (.ref t4)))
    (g4 : K.lookup t4 = some o4)
    (v4 : tupS o4 = some ([] : List Str))
    (e5 : PySem.W.nsIn K fo "name" = some (some (.ref t5)))
    (g5 : K.lookup t5 = some o5)
    (v5 : tupS o5 = some (["name"] : List Str))
    (e6 : PySem.W.nsIn K fo "fun" = some (some (.ref t6)))
    (g6 : K.lookup t6 = some o6)
    (v6 : tupS o6 = some (["binders", "part"] : List Str))
    (e7 : PySem.W.nsIn K fo "rec" = some (some (.ref t7)))
    (g7 : K.lookup t7 = some o7)
    (v7 : tupS o7 = some (["binder", "binders", "part"] : List Str))
    (e8 : PySem.W.nsIn K fo "call" = some (some (.ref t8)))
    (g8 : K.lookup t8 = some o8)
    (v8 : tupS o8 = some (["part", "handed parts"] : List Str))
    (e9 : PySem.W.nsIn K fo "let" = some (some (.ref t9)))
    (g9 : K.lookup t9 = some o9)
    (v9 : tupS o9 = some (["binder", "part", "part"] : List Str))
    (e10 : PySem.W.nsIn K fo "if" = some (some (.ref t10)))
    (g10 : K.lookup t10 = some o10)
    (v10 : tupS o10 = some (["part", "part", "part"] : List Str))
    (e11 : PySem.W.nsIn K fo "do" = some (some (.ref t11)))
    (g11 : K.lookup t11 = some o11)
    (v11 : tupS o11 = some (["row parts"] : List Str))
    (e12 : PySem.W.nsIn K fo "op" = some (some (.ref t12)))
    (g12 : K.lookup t12 = some o12)
    (v12 : tupS o12 = some (["word", "op parts"] : List Str))
    (e13 : PySem.W.nsIn K fo "cell" = some (some (.ref t13)))
    (g13 : K.lookup t13 = some o13)
    (v13 : tupS o13 = some (["part"] : List Str))
    (e14 : PySem.W.nsIn K fo "get" = some (some (.ref t14)))
    (g14 : K.lookup t14 = some o14)
    (v14 : tupS o14 = some (["part"] : List Str))
    (e15 : PySem.W.nsIn K fo "set" = some (some (.ref t15)))
    (g15 : K.lookup t15 = some o15)
    (v15 : tupS o15 = some (["part", "part"] : List Str))
    (e16 : PySem.W.nsIn K fo "say" = some (some (.ref t16)))
    (g16 : K.lookup t16 = some o16)
    (v16 : tupS o16 = some (["part"] : List Str))
    (e17 : PySem.W.nsIn K fo "fault" = some (some (.ref t17)))
    (g17 : K.lookup t17 = some o17)
    (v17 : tupS o17 = some (["part"] : List Str))
    (e18 : PySem.W.nsIn K fo "guard" = some (some (.ref t18)))
    (g18 : K.lookup t18 = some o18)
    (v18 : tupS o18 = some (["part", "binder", "part"] : List Str))
    (e19 : PySem.W.nsIn K fo "wind" = some (some (.ref t19)))
    (g19 : K.lookup t19 = some o19)
    (v19 : tupS o19 = some (["part", "part", "part"] : List Str))
    (e20 : PySem.W.nsIn K fo "catch" = some (some (.ref t20)))
    (g20 : K.lookup t20 = some o20)
    (v20 : tupS o20 = some (["binder", "part"] : List Str))
    (e21 : PySem.W.nsIn K fo "go" = some (some (.ref t21)))
    (g21 : K.lookup t21 = some o21)
    (v21 : tupS o21 = some (["part", "part"] : List Str))
    (e22 : PySem.W.nsIn K fo "mark" = some (some (.ref t22)))
    (g22 : K.lookup t22 = some o22)
    (v22 : tupS o22 = some (["tag", "part"] : List Str))
    (e23 : PySem.W.nsIn K fo "take" = some (some (.ref t23)))
    (g23 : K.lookup t23 = some o23)
    (v23 : tupS o23 = some (["tag", "binder", "part"] : List Str))
    (e24 : PySem.W.nsIn K fo "use" = some (some (.ref t24)))
    (g24 : K.lookup t24 = some o24)
    (v24 : tupS o24 = some (["part", "part"] : List Str))
    (eo_plus : PySem.W.nsIn K oo "plus" = some (some (.int 2 uo_plus)))
    (eo_minus : PySem.W.nsIn K oo "minus" = some (some (.int 2 uo_minus)))
    (eo_times : PySem.W.nsIn K oo "times" = some (some (.int 2 uo_times)))
    (eo_joined : PySem.W.nsIn K oo "joined" = some (some (.int 2 uo_joined)))
    (ew_plus : PySem.W.nsIn K aw "plus" = some (some (.ref f_plus)))
    (ew_minus : PySem.W.nsIn K aw "minus" = some (some (.ref f_minus)))
    (ew_times : PySem.W.nsIn K aw "times" = some (some (.ref f_times)))
    (ew_less : PySem.W.nsIn K aw "less" = some (some (.ref f_less)))
    (ew_joined : PySem.W.nsIn K aw "joined" = some (some (.ref f_join)))
    (ew_first : PySem.W.nsIn K aw "first" = some (some (.ref f_first)))
    (ew_kind : PySem.W.nsIn K aw "kind" = some (some (.ref f_kindW)))
    (em_num : PySem.W.nsIn K am "num" = some (some (.ref f_lit)))
    (em_text : PySem.W.nsIn K am "text" = some (some (.ref f_lit)))
    (em_yes : PySem.W.nsIn K am "yes" = some (some (.ref f_yes)))
    (em_no : PySem.W.nsIn K am "no" = some (some (.ref f_no)))
    (em_none : PySem.W.nsIn K am "none" = some (some (.ref f_none)))
    (em_name : PySem.W.nsIn K am "name" = some (some (.ref f_name)))
    (em_fun : PySem.W.nsIn K am "fun" = some (some (.ref f_funA)))
    (em_rec : PySem.W.nsIn K am "rec" = some (some (.ref f_funA)))
    (em_call : PySem.W.nsIn K am "call" = some (some (.ref f_call)))
    (em_let : PySem.W.nsIn K am "let" = some (some (.ref f_let)))
    (em_if : PySem.W.nsIn K am "if" = some (some (.ref f_if)))
    (em_op : PySem.W.nsIn K am "op" = some (some (.ref f_op)))
    (em_cell : PySem.W.nsIn K am "cell" = some (some (.ref f_cellA)))
    (em_get : PySem.W.nsIn K am "get" = some (some (.ref f_get)))
    (em_set : PySem.W.nsIn K am "set" = some (some (.ref f_set)))
    (em_say : PySem.W.nsIn K am "say" = some (some (.ref f_say)))
    (el_pair : PySem.W.nsIn K al "pair" = some (some (.ref f_pairT)))
    (el_tried : PySem.W.nsIn K al "tried" = some (some (.ref f_tried)))
    (el_wound : PySem.W.nsIn K al "wound" = some (some (.ref f_wound)))
    (el_point : PySem.W.nsIn K al "point" = some (some (.ref f_pointT)))
    (el_part : PySem.W.nsIn K al "part" = some (some (.ref f_partT)))
    (el_inside : PySem.W.nsIn K al "inside" = some (some (.ref f_inside)))
    (nl_plus : PySem.W.nsIn K al "plus" = some none)
    (nl_minus : PySem.W.nsIn K al "minus" = some none)
    (nl_times : PySem.W.nsIn K al "times" = some none)
    (nl_less : PySem.W.nsIn K al "less" = some none)
    (nl_joined : PySem.W.nsIn K al "joined" = some none)
    (nl_first : PySem.W.nsIn K al "first" = some none)
    (nl_kind : PySem.W.nsIn K al "kind" = some none)
    (a_WAITS_FOR_FIRST : PySem.W.nsIn K mainGlobals "WAITS_FOR_FIRST" = some (some (.ref wf)))
    (g_WAITS_FOR_FIRST : K.lookup wf = some owf)
    (v_WAITS_FOR_FIRST : tupS owf = some (["let", "if", "guard", "wind"] : List Str))
    (a_WAITS_FOR_NONE : PySem.W.nsIn K mainGlobals "WAITS_FOR_NONE" = some (some (.ref wn)))
    (g_WAITS_FOR_NONE : K.lookup wn = some own)
    (v_WAITS_FOR_NONE : tupS own = some (["fun", "rec", "catch", "mark", "take"] : List Str))
    (c2g : PySem.W.specialIn K (.builtin "object.__class__") "__get__" = some (some (.builtin "getset_descriptor.__get__")))
    (c3g : PySem.W.takesIn K (.builtin "object.__class__") = some true)
    (a_Place : PySem.W.nsIn K mainGlobals "Place" = some (some (.ref cpl)))
    (pgcpl : PySem.W.plainGet K cpl Str.empty = true)
    (hdcpl : PySem.W.hasDictIn K cpl = true)
    (pocpl : PySem.W.plainOver K cpl = true)
    (sacpl : PySem.W.findIn K (.ref cpl) "__setattr__" = some (some (.builtin "object.__setattr__")))
    (nocpl_path : PySem.W.findIn K (.ref cpl) "path" = some none)
    (nocpl_term : PySem.W.findIn K (.ref cpl) "term" = some none)
    (nocpl_word : PySem.W.findIn K (.ref cpl) "word" = some none)
    (nocpl_parts : PySem.W.findIn K (.ref cpl) "parts" = some none)
    (nocpl_waits : PySem.W.findIn K (.ref cpl) "waits" = some none)
    (mkcpl : PySem.W.makesIn K cpl = true)
    (kpcpl : PySem.W.keepIn K (.ref cpl) = true)
    (a_Pair : PySem.W.nsIn K mainGlobals "Pair" = some (some (.ref cpa)))
    (pgcpa : PySem.W.plainGet K cpa Str.empty = true)
    (hdcpa : PySem.W.hasDictIn K cpa = true)
    (pocpa : PySem.W.plainOver K cpa = true)
    (sacpa : PySem.W.findIn K (.ref cpa) "__setattr__" = some (some (.builtin "object.__setattr__")))
    (nocpa_first : PySem.W.findIn K (.ref cpa) "first" = some none)
    (nocpa_rest : PySem.W.findIn K (.ref cpa) "rest" = some none)
    (mkcpa : PySem.W.makesIn K cpa = true)
    (kpcpa : PySem.W.keepIn K (.ref cpa) = true)
    (a_Fun : PySem.W.nsIn K mainGlobals "Fun" = some (some (.ref cfu)))
    (pgcfu : PySem.W.plainGet K cfu Str.empty = true)
    (hdcfu : PySem.W.hasDictIn K cfu = true)
    (pocfu : PySem.W.plainOver K cfu = true)
    (sacfu : PySem.W.findIn K (.ref cfu) "__setattr__" = some (some (.builtin "object.__setattr__")))
    (nocfu_place : PySem.W.findIn K (.ref cfu) "place" = some none)
    (nocfu_env : PySem.W.findIn K (.ref cfu) "env" = some none)
    (mkcfu : PySem.W.makesIn K cfu = true)
    (kpcfu : PySem.W.keepIn K (.ref cfu) = true)
    (a_Cell : PySem.W.nsIn K mainGlobals "Cell" = some (some (.ref cce)))
    (pgcce : PySem.W.plainGet K cce Str.empty = true)
    (hdcce : PySem.W.hasDictIn K cce = true)
    (pocce : PySem.W.plainOver K cce = true)
    (sacce : PySem.W.findIn K (.ref cce) "__setattr__" = some (some (.builtin "object.__setattr__")))
    (nocce_held : PySem.W.findIn K (.ref cce) "held" = some none)
    (mkcce : PySem.W.makesIn K cce = true)
    (kpcce : PySem.W.keepIn K (.ref cce) = true)
    (a_Point : PySem.W.nsIn K mainGlobals "Point" = some (some (.ref cpo)))
    (pgcpo : PySem.W.plainGet K cpo Str.empty = true)
    (hdcpo : PySem.W.hasDictIn K cpo = true)
    (pocpo : PySem.W.plainOver K cpo = true)
    (sacpo : PySem.W.findIn K (.ref cpo) "__setattr__" = some (some (.builtin "object.__setattr__")))
    (nocpo_held : PySem.W.findIn K (.ref cpo) "held" = some none)
    (mkcpo : PySem.W.makesIn K cpo = true)
    (kpcpo : PySem.W.keepIn K (.ref cpo) = true)
    (a_Part : PySem.W.nsIn K mainGlobals "Part" = some (some (.ref cpt)))
    (pgcpt : PySem.W.plainGet K cpt Str.empty = true)
    (hdcpt : PySem.W.hasDictIn K cpt = true)
    (pocpt : PySem.W.plainOver K cpt = true)
    (sacpt : PySem.W.findIn K (.ref cpt) "__setattr__" = some (some (.builtin "object.__setattr__")))
    (nocpt_held : PySem.W.findIn K (.ref cpt) "held" = some none)
    (mkcpt : PySem.W.makesIn K cpt = true)
    (kpcpt : PySem.W.keepIn K (.ref cpt) = true)
    (a_Node : PySem.W.nsIn K mainGlobals "Node" = some (some (.ref cno)))
    (pgcno : PySem.W.plainGet K cno Str.empty = true)
    (hdcno : PySem.W.hasDictIn K cno = true)
    (pocno : PySem.W.plainOver K cno = true)
    (sacno : PySem.W.findIn K (.ref cno) "__setattr__" = some (some (.builtin "object.__setattr__")))
    (nocno_frame : PySem.W.findIn K (.ref cno) "frame" = some none)
    (nocno_outer : PySem.W.findIn K (.ref cno) "outer" = some none)
    (nocno_height : PySem.W.findIn K (.ref cno) "height" = some none)
    (nocno_wind : PySem.W.findIn K (.ref cno) "wind" = some none)
    (mkcno : PySem.W.makesIn K cno = true)
    (kpcno : PySem.W.keepIn K (.ref cno) = true)
    (a_HeapFrames : PySem.W.nsIn K mainGlobals "HeapFrames" = some (some (.ref cfr)))
    (pgcfr : PySem.W.plainGet K cfr Str.empty = true)
    (hdcfr : PySem.W.hasDictIn K cfr = true)
    (pocfr : PySem.W.plainOver K cfr = true)
    (sacfr : PySem.W.findIn K (.ref cfr) "__setattr__" = some (some (.builtin "object.__setattr__")))
    (nocfr_top : PySem.W.findIn K (.ref cfr) "top" = some none)
    (mkcfr : PySem.W.makesIn K cfr = true)
    (kpcfr : PySem.W.keepIn K (.ref cfr) = true)
    (a_LesserMachine : PySem.W.nsIn K mainGlobals "LesserMachine" = some (some (.ref cma)))
    (pgcma : PySem.W.plainGet K cma Str.empty = true)
    (hdcma : PySem.W.hasDictIn K cma = true)
    (pocma : PySem.W.plainOver K cma = true)
    (sacma : PySem.W.findIn K (.ref cma) "__setattr__" = some (some (.builtin "object.__setattr__")))
    (nocma_frames : PySem.W.findIn K (.ref cma) "frames" = some none)
    (nocma_stage : PySem.W.findIn K (.ref cma) "stage" = some none)
    (nocma_place : PySem.W.findIn K (.ref cma) "place" = some none)
    (nocma_env : PySem.W.findIn K (.ref cma) "env" = some none)
    (nocma_kind : PySem.W.findIn K (.ref cma) "kind" = some none)
    (nocma_worth : PySem.W.findIn K (.ref cma) "worth" = some none)
    (nocma_output : PySem.W.findIn K (.ref cma) "output" = some none)
    (nocma_winds : PySem.W.findIn K (.ref cma) "winds" = some none)
    (nocma_steps : PySem.W.findIn K (.ref cma) "steps" = some none)
    (nocma_height : PySem.W.findIn K (.ref cma) "height" = some none)
    (mkcma : PySem.W.makesIn K cma = true)
    (kpcma : PySem.W.keepIn K (.ref cma) = true)
    (a_Result : PySem.W.nsIn K mainGlobals "Result" = some (some (.ref cre)))
    (pgcre : PySem.W.plainGet K cre Str.empty = true)
    (hdcre : PySem.W.hasDictIn K cre = true)
    (pocre : PySem.W.plainOver K cre = true)
    (sacre : PySem.W.findIn K (.ref cre) "__setattr__" = some (some (.builtin "object.__setattr__")))
    (nocre_kind : PySem.W.findIn K (.ref cre) "kind" = some none)
    (nocre_worth : PySem.W.findIn K (.ref cre) "worth" = some none)
    (nocre_output : PySem.W.findIn K (.ref cre) "output" = some none)
    (nocre_winds : PySem.W.findIn K (.ref cre) "winds" = some none)
    (nocre_steps : PySem.W.findIn K (.ref cre) "steps" = some none)
    (nocre_height : PySem.W.findIn K (.ref cre) "height" = some none)
    (mkcre : PySem.W.makesIn K cre = true)
    (kpcre : PySem.W.keepIn K (.ref cre) = true)
    (c1cpa : PySem.W.findIn K (.ref cpa) "__class__" = some (some (.builtin "object.__class__")))
    (gcpa : K.lookup cpa = some ocpa)
    (vcpa : mroO ocpa = some [.ref cpa, .type "object"])
    (tycpa : PySem.W.typeIn K (.ref cpa) = some (.type "type"))
    (c1cfu : PySem.W.findIn K (.ref cfu) "__class__" = some (some (.builtin "object.__class__")))
    (gcfu : K.lookup cfu = some ocfu)
    (vcfu : mroO ocfu = some [.ref cfu, .type "object"])
    (tycfu : PySem.W.typeIn K (.ref cfu) = some (.type "type"))
    (c1cce : PySem.W.findIn K (.ref cce) "__class__" = some (some (.builtin "object.__class__")))
    (gcce : K.lookup cce = some occe)
    (vcce : mroO occe = some [.ref cce, .type "object"])
    (tycce : PySem.W.typeIn K (.ref cce) = some (.type "type"))
    (c1cpo : PySem.W.findIn K (.ref cpo) "__class__" = some (some (.builtin "object.__class__")))
    (gcpo : K.lookup cpo = some ocpo)
    (vcpo : mroO ocpo = some [.ref cpo, .type "object"])
    (tycpo : PySem.W.typeIn K (.ref cpo) = some (.type "type"))
    (c1cpt : PySem.W.findIn K (.ref cpt) "__class__" = some (some (.builtin "object.__class__")))
    (gcpt : K.lookup cpt = some ocpt)
    (vcpt : mroO ocpt = some [.ref cpt, .type "object"])
    (tycpt : PySem.W.typeIn K (.ref cpt) = some (.type "type"))
    (nd : [cpl, cpa, cfu, cce, cpo, cpt, cno, cfr, cma].Nodup)
    (a_Mpinit : PySem.W.findIn K (.ref cpl) "__init__" = some (some (.ref f_Mpinit)))
    (fn_Mpinit : PySem.W.isFn K (.ref f_Mpinit) = true)
    (l_Mpinit : K.lookup f_Mpinit = some ⟨oc_Mpinit, od_Mpinit, .func (PySem.W.fnOf "__init__" "Place.__init__" (defArgs sPlace___init__) (defBody sPlace___init__) (defScope sPlace___init__) .none kV_Mpinit dc_Mpinit pm_Mpinit an_Mpinit cd_Mpinit ct_Mpinit), sl_Mpinit⟩)
    (c_Mpinit : PySem.W.codeIn K cd_Mpinit "Place.__init__" = true)
    (k_Mpinit : PySem.W.keepIn K (.ref f_Mpinit) = true)
    (a_Mpainit : PySem.W.findIn K (.ref cpa) "__init__" = some (some (.ref f_Mpainit)))
    (fn_Mpainit : PySem.W.isFn K (.ref f_Mpainit) = true)
    (l_Mpainit : K.lookup f_Mpainit = some ⟨oc_Mpainit, od_Mpainit, .func (PySem.W.fnOf "__init__" "Pair.__init__" (defArgs sPair___init__) (defBody sPair___init__) (defScope sPair___init__) .none kV_Mpainit dc_Mpainit pm_Mpainit an_Mpainit cd_Mpainit ct_Mpainit), sl_Mpainit⟩)
    (c_Mpainit : PySem.W.codeIn K cd_Mpainit "Pair.__init__" = true)
    (k_Mpainit : PySem.W.keepIn K (.ref f_Mpainit) = true)
    (a_Mninit : PySem.W.findIn K (.ref cno) "__init__" = some (some (.ref f_Mninit)))
    (fn_Mninit : PySem.W.isFn K (.ref f_Mninit) = true)
    (l_Mninit : K.lookup f_Mninit = some ⟨oc_Mninit, od_Mninit, .func (PySem.W.fnOf "__init__" "Node.__init__" (defArgs sNode___init__) (defBody sNode___init__) (defScope sNode___init__) .none kV_Mninit dc_Mninit pm_Mninit an_Mninit cd_Mninit ct_Mninit), sl_Mninit⟩)
    (c_Mninit : PySem.W.codeIn K cd_Mninit "Node.__init__" = true)
    (k_Mninit : PySem.W.keepIn K (.ref f_Mninit) = true)
    (a_Mfinit : PySem.W.findIn K (.ref cfr) "__init__" = some (some (.ref f_Mfinit)))
    (fn_Mfinit : PySem.W.isFn K (.ref f_Mfinit) = true)
    (l_Mfinit : K.lookup f_Mfinit = some ⟨oc_Mfinit, od_Mfinit, .func (PySem.W.fnOf "__init__" "HeapFrames.__init__" (defArgs sHeapFrames___init__) (defBody sHeapFrames___init__) (defScope sHeapFrames___init__) .none kV_Mfinit dc_Mfinit pm_Mfinit an_Mfinit cd_Mfinit ct_Mfinit), sl_Mfinit⟩)
    (c_Mfinit : PySem.W.codeIn K cd_Mfinit "HeapFrames.__init__" = true)
    (k_Mfinit : PySem.W.keepIn K (.ref f_Mfinit) = true)
    (a_Mminit : PySem.W.findIn K (.ref cma) "__init__" = some (some (.ref f_Mminit)))
    (fn_Mminit : PySem.W.isFn K (.ref f_Mminit) = true)
    (l_Mminit : K.lookup f_Mminit = some ⟨oc_Mminit, od_Mminit, .func (PySem.W.fnOf "__init__" "Machine.__init__" (defArgs sMachine___init__) (defBody sMachine___init__) (defScope sMachine___init__) .none kV_Mminit dc_Mminit pm_Mminit an_Mminit cd_Mminit ct_Mminit), sl_Mminit⟩)
    (c_Mminit : PySem.W.codeIn K cd_Mminit "Machine.__init__" = true)
    (k_Mminit : PySem.W.keepIn K (.ref f_Mminit) = true)
    (a_Mrinit : PySem.W.findIn K (.ref cre) "__init__" = some (some (.ref f_Mrinit)))
    (fn_Mrinit : PySem.W.isFn K (.ref f_Mrinit) = true)
    (l_Mrinit : K.lookup f_Mrinit = some ⟨oc_Mrinit, od_Mrinit, .func (PySem.W.fnOf "__init__" "Result.__init__" (defArgs sResult___init__) (defBody sResult___init__) (defScope sResult___init__) .none kV_Mrinit dc_Mrinit pm_Mrinit an_Mrinit cd_Mrinit ct_Mrinit), sl_Mrinit⟩)
    (c_Mrinit : PySem.W.codeIn K cd_Mrinit "Result.__init__" = true)
    (k_Mrinit : PySem.W.keepIn K (.ref f_Mrinit) = true)
    (a_Mpush : PySem.W.findIn K (.ref cfr) "push" = some (some (.ref f_Mpush)))
    (fn_Mpush : PySem.W.isFn K (.ref f_Mpush) = true)
    (l_Mpush : K.lookup f_Mpush = some ⟨oc_Mpush, od_Mpush, .func (PySem.W.fnOf "push" "HeapFrames.push" (defArgs sHeapFrames_push) (defBody sHeapFrames_push) (defScope sHeapFrames_push) .none kV_Mpush dc_Mpush pm_Mpush an_Mpush cd_Mpush ct_Mpush), sl_Mpush⟩)
    (c_Mpush : PySem.W.codeIn K cd_Mpush "HeapFrames.push" = true)
    (k_Mpush : PySem.W.keepIn K (.ref f_Mpush) = true)
    (a_Mpull : PySem.W.findIn K (.ref cfr) "pull" = some (some (.ref f_Mpull)))
    (fn_Mpull : PySem.W.isFn K (.ref f_Mpull) = true)
    (l_Mpull : K.lookup f_Mpull = some ⟨oc_Mpull, od_Mpull, .func (PySem.W.fnOf "pull" "HeapFrames.pull" (defArgs sHeapFrames_pull) (defBody sHeapFrames_pull) (defScope sHeapFrames_pull) .none kV_Mpull dc_Mpull pm_Mpull an_Mpull cd_Mpull ct_Mpull), sl_Mpull⟩)
    (c_Mpull : PySem.W.codeIn K cd_Mpull "HeapFrames.pull" = true)
    (k_Mpull : PySem.W.keepIn K (.ref f_Mpull) = true)
    (a_Mmany : PySem.W.findIn K (.ref cfr) "many" = some (some (.ref f_Mmany)))
    (fn_Mmany : PySem.W.isFn K (.ref f_Mmany) = true)
    (l_Mmany : K.lookup f_Mmany = some ⟨oc_Mmany, od_Mmany, .func (PySem.W.fnOf "many" "HeapFrames.many" (defArgs sHeapFrames_many) (defBody sHeapFrames_many) (defScope sHeapFrames_many) .none kV_Mmany dc_Mmany pm_Mmany an_Mmany cd_Mmany ct_Mmany), sl_Mmany⟩)
    (c_Mmany : PySem.W.codeIn K cd_Mmany "HeapFrames.many" = true)
    (k_Mmany : PySem.W.keepIn K (.ref f_Mmany) = true)
    (a_Mbegin : PySem.W.findIn K (.ref cma) "begin" = some (some (.ref f_Mbegin)))
    (fn_Mbegin : PySem.W.isFn K (.ref f_Mbegin) = true)
    (l_Mbegin : K.lookup f_Mbegin = some ⟨oc_Mbegin, od_Mbegin, .func (PySem.W.fnOf "begin" "Machine.begin" (defArgs sMachine_begin) (defBody sMachine_begin) (defScope sMachine_begin) .none kV_Mbegin dc_Mbegin pm_Mbegin an_Mbegin cd_Mbegin ct_Mbegin), sl_Mbegin⟩)
    (c_Mbegin : PySem.W.codeIn K cd_Mbegin "Machine.begin" = true)
    (k_Mbegin : PySem.W.keepIn K (.ref f_Mbegin) = true)
    (a_Mgive : PySem.W.findIn K (.ref cma) "give" = some (some (.ref f_Mgive)))
    (fn_Mgive : PySem.W.isFn K (.ref f_Mgive) = true)
    (l_Mgive : K.lookup f_Mgive = some ⟨oc_Mgive, od_Mgive, .func (PySem.W.fnOf "give" "Machine.give" (defArgs sMachine_give) (defBody sMachine_give) (defScope sMachine_give) .none kV_Mgive dc_Mgive pm_Mgive an_Mgive cd_Mgive ct_Mgive), sl_Mgive⟩)
    (c_Mgive : PySem.W.codeIn K cd_Mgive "Machine.give" = true)
    (k_Mgive : PySem.W.keepIn K (.ref f_Mgive) = true)
    (a_Mend : PySem.W.findIn K (.ref cma) "end" = some (some (.ref f_Mend)))
    (fn_Mend : PySem.W.isFn K (.ref f_Mend) = true)
    (l_Mend : K.lookup f_Mend = some ⟨oc_Mend, od_Mend, .func (PySem.W.fnOf "end" "Machine.end" (defArgs sMachine_end) (defBody sMachine_end) (defScope sMachine_end) .none kV_Mend dc_Mend pm_Mend an_Mend cd_Mend ct_Mend), sl_Mend⟩)
    (c_Mend : PySem.W.codeIn K cd_Mend "Machine.end" = true)
    (k_Mend : PySem.W.keepIn K (.ref f_Mend) = true)
    (a_Mfaulted : PySem.W.findIn K (.ref cma) "faulted" = some (some (.ref f_Mfaulted)))
    (fn_Mfaulted : PySem.W.isFn K (.ref f_Mfaulted) = true)
    (l_Mfaulted : K.lookup f_Mfaulted = some ⟨oc_Mfaulted, od_Mfaulted, .func (PySem.W.fnOf "faulted" "Machine.faulted" (defArgs sMachine_faulted) (defBody sMachine_faulted) (defScope sMachine_faulted) .none kV_Mfaulted dc_Mfaulted pm_Mfaulted an_Mfaulted cd_Mfaulted ct_Mfaulted), sl_Mfaulted⟩)
    (c_Mfaulted : PySem.W.codeIn K cd_Mfaulted "Machine.faulted" = true)
    (k_Mfaulted : PySem.W.keepIn K (.ref f_Mfaulted) = true)
    (a_Mact_more : PySem.W.findIn K (.ref cma) "act_more" = some (some (.ref f_Mact_more)))
    (fn_Mact_more : PySem.W.isFn K (.ref f_Mact_more) = true)
    (l_Mact_more : K.lookup f_Mact_more = some ⟨oc_Mact_more, od_Mact_more, .func (PySem.W.fnOf "act_more" "Machine.act_more" (defArgs (inClass (top 53) 6)) (defBody (inClass (top 53) 6)) (defScope (inClass (top 53) 6)) .none kV_Mact_more dc_Mact_more pm_Mact_more an_Mact_more cd_Mact_more ct_Mact_more), sl_Mact_more⟩)
    (c_Mact_more : PySem.W.codeIn K cd_Mact_more "Machine.act_more" = true)
    (k_Mact_more : PySem.W.keepIn K (.ref f_Mact_more) = true)
    (a_Mback_to : PySem.W.findIn K (.ref cma) "back_to" = some (some (.ref f_Mback_to)))
    (fn_Mback_to : PySem.W.isFn K (.ref f_Mback_to) = true)
    (l_Mback_to : K.lookup f_Mback_to = some ⟨oc_Mback_to, od_Mback_to, .func (PySem.W.fnOf "back_to" "Machine.back_to" (defArgs (inClass (top 53) 7)) (defBody (inClass (top 53) 7)) (defScope (inClass (top 53) 7)) .none kV_Mback_to dc_Mback_to pm_Mback_to an_Mback_to cd_Mback_to ct_Mback_to), sl_Mback_to⟩)
    (c_Mback_to : PySem.W.codeIn K cd_Mback_to "Machine.back_to" = true)
    (k_Mback_to : PySem.W.keepIn K (.ref f_Mback_to) = true)
    (a_Mop_told : PySem.W.findIn K (.ref cma) "op_told" = some (some (.ref f_Mop_told)))
    (fn_Mop_told : PySem.W.isFn K (.ref f_Mop_told) = true)
    (l_Mop_told : K.lookup f_Mop_told = some ⟨oc_Mop_told, od_Mop_told, .func (PySem.W.fnOf "op_told" "LesserMachine.op_told" (defArgs sLesserMachine_op_told) (defBody sLesserMachine_op_told) (defScope sLesserMachine_op_told) .none kV_Mop_told dc_Mop_told pm_Mop_told an_Mop_told cd_Mop_told ct_Mop_told), sl_Mop_told⟩)
    (c_Mop_told : PySem.W.codeIn K cd_Mop_told "LesserMachine.op_told" = true)
    (k_Mop_told : PySem.W.keepIn K (.ref f_Mop_told) = true)
    (a_Dfun : PySem.W.findIn K (.ref cfu) "__init__" = some (some (.ref f_Dfun)))
    (fn_Dfun : PySem.W.isFn K (.ref f_Dfun) = true)
    (F_Dfun : FunD K "__init__" "Fun.__init__" (defArgs sFun___init__) (defBody sFun___init__) (defScope sFun___init__) [V.non, V.non] [] f_Dfun fd_Dfun)
    (a_Dcell : PySem.W.findIn K (.ref cce) "__init__" = some (some (.ref f_Dcell)))
    (fn_Dcell : PySem.W.isFn K (.ref f_Dcell) = true)
    (F_Dcell : FunD K "__init__" "Cell.__init__" (defArgs sCell___init__) (defBody sCell___init__) (defScope sCell___init__) [V.non] [] f_Dcell fd_Dcell)
    (a_Dpoint : PySem.W.findIn K (.ref cpo) "__init__" = some (some (.ref f_Dpoint)))
    (fn_Dpoint : PySem.W.isFn K (.ref f_Dpoint) = true)
    (F_Dpoint : FunD K "__init__" "Point.__init__" (defArgs sPoint___init__) (defBody sPoint___init__) (defScope sPoint___init__) [V.non] [] f_Dpoint fd_Dpoint)
    (a_Dpart : PySem.W.findIn K (.ref cpt) "__init__" = some (some (.ref f_Dpart)))
    (fn_Dpart : PySem.W.isFn K (.ref f_Dpart) = true)
    (F_Dpart : FunD K "__init__" "Part.__init__" (defArgs sPart___init__) (defBody sPart___init__) (defScope sPart___init__) [V.non] [] f_Dpart fd_Dpart)
    (a_rt : PySem.W.nsIn K mainGlobals "run_turned" = some (some (.ref f_rt)))
    (FD_rt : FunD K "run_turned" "run_turned" (defArgs srun_turned) (defBody srun_turned) (defScope srun_turned) [] [("most", .int 200000)] f_rt fd_rt)
    (aC : PySem.W.nsIn K mainGlobals "Stuck" = some (some (.ref csk)))
    (xL : ∃ nm q N bs bm sn sub ab col dd k0 k1 k2 k3 k5, K.lookup csk = some (excClassObj nm q csk N bs bm true sn sub ab col dd k0 k1 k2 k3 k5 "RuntimeError.__new__") ∧ PySem.W.excTail leTail bm = true)
    (saC : PySem.W.findIn K (.ref csk) "__setattr__" = some (some (.builtin "object.__setattr__")))
    (gaC : PySem.W.findIn K (.ref csk) "__getattribute__" = some (some (.builtin "BaseException.__getattribute__")))
    (ggC : PySem.W.findIn K (.ref csk) "__getattr__" = some none)
    (nbC : PySem.W.findIn K (.ref csk) "word" = some none)
    (aI : PySem.W.findIn K (.ref csk) "__init__" = some (some (.ref fI)))
    (tI : PySem.W.typeIn K (.ref fI) = some (.type "function"))
    (lI : K.lookup fI = some ⟨ocI, odI, .func (PySem.W.fnOf "__init__" "Stuck.__init__" (defArgs sStuckI) (defBody sStuckI) (defScope sStuckI) .none kVI dcI pmI anI cdI ctI), slI⟩)
    (cI : PySem.W.codeIn K cdI "Stuck.__init__" = true)
    (kI : PySem.W.keepIn K (.ref fI) = true)
    (kC : PySem.W.keepIn K (.ref csk) = true)
    (eC : PySem.W.subIn K (.ref csk) (.type "BaseException") = some true)
    (tC : PySem.W.typeIn K (.ref csk) = some (.type "type"))
    (hdC : PySem.W.hasDictIn K csk = true)
    (clC : PySem.W.isClsIn K csk = true)
    (uC : PySem.W.subIn K (.ref csk) (.ref csk) = some true)
    (uL : PySem.W.subIn K (.ref csk) (.type "RuntimeError") = some true)
    (hcC : PySem.W.findIn K (.ref csk) "__class__" = some (some (.builtin "object.__class__")))
    (hmC : PySem.W.mroIn K csk (.type "object") = some true)
    (vV : PySem.W.findCls K (.type "RuntimeError") (.type "type") "__init__" = some (.val (.builtin "RuntimeError.__init__")))
    :
    ∃ fd : FuncData, (∀ (s : Shared) (v : Value), BindsTo s fd ⟨[v], []⟩ [("_law_script", v)]) ∧ ∀ base : Heap, K.In base → base.Ns mainGlobals mg → FnOk l.prog w K mg base CX0 21 fa fd ["_law_script"] (spLaw K) := by
  have e := hfa.symm.trans (PySem.W.mg_of X G a_law)
  cases e
  have F_next := fun_mk (st := s_law_next) l_next c_next k_next
  have m_next := PySem.W.mg_of X G a_next
  have b_next := F_next.binds (ps := ["_law_dr"]) fun _ _ _ _ _ _ us hl => match us, hl with | [_], _ => rfl
  have F_draws := fun_mk (st := s_law_draws) l_draws c_draws k_draws
  have m_draws := PySem.W.mg_of X G a_draws
  have b_draws := F_draws.binds (ps := ["_law_cell"]) fun _ _ _ _ _ _ us hl => match us, hl with | [_], _ => rfl
  have F_pairL := fun_mk (st := s_law_pair) l_pairL c_pairL k_pairL
  have m_pairL := PySem.W.mg_of X G a_pairL
  have b_pairL := F_pairL.binds (ps := ["_law_one", "_law_two"]) fun _ _ _ _ _ _ us hl => match us, hl with | [_, _], _ => rfl
  have F_endL := fun_mk (st := s_law_end) l_endL c_endL k_endL
  have m_endL := PySem.W.mg_of X G a_endL
  have b_endL := F_endL.binds (ps := ["_law_term"]) fun _ _ _ _ _ _ us hl => match us, hl with | [_], _ => rfl
  have F_numL := fun_mk (st := s_law_num) l_numL c_numL k_numL
  have m_numL := PySem.W.mg_of X G a_numL
  have b_numL := F_numL.binds (ps := ["_law_dr"]) fun _ _ _ _ _ _ us hl => match us, hl with | [_], _ => rfl
  have F_good := fun_mk (st := s_law_good) l_good c_good k_good
  have m_good := PySem.W.mg_of X G a_good
  have b_good := F_good.binds (ps := ["_law_dr"]) fun _ _ _ _ _ _ us hl => match us, hl with | [_], _ => rfl
  have F_stuckL := fun_mk (st := s_law_stuck) l_stuckL c_stuckL k_stuckL
  have m_stuckL := PySem.W.mg_of X G a_stuckL
  have b_stuckL := F_stuckL.binds (ps := ["_law_dr"]) fun _ _ _ _ _ _ us hl => match us, hl with | [_], _ => rfl
  have F_asked := fun_mk (st := s_law_asked) l_asked c_asked k_asked
  have m_asked := PySem.W.mg_of X G a_asked
  have b_asked := F_asked.binds (ps := ["_law_term"]) fun _ _ _ _ _ _ us hl => match us, hl with | [_], _ => rfl
  have F_is := fun_mk (st := s_law_is) l_is c_is k_is
  have m_is := PySem.W.mg_of X G a_is
  have b_is := F_is.binds (ps := ["_law_told", "_law_text", "_law_winds", "_law_steps", "_law_output"]) fun _ _ _ _ _ _ us hl => match us, hl with | [_, _, _, _, _], _ => rfl
  have F_loop := fun_mk (st := s_law_loop) l_loop c_loop k_loop
  have m_loop := PySem.W.mg_of X G a_loop
  have b_loop := F_loop.binds (ps := ["_law_dr"]) fun _ _ _ _ _ _ us hl => match us, hl with | [_], _ => rfl
  have F_law := fun_mk (st := slaw) l_law c_law k_law
  have m_law := PySem.W.mg_of X G a_law
  have b_law := F_law.binds (ps := ["_law_script"]) fun _ _ _ _ _ _ us hl => match us, hl with | [_], _ => rfl
  have F_whole := fun_mk (st := sis_whole) l_whole c_whole k_whole
  have m_whole := PySem.W.mg_of X G a_whole
  have b_whole := F_whole.binds (ps := ["thing"]) fun _ _ _ _ _ _ us hl => match us, hl with | [_], _ => rfl
  have F_kindOf := fun_mk (st := skind_of) l_kindOf c_kindOf k_kindOf
  have m_kindOf := PySem.W.mg_of X G a_kindOf
  have b_kindOf := F_kindOf.binds (ps := ["worth"]) fun _ _ _ _ _ _ us hl => match us, hl with | [_], _ => rfl
  have F_shA := fun_mk (st := sshown_alone) l_shA c_shA k_shA
  have m_shA := PySem.W.mg_of X G a_shA
  have b_shA := F_shA.binds (ps := ["worth"]) fun _ _ _ _ _ _ us hl => match us, hl with | [_], _ => rfl
  have F_shown := fun_mk (st := sshown) l_shown c_shown k_shown
  have m_shown := PySem.W.mg_of X G a_shown
  have b_shown := F_shown.binds (ps := ["worth"]) fun _ _ _ _ _ _ us hl => match us, hl with | [_], _ => rfl
  have F_unch := fun_mk (st := sunchained) l_unch c_unch k_unch
  have m_unch := PySem.W.mg_of X G a_unch
  have b_unch := F_unch.binds (ps := ["worth"]) fun _ _ _ _ _ _ us hl => match us, hl with | [_], _ => rfl
  have F_whole2 := fun_mk (st := sare_whole) l_whole2 c_whole2 k_whole2
  have m_whole2 := PySem.W.mg_of X G a_whole2
  have b_whole2 := F_whole2.binds (ps := ["one", "two"]) fun _ _ _ _ _ _ us hl => match us, hl with | [_, _], _ => rfl
  have F_bnum := fun_mk (st := sbounded_number) l_bnum c_bnum k_bnum
  have m_bnum := PySem.W.mg_of X G a_bnum
  have b_bnum := F_bnum.binds (ps := ["number"]) fun _ _ _ _ _ _ us hl => match us, hl with | [_], _ => rfl
  have F_btext := fun_mk (st := sbounded_text) l_btext c_btext k_btext
  have m_btext := PySem.W.mg_of X G a_btext
  have b_btext := F_btext.binds (ps := ["text"]) fun _ _ _ _ _ _ us hl => match us, hl with | [_], _ => rfl
  have F_plus := fun_mk (st := splus_worth) l_plus c_plus k_plus
  have m_plus := PySem.W.mg_of X G a_plus
  have b_plus := F_plus.binds (ps := ["one", "two"]) fun _ _ _ _ _ _ us hl => match us, hl with | [_, _], _ => rfl
  have F_minus := fun_mk (st := sminus_worth) l_minus c_minus k_minus
  have m_minus := PySem.W.mg_of X G a_minus
  have b_minus := F_minus.binds (ps := ["one", "two"]) fun _ _ _ _ _ _ us hl => match us, hl with | [_, _], _ => rfl
  have F_times := fun_mk (st := stimes_worth) l_times c_times k_times
  have m_times := PySem.W.mg_of X G a_times
  have b_times := F_times.binds (ps := ["one", "two"]) fun _ _ _ _ _ _ us hl => match us, hl with | [_, _], _ => rfl
  have F_less := fun_mk (st := sless_worth) l_less c_less k_less
  have m_less := PySem.W.mg_of X G a_less
  have b_less := F_less.binds (ps := ["one", "two"]) fun _ _ _ _ _ _ us hl => match us, hl with | [_, _], _ => rfl
  have F_join := fun_mk (st := sjoined_worth) l_join c_join k_join
  have m_join := PySem.W.mg_of X G a_join
  have b_join := F_join.binds (ps := ["one", "two"]) fun _ _ _ _ _ _ us hl => match us, hl with | [_, _], _ => rfl
  have F_first := fun_mk (st := sfirst_worth) l_first c_first k_first
  have m_first := PySem.W.mg_of X G a_first
  have b_first := F_first.binds (ps := ["one"]) fun _ _ _ _ _ _ us hl => match us, hl with | [_], _ => rfl
  have F_kindW := fun_mk (st := skind_worth) l_kindW c_kindW k_kindW
  have m_kindW := PySem.W.mg_of X G a_kindW
  have b_kindW := F_kindW.binds (ps := ["one"]) fun _ _ _ _ _ _ us hl => match us, hl with | [_], _ => rfl
  have F_opW := fun_mk (st := sop_worth) l_opW c_opW k_opW
  have m_opW := PySem.W.mg_of X G a_opW
  have b_opW := F_opW.binds (ps := ["word", "worths"]) fun _ _ _ _ _ _ us hl => match us, hl with | [_, _], _ => rfl
  have F_partsOf := fun_mk (st := sparts_of) l_partsOf c_partsOf k_partsOf
  have m_partsOf := PySem.W.mg_of X G a_partsOf
  have b_partsOf := F_partsOf.binds (ps := ["term"]) fun _ _ _ _ _ _ us hl => match us, hl with | [_], _ => rfl
  have F_placedP := fun_mk (st := splaced_parts) l_placedP c_placedP k_placedP
  have m_placedP := PySem.W.mg_of X G a_placedP
  have b_placedP := F_placedP.binds (ps := ["path", "term"]) fun _ _ _ _ _ _ us hl => match us, hl with | [_, _], _ => rfl
  have F_waits := fun_mk (st := swaits_for) l_waits c_waits k_waits
  have m_waits := PySem.W.mg_of X G a_waits
  have b_waits := F_waits.binds (ps := ["place"]) fun _ _ _ _ _ _ us hl => match us, hl with | [_], _ => rfl
  have F_allP := fun_mk (st := sall_places) l_allP c_allP k_allP
  have m_allP := PySem.W.mg_of X G a_allP
  have b_allP := F_allP.binds (ps := ["term"]) fun _ _ _ _ _ _ us hl => match us, hl with | [_], _ => rfl
  have F_placed := fun_mk (st := splaced) l_placed c_placed k_placed
  have m_placed := PySem.W.mg_of X G a_placed
  have b_placed := F_placed.binds (ps := ["term"]) fun _ _ _ _ _ _ us hl => match us, hl with | [_], _ => rfl
  have F_wo := fun_mk (st := swork_out) l_wo c_wo k_wo
  have m_wo := PySem.W.mg_of X G a_wo
  have b_wo := F_wo.binds (ps := ["machine", "place", "env", "worths"]) fun _ _ _ _ _ _ us hl => match us, hl with | [_, _, _, _], _ => rfl
  have F_ts := fun_mk (st := stake_step) l_ts c_ts k_ts
  have m_ts := PySem.W.mg_of X G a_ts
  have b_ts := F_ts.binds (ps := ["machine"]) fun _ _ _ _ _ _ us hl => match us, hl with | [_], _ => rfl
  have F_act := fun_mk (st := sact) l_act c_act k_act
  have m_act := PySem.W.mg_of X G a_act
  have b_act := F_act.binds (ps := ["machine", "place", "env", "worths"]) fun _ _ _ _ _ _ us hl => match us, hl with | [_, _, _, _], _ => rfl
  have F_gb := fun_mk (st := sgo_back) l_gb c_gb k_gb
  have m_gb := PySem.W.mg_of X G a_gb
  have b_gb := F_gb.binds (ps := ["machine"]) fun _ _ _ _ _ _ us hl => match us, hl with | [_], _ => rfl
  have F_adv := fun_mk (st := sadvance) l_adv c_adv k_adv
  have m_adv := PySem.W.mg_of X G a_adv
  have b_adv := F_adv.binds (ps := ["machine", "many"]) fun _ _ _ _ _ _ us hl => match us, hl with | [_, _], _ => rfl
  have F_ro := fun_mk (st := sresult_of) l_ro c_ro k_ro
  have m_ro := PySem.W.mg_of X G a_ro
  have b_ro := F_ro.binds (ps := ["machine"]) fun _ _ _ _ _ _ us hl => match us, hl with | [_], _ => rfl
  have F_lit := fun_mk (st := sact_literal) l_lit c_lit k_lit
  have m_lit := PySem.W.mg_of X G a_lit
  have b_lit := F_lit.binds (ps := ["machine", "place", "env", "worths"]) fun _ _ _ _ _ _ us hl => match us, hl with | [_, _, _, _], _ => rfl
  have F_yes := fun_mk (st := sact_yes) l_yes c_yes k_yes
  have m_yes := PySem.W.mg_of X G a_yes
  have b_yes := F_yes.binds (ps := ["machine", "place", "env", "worths"]) fun _ _ _ _ _ _ us hl => match us, hl with | [_, _, _, _], _ => rfl
  have F_no := fun_mk (st := sact_no) l_no c_no k_no
  have m_no := PySem.W.mg_of X G a_no
  have b_no := F_no.binds (ps := ["machine", "place", "env", "worths"]) fun _ _ _ _ _ _ us hl => match us, hl with | [_, _, _, _], _ => rfl
  have F_none := fun_mk (st := sact_none) l_none c_none k_none
  have m_none := PySem.W.mg_of X G a_none
  have b_none := F_none.binds (ps := ["machine", "place", "env", "worths"]) fun _ _ _ _ _ _ us hl => match us, hl with | [_, _, _, _], _ => rfl
  have F_name := fun_mk (st := sact_name) l_name c_name k_name
  have m_name := PySem.W.mg_of X G a_name
  have b_name := F_name.binds (ps := ["machine", "place", "env", "worths"]) fun _ _ _ _ _ _ us hl => match us, hl with | [_, _, _, _], _ => rfl
  have F_funA := fun_mk (st := sact_fun) l_funA c_funA k_funA
  have m_funA := PySem.W.mg_of X G a_funA
  have b_funA := F_funA.binds (ps := ["machine", "place", "env", "worths"]) fun _ _ _ _ _ _ us hl => match us, hl with | [_, _, _, _], _ => rfl
  have F_names := fun_mk (st := snames_of) l_names c_names k_names
  have m_names := PySem.W.mg_of X G a_names
  have b_names := F_names.binds (ps := ["function"]) fun _ _ _ _ _ _ us hl => match us, hl with | [_], _ => rfl
  have F_cenv := fun_mk (st := scalled_env) l_cenv c_cenv k_cenv
  have m_cenv := PySem.W.mg_of X G a_cenv
  have b_cenv := F_cenv.binds (ps := ["function", "handed"]) fun _ _ _ _ _ _ us hl => match us, hl with | [_, _], _ => rfl
  have F_call := fun_mk (st := sact_call) l_call c_call k_call
  have m_call := PySem.W.mg_of X G a_call
  have b_call := F_call.binds (ps := ["machine", "place", "env", "worths"]) fun _ _ _ _ _ _ us hl => match us, hl with | [_, _, _, _], _ => rfl
  have F_let := fun_mk (st := sact_let) l_let c_let k_let
  have m_let := PySem.W.mg_of X G a_let
  have b_let := F_let.binds (ps := ["machine", "place", "env", "worths"]) fun _ _ _ _ _ _ us hl => match us, hl with | [_, _, _, _], _ => rfl
  have F_if := fun_mk (st := sact_if) l_if c_if k_if
  have m_if := PySem.W.mg_of X G a_if
  have b_if := F_if.binds (ps := ["machine", "place", "env", "worths"]) fun _ _ _ _ _ _ us hl => match us, hl with | [_, _, _, _], _ => rfl
  have F_op := fun_mk (st := sact_op) l_op c_op k_op
  have m_op := PySem.W.mg_of X G a_op
  have b_op := F_op.binds (ps := ["machine", "place", "env", "worths"]) fun _ _ _ _ _ _ us hl => match us, hl with | [_, _, _, _], _ => rfl
  have F_cellA := fun_mk (st := sact_cell) l_cellA c_cellA k_cellA
  have m_cellA := PySem.W.mg_of X G a_cellA
  have b_cellA := F_cellA.binds (ps := ["machine", "place", "env", "worths"]) fun _ _ _ _ _ _ us hl => match us, hl with | [_, _, _, _], _ => rfl
  have F_get := fun_mk (st := sact_get) l_get c_get k_get
  have m_get := PySem.W.mg_of X G a_get
  have b_get := F_get.binds (ps := ["machine", "place", "env", "worths"]) fun _ _ _ _ _ _ us hl => match us, hl with | [_, _, _, _], _ => rfl
  have F_set := fun_mk (st := sact_set) l_set c_set k_set
  have m_set := PySem.W.mg_of X G a_set
  have b_set := F_set.binds (ps := ["machine", "place", "env", "worths"]) fun _ _ _ _ _ _ us hl => match us, hl with | [_, _, _, _], _ => rfl
  have F_say := fun_mk (st := sact_say) l_say c_say k_say
  have m_say := PySem.W.mg_of X G a_say
  have b_say := F_say.binds (ps := ["machine", "place", "env", "worths"]) fun _ _ _ _ _ _ us hl => match us, hl with | [_, _, _, _], _ => rfl
  have F_pairT := fun_mk (st := spair_told) l_pairT c_pairT k_pairT
  have m_pairT := PySem.W.mg_of X G a_pairT
  have b_pairT := F_pairT.binds (ps := ["machine", "first", "rest"]) fun _ _ _ _ _ _ us hl => match us, hl with | [_, _, _], _ => rfl
  have F_tried := fun_mk (st := stried_told) l_tried c_tried k_tried
  have m_tried := PySem.W.mg_of X G a_tried
  have b_tried := F_tried.binds (ps := ["machine", "word", "listed"]) fun _ _ _ _ _ _ us hl => match us, hl with | [_, _, _], _ => rfl
  have F_wound := fun_mk (st := swound_told) l_wound c_wound k_wound
  have m_wound := PySem.W.mg_of X G a_wound
  have b_wound := F_wound.binds (ps := ["machine", "way", "number"]) fun _ _ _ _ _ _ us hl => match us, hl with | [_, _, _], _ => rfl
  have F_pointT := fun_mk (st := spoint_told) l_pointT c_pointT k_pointT
  have m_pointT := PySem.W.mg_of X G a_pointT
  have b_pointT := F_pointT.binds (ps := ["machine", "held"]) fun _ _ _ _ _ _ us hl => match us, hl with | [_, _], _ => rfl
  have F_partT := fun_mk (st := spart_told) l_partT c_partT k_partT
  have m_partT := PySem.W.mg_of X G a_partT
  have b_partT := F_partT.binds (ps := ["machine", "held"]) fun _ _ _ _ _ _ us hl => match us, hl with | [_, _], _ => rfl
  have F_inside := fun_mk (st := sinside_told) l_inside c_inside k_inside
  have m_inside := PySem.W.mg_of X G a_inside
  have b_inside := F_inside.binds (ps := ["machine", "holder"]) fun _ _ _ _ _ _ us hl => match us, hl with | [_, _], _ => rfl
  have F_ie := fun_mk (st := sis_end) l_ie c_ie k_ie
  have m_ie := PySem.W.mg_of X G a_ie
  have b_ie := F_ie.binds (ps := ["worth"]) fun _ _ _ _ _ _ us hl => match us, hl with | [_], _ => rfl
  have n_len := PySem.W.mg_none_of X G z_len
  have n_range := PySem.W.mg_none_of X G z_range
  have n_list := PySem.W.mg_none_of X G z_list
  have n_isinstance := PySem.W.mg_none_of X G z_isinstance
  have n_enumerate := PySem.W.mg_none_of X G z_enumerate
  have n_zip := PySem.W.mg_none_of X G z_zip
  have n_str := PySem.W.mg_none_of X G z_str
  have n_int := PySem.W.mg_none_of X G z_int
  have n_bool := PySem.W.mg_none_of X G z_bool
  have n_abs := PySem.W.mg_none_of X G z_abs
  have n_max := PySem.W.mg_none_of X G z_max
  have n_dict := PySem.W.mg_none_of X G z_dict
  have n_RuntimeError := PySem.W.mg_none_of X G z_RuntimeError
  have m_TOO_GREAT := PySem.W.mg_of X G a_TOO_GREAT
  have m_TURNED_MOST := PySem.W.mg_of X G a_TURNED_MOST
  have m_FORMS := PySem.W.mg_of X G a_FORMS
  have m_OPS := PySem.W.mg_of X G a_OPS
  have m_ACTIONS_worths := PySem.W.mg_of X G a_ACTIONS_worths
  have m_ACTIONS_machine := PySem.W.mg_of X G a_ACTIONS_machine
  have m_LESSER_ACTIONS := PySem.W.mg_of X G a_LESSER_ACTIONS
  have m_WAITS_FOR_FIRST := PySem.W.mg_of X G a_WAITS_FOR_FIRST
  have m_WAITS_FOR_NONE := PySem.W.mg_of X G a_WAITS_FOR_NONE
  have clcpl : Cls K cpl := ⟨pgcpl, hdcpl, pocpl, sacpl⟩
  have Txcpl : TxC K cpl ["path", "term", "word", "parts", "waits"] := ⟨clcpl, List.forall_mem_cons.mpr ⟨nocpl_path, List.forall_mem_cons.mpr ⟨nocpl_term, List.forall_mem_cons.mpr ⟨nocpl_word, List.forall_mem_cons.mpr ⟨nocpl_parts, List.forall_mem_cons.mpr ⟨nocpl_waits, fun _ h => nomatch h⟩⟩⟩⟩⟩⟩
  have m_Place := PySem.W.mg_of X G a_Place
  have clcpa : Cls K cpa := ⟨pgcpa, hdcpa, pocpa, sacpa⟩
  have Txcpa : TxC K cpa ["first", "rest"] := ⟨clcpa, List.forall_mem_cons.mpr ⟨nocpa_first, List.forall_mem_cons.mpr ⟨nocpa_rest, fun _ h => nomatch h⟩⟩⟩
  have m_Pair := PySem.W.mg_of X G a_Pair
  have clcfu : Cls K cfu := ⟨pgcfu, hdcfu, pocfu, sacfu⟩
  have Txcfu : TxC K cfu ["place", "env"] := ⟨clcfu, List.forall_mem_cons.mpr ⟨nocfu_place, List.forall_mem_cons.mpr ⟨nocfu_env, fun _ h => nomatch h⟩⟩⟩
  have m_Fun := PySem.W.mg_of X G a_Fun
  have clcce : Cls K cce := ⟨pgcce, hdcce, pocce, sacce⟩
  have Txcce : TxC K cce ["held"] := ⟨clcce, List.forall_mem_cons.mpr ⟨nocce_held, fun _ h => nomatch h⟩⟩
  have m_Cell := PySem.W.mg_of X G a_Cell
  have clcpo : Cls K cpo := ⟨pgcpo, hdcpo, pocpo, sacpo⟩
  have Txcpo : TxC K cpo ["held"] := ⟨clcpo, List.forall_mem_cons.mpr ⟨nocpo_held, fun _ h => nomatch h⟩⟩
  have m_Point := PySem.W.mg_of X G a_Point
  have clcpt : Cls K cpt := ⟨pgcpt, hdcpt, pocpt, sacpt⟩
  have Txcpt : TxC K cpt ["held"] := ⟨clcpt, List.forall_mem_cons.mpr ⟨nocpt_held, fun _ h => nomatch h⟩⟩
  have m_Part := PySem.W.mg_of X G a_Part
  have clcno : Cls K cno := ⟨pgcno, hdcno, pocno, sacno⟩
  have Txcno : TxC K cno ["frame", "outer", "height", "wind"] := ⟨clcno, List.forall_mem_cons.mpr ⟨nocno_frame, List.forall_mem_cons.mpr ⟨nocno_outer, List.forall_mem_cons.mpr ⟨nocno_height, List.forall_mem_cons.mpr ⟨nocno_wind, fun _ h => nomatch h⟩⟩⟩⟩⟩
  have m_Node := PySem.W.mg_of X G a_Node
  have clcfr : Cls K cfr := ⟨pgcfr, hdcfr, pocfr, sacfr⟩
  have Txcfr : TxC K cfr ["top"] := ⟨clcfr, List.forall_mem_cons.mpr ⟨nocfr_top, fun _ h => nomatch h⟩⟩
  have m_HeapFrames := PySem.W.mg_of X G a_HeapFrames
  have clcma : Cls K cma := ⟨pgcma, hdcma, pocma, sacma⟩
  have Txcma : TxC K cma ["frames", "stage", "place", "env", "kind", "worth", "output", "winds", "steps", "height"] := ⟨clcma, List.forall_mem_cons.mpr ⟨nocma_frames, List.forall_mem_cons.mpr ⟨nocma_stage, List.forall_mem_cons.mpr ⟨nocma_place, List.forall_mem_cons.mpr ⟨nocma_env, List.forall_mem_cons.mpr ⟨nocma_kind, List.forall_mem_cons.mpr ⟨nocma_worth, List.forall_mem_cons.mpr ⟨nocma_output, List.forall_mem_cons.mpr ⟨nocma_winds, List.forall_mem_cons.mpr ⟨nocma_steps, List.forall_mem_cons.mpr ⟨nocma_height, fun _ h => nomatch h⟩⟩⟩⟩⟩⟩⟩⟩⟩⟩⟩
  have m_LesserMachine := PySem.W.mg_of X G a_LesserMachine
  have clcre : Cls K cre := ⟨pgcre, hdcre, pocre, sacre⟩
  have Txcre : TxC K cre ["kind", "worth", "output", "winds", "steps", "height"] := ⟨clcre, List.forall_mem_cons.mpr ⟨nocre_kind, List.forall_mem_cons.mpr ⟨nocre_worth, List.forall_mem_cons.mpr ⟨nocre_output, List.forall_mem_cons.mpr ⟨nocre_winds, List.forall_mem_cons.mpr ⟨nocre_steps, List.forall_mem_cons.mpr ⟨nocre_height, fun _ h => nomatch h⟩⟩⟩⟩⟩⟩⟩
  have m_Result := PySem.W.mg_of X G a_Result
  have Owcpa : OwnC K cpa := ⟨clcpa, c1cpa, c2g, c3g, own_mro gcpa vcpa, tycpa⟩
  have Owcfu : OwnC K cfu := ⟨clcfu, c1cfu, c2g, c3g, own_mro gcfu vcfu, tycfu⟩
  have Owcce : OwnC K cce := ⟨clcce, c1cce, c2g, c3g, own_mro gcce vcce, tycce⟩
  have Owcpo : OwnC K cpo := ⟨clcpo, c1cpo, c2g, c3g, own_mro gcpo vcpo, tycpo⟩
  have Owcpt : OwnC K cpt := ⟨clcpt, c1cpt, c2g, c3g, own_mro gcpt vcpt, tycpt⟩
  have F_Mpinit := fun_mk (st := sPlace___init__) l_Mpinit c_Mpinit k_Mpinit
  have b_Mpinit := F_Mpinit.binds (ps := ["self", "path", "term"]) fun _ _ _ _ _ _ us hl => match us, hl with | [_, _, _], _ => rfl
  have Mk_Mpinit : Mk K cpl f_Mpinit := ⟨mkcpl, a_Mpinit, fn_Mpinit, kpcpl⟩
  have F_Mpainit := fun_mk (st := sPair___init__) l_Mpainit c_Mpainit k_Mpainit
  have b_Mpainit := F_Mpainit.binds (ps := ["self", "first", "rest"]) fun _ _ _ _ _ _ us hl => match us, hl with | [_, _, _], _ => rfl
  have Mk_Mpainit : Mk K cpa f_Mpainit := ⟨mkcpa, a_Mpainit, fn_Mpainit, kpcpa⟩
  have F_Mninit := fun_mk (st := sNode___init__) l_Mninit c_Mninit k_Mninit
  have b_Mninit := F_Mninit.binds (ps := ["self", "frame", "outer"]) fun _ _ _ _ _ _ us hl => match us, hl with | [_, _, _], _ => rfl
  have Mk_Mninit : Mk K cno f_Mninit := ⟨mkcno, a_Mninit, fn_Mninit, kpcno⟩
  have F_Mfinit := fun_mk (st := sHeapFrames___init__) l_Mfinit c_Mfinit k_Mfinit
  have b_Mfinit := F_Mfinit.binds (ps := ["self"]) fun _ _ _ _ _ _ us hl => match us, hl with | [_], _ => rfl
  have Mk_Mfinit : Mk K cfr f_Mfinit := ⟨mkcfr, a_Mfinit, fn_Mfinit, kpcfr⟩
  have F_Mminit := fun_mk (st := sMachine___init__) l_Mminit c_Mminit k_Mminit
  have b_Mminit := F_Mminit.binds (ps := ["self", "term", "given", "frames"]) fun _ _ _ _ _ _ us hl => match us, hl with | [_, _, _, _], _ => rfl
  have Mk_Mminit : Mk K cma f_Mminit := ⟨mkcma, a_Mminit, fn_Mminit, kpcma⟩
  have F_Mrinit := fun_mk (st := sResult___init__) l_Mrinit c_Mrinit k_Mrinit
  have b_Mrinit := F_Mrinit.binds (ps := ["self", "kind", "worth", "output", "winds", "steps", "height"]) fun _ _ _ _ _ _ us hl => match us, hl with | [_, _, _, _, _, _, _], _ => rfl
  have Mk_Mrinit : Mk K cre f_Mrinit := ⟨mkcre, a_Mrinit, fn_Mrinit, kpcre⟩
  have F_Mpush := fun_mk (st := sHeapFrames_push) l_Mpush c_Mpush k_Mpush
  have b_Mpush := F_Mpush.binds (ps := ["self", "frame"]) fun _ _ _ _ _ _ us hl => match us, hl with | [_, _], _ => rfl
  have Me_Mpush : Meth K cfr "push" f_Mpush := ⟨a_Mpush, fn_Mpush, k_Mpush⟩
  have F_Mpull := fun_mk (st := sHeapFrames_pull) l_Mpull c_Mpull k_Mpull
  have b_Mpull := F_Mpull.binds (ps := ["self"]) fun _ _ _ _ _ _ us hl => match us, hl with | [_], _ => rfl
  have Me_Mpull : Meth K cfr "pull" f_Mpull := ⟨a_Mpull, fn_Mpull, k_Mpull⟩
  have F_Mmany := fun_mk (st := sHeapFrames_many) l_Mmany c_Mmany k_Mmany
  have b_Mmany := F_Mmany.binds (ps := ["self"]) fun _ _ _ _ _ _ us hl => match us, hl with | [_], _ => rfl
  have Me_Mmany : Meth K cfr "many" f_Mmany := ⟨a_Mmany, fn_Mmany, k_Mmany⟩
  have F_Mbegin := fun_mk (st := sMachine_begin) l_Mbegin c_Mbegin k_Mbegin
  have b_Mbegin := F_Mbegin.binds (ps := ["self", "place", "env"]) fun _ _ _ _ _ _ us hl => match us, hl with | [_, _, _], _ => rfl
  have Me_Mbegin : Meth K cma "begin" f_Mbegin := ⟨a_Mbegin, fn_Mbegin, k_Mbegin⟩
  have F_Mgive := fun_mk (st := sMachine_give) l_Mgive c_Mgive k_Mgive
  have b_Mgive := F_Mgive.binds (ps := ["self", "worth"]) fun _ _ _ _ _ _ us hl => match us, hl with | [_, _], _ => rfl
  have Me_Mgive : Meth K cma "give" f_Mgive := ⟨a_Mgive, fn_Mgive, k_Mgive⟩
  have F_Mend := fun_mk (st := sMachine_end) l_Mend c_Mend k_Mend
  have b_Mend := F_Mend.binds (ps := ["self", "kind", "worth"]) fun _ _ _ _ _ _ us hl => match us, hl with | [_, _, _], _ => rfl
  have Me_Mend : Meth K cma "end" f_Mend := ⟨a_Mend, fn_Mend, k_Mend⟩
  have F_Mfaulted := fun_mk (st := sMachine_faulted) l_Mfaulted c_Mfaulted k_Mfaulted
  have b_Mfaulted := F_Mfaulted.binds (ps := ["self", "worth"]) fun _ _ _ _ _ _ us hl => match us, hl with | [_, _], _ => rfl
  have Me_Mfaulted : Meth K cma "faulted" f_Mfaulted := ⟨a_Mfaulted, fn_Mfaulted, k_Mfaulted⟩
  have F_Mact_more := fun_mk (st := (inClass (top 53) 6)) l_Mact_more c_Mact_more k_Mact_more
  have b_Mact_more := F_Mact_more.binds (ps := ["self", "place", "env", "worths"]) fun _ _ _ _ _ _ us hl => match us, hl with | [_, _, _, _], _ => rfl
  have Me_Mact_more : Meth K cma "act_more" f_Mact_more := ⟨a_Mact_more, fn_Mact_more, k_Mact_more⟩
  have F_Mback_to := fun_mk (st := (inClass (top 53) 7)) l_Mback_to c_Mback_to k_Mback_to
  have b_Mback_to := F_Mback_to.binds (ps := ["self", "frame"]) fun _ _ _ _ _ _ us hl => match us, hl with | [_, _], _ => rfl
  have Me_Mback_to : Meth K cma "back_to" f_Mback_to := ⟨a_Mback_to, fn_Mback_to, k_Mback_to⟩
  have F_Mop_told := fun_mk (st := sLesserMachine_op_told) l_Mop_told c_Mop_told k_Mop_told
  have b_Mop_told := F_Mop_told.binds (ps := ["self", "word", "worths"]) fun _ _ _ _ _ _ us hl => match us, hl with | [_, _, _], _ => rfl
  have Me_Mop_told : Meth K cma "op_told" f_Mop_told := ⟨a_Mop_told, fn_Mop_told, k_Mop_told⟩
  have b_Dfun := bindsF rfl F_Dfun
  have Mk_Dfun : Mk K cfu f_Dfun := ⟨mkcfu, a_Dfun, fn_Dfun, kpcfu⟩
  have b_Dcell := bindsCell rfl F_Dcell
  have Mk_Dcell : Mk K cce f_Dcell := ⟨mkcce, a_Dcell, fn_Dcell, kpcce⟩
  have b_Dpoint := bindsPoint rfl F_Dpoint
  have Mk_Dpoint : Mk K cpo f_Dpoint := ⟨mkcpo, a_Dpoint, fn_Dpoint, kpcpo⟩
  have b_Dpart := bindsPart rfl F_Dpart
  have Mk_Dpart : Mk K cpt f_Dpart := ⟨mkcpt, a_Dpart, fn_Dpart, kpcpt⟩
  have m_rt := PySem.W.mg_of X G a_rt
  have k_rt := FD_rt.kp
  have F_rt := Hb.fun_of FD_rt
  obtain ⟨ds_rt, v_rt, b_rt⟩ := FD_rt.binds0 (ps := ["term", "given", "most"]) 2 (by simp) rfl (fun D doc pm an cdv ct us ks l1 l2 => match us, ks, l1, l2 with | [_, _], [_], _, _ => ⟨_, _, _, _, _, _, rfl, rfl, rfl⟩)
  have mC := PySem.W.mg_of X G aC
  have TL : LeC K csk := ⟨xL, saC, eC, tC, kC⟩
  have TI : IsC K csk := ⟨clC, gaC, ggC, eC, hcC, c2g, c3g, hmC⟩
  have TXF : XfC K csk := ⟨gaC, ggC, eC, hdC⟩
  have FI := fun_mk (st := sStuckI) lI cI kI
  have bI := FI.binds (ps := ["self", "word"]) fun _ _ _ _ _ _ us hl => match us, hl with | [_, _], _ => rfl
  have hxS := exm_of eC clC tC uC
  have hL := kit_re uL
  have TP : TxP K cpl := ⟨clcpl, nocpl_path, nocpl_term, nocpl_word, nocpl_parts, nocpl_waits⟩
  let A : Ad := ⟨cpl, cpa, cfu, cce, cpo, cpt, cno, cfr, cma, csk, cre⟩
  have TA : AllC K A := ⟨Owcpa, Owcfu, Owcce, Owcpo, Owcpt, nd⟩
  have nFN : cfr ≠ cno := fun z => TA.ne2.2.2.1 z.symm
  have hF : FormsOk K w fo := by
    unfold FormsOk forms
    refine List.forall_mem_cons.mpr ⟨formA l_FORMS klF e0 g0 v0, List.forall_mem_cons.mpr ⟨formA l_FORMS klF e1 g1 v1, List.forall_mem_cons.mpr ⟨formA l_FORMS klF e2 g2 v2, List.forall_mem_cons.mpr ⟨formA l_FORMS klF e3 g3 v3, List.forall_mem_cons.mpr ⟨formA l_FORMS klF e4 g4 v4, List.forall_mem_cons.mpr ⟨formA l_FORMS klF e5 g5 v5, List.forall_mem_cons.mpr ⟨formA l_FORMS klF e6 g6 v6, List.forall_mem_cons.mpr ⟨formA l_FORMS klF e7 g7 v7, List.forall_mem_cons.mpr ⟨formA l_FORMS klF e8 g8 v8, List.forall_mem_cons.mpr ⟨formA l_FORMS klF e9 g9 v9, List.forall_mem_cons.mpr ⟨formA l_FORMS klF e10 g10 v10, List.forall_mem_cons.mpr ⟨formA l_FORMS klF e11 g11 v11, List.forall_mem_cons.mpr ⟨formA l_FORMS klF e12 g12 v12, List.forall_mem_cons.mpr ⟨formA l_FORMS klF e13 g13 v13, List.forall_mem_cons.mpr ⟨formA l_FORMS klF e14 g14 v14, List.forall_mem_cons.mpr ⟨formA l_FORMS klF e15 g15 v15, List.forall_mem_cons.mpr ⟨formA l_FORMS klF e16 g16 v16, List.forall_mem_cons.mpr ⟨formA l_FORMS klF e17 g17 v17, List.forall_mem_cons.mpr ⟨formA l_FORMS klF e18 g18 v18, List.forall_mem_cons.mpr ⟨formA l_FORMS klF e19 g19 v19, List.forall_mem_cons.mpr ⟨formA l_FORMS klF e20 g20 v20, List.forall_mem_cons.mpr ⟨formA l_FORMS klF e21 g21 v21, List.forall_mem_cons.mpr ⟨formA l_FORMS klF e22 g22 v22, List.forall_mem_cons.mpr ⟨formA l_FORMS klF e23 g23 v23, List.forall_mem_cons.mpr ⟨formA l_FORMS klF e24 g24 v24, fun _ h => nomatch h⟩⟩⟩⟩⟩⟩⟩⟩⟩⟩⟩⟩⟩⟩⟩⟩⟩⟩⟩⟩⟩⟩⟩⟩⟩
  have hO : ∀ z ∈ opNs2, InOk K w oo z true ∧ KDct K w oo z (.int 2) := by
    unfold opNs2
    refine List.forall_mem_cons.mpr ⟨⟨in_ok l_OPS klO loO eo_plus, ⟨_, _, _, l_OPS, klO, eo_plus, ⟨_, rfl⟩⟩⟩, List.forall_mem_cons.mpr ⟨⟨in_ok l_OPS klO loO eo_minus, ⟨_, _, _, l_OPS, klO, eo_minus, ⟨_, rfl⟩⟩⟩, List.forall_mem_cons.mpr ⟨⟨in_ok l_OPS klO loO eo_times, ⟨_, _, _, l_OPS, klO, eo_times, ⟨_, rfl⟩⟩⟩, List.forall_mem_cons.mpr ⟨⟨in_ok l_OPS klO loO eo_joined, ⟨_, _, _, l_OPS, klO, eo_joined, ⟨_, rfl⟩⟩⟩, fun _ h => nomatch h⟩⟩⟩⟩
  have hNl : ∀ z ∈ opNs, InOk K w al z false := by
    unfold opNs
    refine List.forall_mem_cons.mpr ⟨in_ok l_LESSER_ACTIONS klL loL nl_plus, List.forall_mem_cons.mpr ⟨in_ok l_LESSER_ACTIONS klL loL nl_minus, List.forall_mem_cons.mpr ⟨in_ok l_LESSER_ACTIONS klL loL nl_times, List.forall_mem_cons.mpr ⟨in_ok l_LESSER_ACTIONS klL loL nl_less, List.forall_mem_cons.mpr ⟨in_ok l_LESSER_ACTIONS klL loL nl_joined, List.forall_mem_cons.mpr ⟨in_ok l_LESSER_ACTIONS klL loL nl_first, List.forall_mem_cons.mpr ⟨in_ok l_LESSER_ACTIONS klL loL nl_kind, fun _ h => nomatch h⟩⟩⟩⟩⟩⟩⟩
  refine ⟨PySem.W.fnOf "law" "law" (defArgs slaw) (defBody slaw) (defScope slaw) .none kV_law dc_law pm_law an_law cd_law ct_law, fun s v => .of_eq rfl, fun base _ _ => ?_⟩
  have H_next : Has l.prog w K mg base "_law_next" ["_law_dr"] 1 spNext := ⟨_, _, ok_next F_next, m_next, k_next, b_next⟩
  have H_draws : Has l.prog w K mg base "_law_draws" ["_law_cell"] 1 spDraws := ⟨_, _, ok_draws F_draws n_range, m_draws, k_draws, b_draws⟩
  have H_whole : Has l.prog w K mg base "is_whole" ["thing"] 1 (spWhole A) := ⟨_, _, ok_whole F_whole TA n_isinstance n_int n_bool, m_whole, k_whole, b_whole⟩
  have H_kindOf : Has l.prog w K mg base "kind_of" ["worth"] 1 (spKind A) := ⟨_, _, ok_kind F_kindOf TA n_isinstance n_int n_bool n_str m_Pair m_Fun m_Cell m_Point, m_kindOf, k_kindOf, b_kindOf⟩
  have H_shA : Has l.prog w K mg base "shown_alone" ["worth"] 2 (spShA A) := ⟨_, _, ok_shA F_shA n_str H_kindOf, m_shA, k_shA, b_shA⟩
  have H_shown : Has l.prog w K mg base "shown" ["worth"] 3 (spShown A) := ⟨_, _, ok_shown F_shown TA Txcpa n_isinstance m_Pair H_shA, m_shown, k_shown, b_shown⟩
  have H_unch : Has l.prog w K mg base "unchained" ["worth"] 1 (spUnch A) := ⟨_, _, ok_unch F_unch TA Txcpa n_isinstance m_Pair, m_unch, k_unch, b_unch⟩
  have H_whole2 : Has l.prog w K mg base "are_whole" ["one", "two"] 2 (spWhole2 A) := ⟨_, _, ok_whole2 F_whole2 H_whole, m_whole2, k_whole2, b_whole2⟩
  have H_bnum : Has l.prog w K mg base "bounded_number" ["number"] 1 spNum := ⟨_, _, ok_num F_bnum n_abs m_TOO_GREAT, m_bnum, k_bnum, b_bnum⟩
  have H_btext : Has l.prog w K mg base "bounded_text" ["text"] 1 (fun _ _ _ _ => False) := ⟨_, _, fals, m_btext, k_btext, b_btext⟩
  have hOpT : OpTab l.prog w K mg base A aw := by
    unfold OpTab opNs
    refine List.forall_mem_cons.mpr ⟨⟨_, ⟨_, _, _, l_ACTIONS_worths, klW, ew_plus, rfl⟩, hold_of (FnOk.mono (toX (ok_plus F_plus H_whole2 H_bnum)) (by decide)) k_plus b_plus⟩, List.forall_mem_cons.mpr ⟨⟨_, ⟨_, _, _, l_ACTIONS_worths, klW, ew_minus, rfl⟩, hold_of (FnOk.mono (toX (ok_minus F_minus H_whole2 H_bnum)) (by decide)) k_minus b_minus⟩, List.forall_mem_cons.mpr ⟨⟨_, ⟨_, _, _, l_ACTIONS_worths, klW, ew_times, rfl⟩, hold_of (FnOk.mono (toX (ok_times F_times H_whole2 H_bnum)) (by decide)) k_times b_times⟩, List.forall_mem_cons.mpr ⟨⟨_, ⟨_, _, _, l_ACTIONS_worths, klW, ew_less, rfl⟩, hold_of (FnOk.mono (toX (ok_less F_less H_whole2)) (by decide)) k_less b_less⟩, List.forall_mem_cons.mpr ⟨⟨_, ⟨_, _, _, l_ACTIONS_worths, klW, ew_joined, rfl⟩, hold_of (FnOk.mono (toX (ok_join F_join TA n_isinstance n_str n_len H_btext)) (by decide)) k_join b_join⟩, List.forall_mem_cons.mpr ⟨⟨_, ⟨_, _, _, l_ACTIONS_worths, klW, ew_first, rfl⟩, hold_of (FnOk.mono (toX (ok_first F_first TA n_isinstance m_Pair)) (by decide)) k_first b_first⟩, List.forall_mem_cons.mpr ⟨⟨_, ⟨_, _, _, l_ACTIONS_worths, klW, ew_kind, rfl⟩, hold_of (FnOk.mono (toX (ok_kindW F_kindW H_kindOf)) (by decide)) k_kindW b_kindW⟩, fun _ h => nomatch h⟩⟩⟩⟩⟩⟩⟩
  have H_opW : HX l.prog w K mg base "op_worth" ["word", "worths"] 10 (upS (spOpW A)) := ⟨_, _, upOk (ok_opW F_opW m_ACTIONS_worths hOpT), m_opW, k_opW, b_opW⟩
  have C_pa : HasC l.prog w K mg base "Pair" cpa ["self", "first", "rest"] 1 (spIni cpa ["first", "rest"]) := ⟨_, _, ok_pair F_Mpainit Txcpa, Mk_Mpainit, m_Pair, b_Mpainit⟩
  have C_fu : HasC l.prog w K mg base "Fun" cfu ["self", "place", "env"] 1 (spIni cfu ["place", "env"]) := ⟨_, _, ok_funD F_Dfun Txcfu, Mk_Dfun, m_Fun, b_Dfun⟩
  have C_ce : HasC l.prog w K mg base "Cell" cce ["self", "held"] 1 (spIni cce ["held"]) := ⟨_, _, ok_cellD F_Dcell Txcce, Mk_Dcell, m_Cell, b_Dcell⟩
  have C_po : HasC l.prog w K mg base "Point" cpo ["self", "held"] 1 (spIni cpo ["held"]) := ⟨_, _, ok_pointD F_Dpoint Txcpo, Mk_Dpoint, m_Point, b_Dpoint⟩
  have C_pt : HasC l.prog w K mg base "Part" cpt ["self", "held"] 1 (spIni cpt ["held"]) := ⟨_, _, ok_partD F_Dpart Txcpt, Mk_Dpart, m_Part, b_Dpart⟩
  have C_no : HasC l.prog w K mg base "Node" cno ["self", "frame", "outer"] 1 (spNode cno) := ⟨_, _, ok_node F_Mninit Txcno, Mk_Mninit, m_Node, b_Mninit⟩
  have C_fr : HasC l.prog w K mg base "HeapFrames" cfr ["self"] 1 (spFini cfr) := ⟨_, _, ok_fini F_Mfinit Txcfr, Mk_Mfinit, m_HeapFrames, b_Mfinit⟩
  have C_re : HasC l.prog w K mg base "Result" cre ["self", "kind", "worth", "output", "winds", "steps", "height"] 1 (spRI A) := ⟨_, _, ok_ri (A := A) F_Mrinit Txcre n_list, Mk_Mrinit, m_Result, b_Mrinit⟩
  have H_partsOf : Has l.prog w K mg base "parts_of" ["term"] 1 spPartsOf := ⟨_, _, ok_partsOf F_partsOf n_zip m_FORMS hF, m_partsOf, k_partsOf, b_partsOf⟩
  have H_placedP : Has l.prog w K mg base "placed_parts" ["path", "term"] 2 spPlaced := ⟨_, _, ok_placed F_placedP H_partsOf n_enumerate, m_placedP, k_placedP, b_placedP⟩
  have C_pl : HasC l.prog w K mg base "Place" cpl ["self", "path", "term"] 1 (spPI cpl) := ⟨_, _, ok_pinit F_Mpinit TP, Mk_Mpinit, m_Place, b_Mpinit⟩
  have H_waits : Has l.prog w K mg base "waits_for" ["place"] 1 (spWaits cpl) := ⟨_, _, ok_waits F_waits TP n_len m_WAITS_FOR_NONE m_WAITS_FOR_FIRST (fun H => sq_strs g_WAITS_FOR_NONE v_WAITS_FOR_NONE H) (fun H => sq_strs g_WAITS_FOR_FIRST v_WAITS_FOR_FIRST H), m_waits, k_waits, b_waits⟩
  have H_allP : Has l.prog w K mg base "all_places" ["term"] 4 (spAll cpl) := ⟨_, _, ok_all F_allP TP C_pl H_placedP H_waits, m_allP, k_allP, b_allP⟩
  have H_placed : Has l.prog w K mg base "placed" ["term"] 5 (spPlacedT cpl) := ⟨_, _, ok_placedT F_placed H_allP, m_placed, k_placed, b_placed⟩
  have H_Mpush : HasM l.prog w K mg base cfr "push" ["self", "frame"] 3 (spPush cfr cno) := ⟨_, _, ok_push F_Mpush nFN Txcfr C_no, Me_Mpush, b_Mpush⟩
  have H_Mpull : HasM l.prog w K mg base cfr "pull" ["self"] 1 (spPull cfr cno) := ⟨_, _, ok_pull F_Mpull nFN Txcfr Txcno, Me_Mpull, b_Mpull⟩
  have H_Mmany : HasM l.prog w K mg base cfr "many" ["self"] 1 (spMany cfr cno) := ⟨_, _, ok_many F_Mmany Txcfr Txcno, Me_Mmany, b_Mmany⟩
  have H_Mbegin : HasM l.prog w K mg base cma "begin" ["self", "place", "env"] 1 (spBegin cma) := ⟨_, _, ok_begin F_Mbegin Txcma, Me_Mbegin, b_Mbegin⟩
  have H_Mgive : HasM l.prog w K mg base cma "give" ["self", "worth"] 1 (spGive cma) := ⟨_, _, ok_give F_Mgive Txcma, Me_Mgive, b_Mgive⟩
  have H_Mend : HasM l.prog w K mg base cma "end" ["self", "kind", "worth"] 1 (spEnd cma) := ⟨_, _, ok_end F_Mend Txcma, Me_Mend, b_Mend⟩
  have H_Mfaulted : HasMX l.prog w K mg base cma "faulted" ["self", "worth"] 3 (spFault csk) := ⟨_, _, ok_fault F_Mfaulted TL mC nbC aI tI (ok_sinit FI n_RuntimeError vV) bI, Me_Mfaulted, b_Mfaulted⟩
  have H_Mact_more : HasMX l.prog w K mg base cma "act_more" ["self", "place", "env", "worths"] 3 (fun _ _ _ _ => False) := ⟨_, _, fals, Me_Mact_more, b_Mact_more⟩
  have H_Mback_to : HasMX l.prog w K mg base cma "back_to" ["self", "frame"] 3 (fun _ _ _ _ => False) := ⟨_, _, fals, Me_Mback_to, b_Mback_to⟩
  have MM : Mth l.prog w K mg base A := ⟨clcma, Txcma, Txcpl, H_Mbegin, H_Mgive, H_Mfaulted⟩
  have RR : Frm l.prog w K mg base A := ⟨clcfr, H_Mpush, H_Mpull, H_Mmany⟩
  have hLsT : LsTab l.prog w K mg base A al := by
    unfold LsTab lsNs
    refine List.forall_mem_cons.mpr ⟨⟨in_ok l_LESSER_ACTIONS klL loL el_pair, _, ⟨_, _, _, l_LESSER_ACTIONS, klL, el_pair, rfl⟩, hold_of (FnOk.mono (toX (ok_pairT (A := A) F_pairT C_pa)) (by decide)) k_pairT b_pairT⟩, List.forall_mem_cons.mpr ⟨⟨in_ok l_LESSER_ACTIONS klL loL el_tried, _, ⟨_, _, _, l_LESSER_ACTIONS, klL, el_tried, rfl⟩, hold_of (FnOk.mono (ok_tried F_tried TA n_isinstance n_str n_len m_OPS hO H_unch H_opW C_pa) (by decide)) k_tried b_tried⟩, List.forall_mem_cons.mpr ⟨⟨in_ok l_LESSER_ACTIONS klL loL el_wound, _, ⟨_, _, _, l_LESSER_ACTIONS, klL, el_wound, rfl⟩, hold_of (FnOk.mono (toX (ok_wound F_wound TA Txcma n_isinstance n_str H_whole)) (by decide)) k_wound b_wound⟩, List.forall_mem_cons.mpr ⟨⟨in_ok l_LESSER_ACTIONS klL loL el_point, _, ⟨_, _, _, l_LESSER_ACTIONS, klL, el_point, rfl⟩, hold_of (FnOk.mono (toX (ok_pointT (A := A) F_pointT C_po)) (by decide)) k_pointT b_pointT⟩, List.forall_mem_cons.mpr ⟨⟨in_ok l_LESSER_ACTIONS klL loL el_part, _, ⟨_, _, _, l_LESSER_ACTIONS, klL, el_part, rfl⟩, hold_of (FnOk.mono (toX (ok_partT (A := A) F_partT C_pt)) (by decide)) k_partT b_partT⟩, List.forall_mem_cons.mpr ⟨⟨in_ok l_LESSER_ACTIONS klL loL el_inside, _, ⟨_, _, _, l_LESSER_ACTIONS, klL, el_inside, rfl⟩, hold_of (FnOk.mono (toX (ok_inside F_inside TA Txcpo Txcpt n_isinstance m_Point m_Part)) (by decide)) k_inside b_inside⟩, fun _ h => nomatch h⟩⟩⟩⟩⟩⟩
  have H_Mop_told : HasMX l.prog w K mg base cma "op_told" ["self", "word", "worths"] 13 (upS (spT A)) := ⟨_, _, upOk (ok_told F_Mop_told m_LESSER_ACTIONS hLsT hNl H_opW), Me_Mop_told, b_Mop_told⟩
  have H_names : Has l.prog w K mg base "names_of" ["function"] 1 (spNames A) := ⟨_, _, ok_names F_names Txcfu Txcpl, m_names, k_names, b_names⟩
  have H_cenv : Has l.prog w K mg base "called_env" ["function", "handed"] 2 (spCEnv A) := ⟨_, _, ok_cenv F_cenv Txcfu Txcpl n_dict n_zip H_names, m_cenv, k_cenv, b_cenv⟩
  have hAcT : AcTab l.prog w K mg base A am := by
    unfold AcTab actNs
    refine List.forall_mem_cons.mpr ⟨⟨in_ok l_ACTIONS_machine klM loM em_num, _, ⟨_, _, _, l_ACTIONS_machine, klM, em_num, rfl⟩, hold_of (FnOk.mono (ok_lit F_lit MM) (by decide)) k_lit b_lit⟩, List.forall_mem_cons.mpr ⟨⟨in_ok l_ACTIONS_machine klM loM em_text, _, ⟨_, _, _, l_ACTIONS_machine, klM, em_text, rfl⟩, hold_of (FnOk.mono (ok_lit F_lit MM) (by decide)) k_lit b_lit⟩, List.forall_mem_cons.mpr ⟨⟨in_ok l_ACTIONS_machine klM loM em_yes, _, ⟨_, _, _, l_ACTIONS_machine, klM, em_yes, rfl⟩, hold_of (FnOk.mono (ok_yes F_yes MM) (by decide)) k_yes b_yes⟩, List.forall_mem_cons.mpr ⟨⟨in_ok l_ACTIONS_machine klM loM em_no, _, ⟨_, _, _, l_ACTIONS_machine, klM, em_no, rfl⟩, hold_of (FnOk.mono (ok_no F_no MM) (by decide)) k_no b_no⟩, List.forall_mem_cons.mpr ⟨⟨in_ok l_ACTIONS_machine klM loM em_none, _, ⟨_, _, _, l_ACTIONS_machine, klM, em_none, rfl⟩, hold_of (FnOk.mono (ok_none F_none MM) (by decide)) k_none b_none⟩, List.forall_mem_cons.mpr ⟨⟨in_ok l_ACTIONS_machine klM loM em_name, _, ⟨_, _, _, l_ACTIONS_machine, klM, em_name, rfl⟩, hold_of (FnOk.mono (ok_name F_name MM) (by decide)) k_name b_name⟩, List.forall_mem_cons.mpr ⟨⟨in_ok l_ACTIONS_machine klM loM em_fun, _, ⟨_, _, _, l_ACTIONS_machine, klM, em_fun, rfl⟩, hold_of (FnOk.mono (ok_funA F_funA MM C_fu) (by decide)) k_funA b_funA⟩, List.forall_mem_cons.mpr ⟨⟨in_ok l_ACTIONS_machine klM loM em_rec, _, ⟨_, _, _, l_ACTIONS_machine, klM, em_rec, rfl⟩, hold_of (FnOk.mono (ok_funA F_funA MM C_fu) (by decide)) k_funA b_funA⟩, List.forall_mem_cons.mpr ⟨⟨in_ok l_ACTIONS_machine klM loM em_call, _, ⟨_, _, _, l_ACTIONS_machine, klM, em_call, rfl⟩, hold_of (FnOk.mono (ok_call F_call MM TA Txcfu n_isinstance n_len m_Fun H_names H_cenv) (by decide)) k_call b_call⟩, List.forall_mem_cons.mpr ⟨⟨in_ok l_ACTIONS_machine klM loM em_let, _, ⟨_, _, _, l_ACTIONS_machine, klM, em_let, rfl⟩, hold_of (FnOk.mono (ok_let F_let MM) (by decide)) k_let b_let⟩, List.forall_mem_cons.mpr ⟨⟨in_ok l_ACTIONS_machine klM loM em_if, _, ⟨_, _, _, l_ACTIONS_machine, klM, em_if, rfl⟩, hold_of (FnOk.mono (ok_if F_if MM TA n_isinstance n_bool) (by decide)) k_if b_if⟩, List.forall_mem_cons.mpr ⟨⟨in_ok l_ACTIONS_machine klM loM em_op, _, ⟨_, _, _, l_ACTIONS_machine, klM, em_op, rfl⟩, hold_of (FnOk.mono (ok_op F_op MM (spT A) H_Mop_told n_list) (by decide)) k_op b_op⟩, List.forall_mem_cons.mpr ⟨⟨in_ok l_ACTIONS_machine klM loM em_cell, _, ⟨_, _, _, l_ACTIONS_machine, klM, em_cell, rfl⟩, hold_of (FnOk.mono (ok_cellA F_cellA MM C_ce) (by decide)) k_cellA b_cellA⟩, List.forall_mem_cons.mpr ⟨⟨in_ok l_ACTIONS_machine klM loM em_get, _, ⟨_, _, _, l_ACTIONS_machine, klM, em_get, rfl⟩, hold_of (FnOk.mono (ok_get F_get MM TA Txcce n_isinstance m_Cell) (by decide)) k_get b_get⟩, List.forall_mem_cons.mpr ⟨⟨in_ok l_ACTIONS_machine klM loM em_set, _, ⟨_, _, _, l_ACTIONS_machine, klM, em_set, rfl⟩, hold_of (FnOk.mono (ok_set F_set MM TA Txcce n_isinstance m_Cell) (by decide)) k_set b_set⟩, List.forall_mem_cons.mpr ⟨⟨in_ok l_ACTIONS_machine klM loM em_say, _, ⟨_, _, _, l_ACTIONS_machine, klM, em_say, rfl⟩, hold_of (FnOk.mono (ok_say F_say MM H_shown) (by decide)) k_say b_say⟩, fun _ h => nomatch h⟩⟩⟩⟩⟩⟩⟩⟩⟩⟩⟩⟩⟩⟩⟩⟩
  have H_wo : HX l.prog w K mg base "work_out" ["machine", "place", "env", "worths"] 4 (spWO A) := ⟨_, _, toX (ok_wo F_wo TA MM RR n_len), m_wo, k_wo, b_wo⟩
  have O_act := ok_act F_act MM m_ACTIONS_machine hAcT H_Mact_more
  have H_act : HX l.prog w K mg base "act" ["machine", "place", "env", "worths"] 15 (spAD A) := ⟨_, _, O_act, m_act, k_act, b_act⟩
  have H_actU : HX l.prog w K mg base "act" ["machine", "place", "env", "worths"] 15 (upS (spAD A)) := ⟨_, _, upOk O_act, m_act, k_act, b_act⟩
  have H_gb : HX l.prog w K mg base "go_back" ["machine"] 16 (upS (spGB A)) := ⟨_, _, upOk (ok_gb F_gb TA MM RR n_len H_Mend H_wo H_act H_Mback_to), m_gb, k_gb, b_gb⟩
  have H_ts : HX l.prog w K mg base "take_step" ["machine"] 17 (upS (spTS A)) := ⟨_, _, upOk (ok_ts F_ts TA MM RR n_max H_wo H_actU H_gb), m_ts, k_ts, b_ts⟩
  have H_adv : HX l.prog w K mg base "advance" ["machine", "many"] 18 (spAdv A) := ⟨_, _, ok_adv F_adv MM H_ts, m_adv, k_adv, b_adv⟩
  have H_ro : Has l.prog w K mg base "result_of" ["machine"] 3 (spRO A) := ⟨_, _, ok_ro F_ro MM C_re, m_ro, k_ro, b_ro⟩
  have H_ie : Has l.prog w K mg base "is_end" ["worth"] 1 (spIE A) := ⟨_, _, ok_ie F_ie TA Txcpa n_isinstance n_str m_Pair, m_ie, k_ie, b_ie⟩
  have C_ma : HasC l.prog w K mg base "LesserMachine" cma ["self", "term", "given", "frames"] 6 (spMI A) := ⟨_, _, ok_mi (A := A) F_Mminit Txcma TA.ne2.2.2.2.1 H_placed, Mk_Mminit, m_LesserMachine, b_Mminit⟩
  have H_rt : HD l.prog w K mg base "run_turned" ["term", "given", "most"] 19 [.int 200000] (spRT A) := ⟨_, _, ds_rt, ok_rt F_rt TA MM Txcre Txcpa C_ma C_fr H_adv H_ro H_ie C_re, m_rt, k_rt, b_rt, v_rt⟩
  have H_pairL : Has l.prog w K mg base "_law_pair" ["_law_one", "_law_two"] 1 spPairL := ⟨_, _, ok_pairL F_pairL, m_pairL, k_pairL, b_pairL⟩
  have H_endL : Has l.prog w K mg base "_law_end" ["_law_term"] 2 spEndL := ⟨_, _, ok_endL F_endL H_pairL, m_endL, k_endL, b_endL⟩
  have H_numL : Has l.prog w K mg base "_law_num" ["_law_dr"] 2 spNum' := ⟨_, _, ok_numL F_numL H_next, m_numL, k_numL, b_numL⟩
  have H_good : Has l.prog w K mg base "_law_good" ["_law_dr"] 3 spGood := ⟨_, _, ok_good F_good n_str H_next H_numL H_pairL, m_good, k_good, b_good⟩
  have H_stuckL : Has l.prog w K mg base "_law_stuck" ["_law_dr"] 3 spStuck := ⟨_, _, ok_stuckL F_stuckL H_next H_numL, m_stuckL, k_stuckL, b_stuckL⟩
  have H_is : Has l.prog w K mg base "_law_is" ["_law_told", "_law_text", "_law_winds", "_law_steps", "_law_output"] 4 (spIs A) := ⟨_, _, ok_is F_is Txcre H_shown, m_is, k_is, b_is⟩
  have H_asked : Has l.prog w K mg base "_law_asked" ["_law_term"] 20 (spAsked A) := ⟨_, _, ok_asked (S := csk) F_asked TA H_rt n_isinstance n_RuntimeError n_str mC hxS TI TXF nbC hL, m_asked, k_asked, b_asked⟩
  have H_loop : Has l.prog w K mg base "_law_loop" ["_law_dr"] 20 spLoop := ⟨_, _, ok_loop F_loop TA Txcre n_range n_str H_next H_endL H_rt C_pa H_is, m_loop, k_loop, b_loop⟩
  exact ok_law F_law TA m_TURNED_MOST n_range H_draws H_good H_endL H_rt H_is H_asked H_stuckL H_loop
theorem walk {l : PySem.W.OpenLaw} {q : Program} {loose : List Str} {XP : (Str → Option Value) → Heap → Prop} {YP : World → Heap → Prop} {d : DefRec} {K : Params → PySem.W.Frag} (hn : l.most = some 63) (hdf : d.params.defaults = [])
    (hY : ∀ (w : World) (h : Heap), YP w h → (K w.params).In h)
    (F : ∀ (w : World) (mg : Str → Option Value) (fa : Addr) (h : Heap), (K w.params).In h → h.Ns mainGlobals mg → mg d.name = some (.ref fa) →
      ∃ fd : FuncData, (∀ (s : Shared) (u : Value), BindsTo s fd ⟨[u], []⟩ [("_law_script", u)]) ∧ ∀ base : Heap, (K w.params).In base → base.Ns mainGlobals mg → FnOk l.prog w (K w.params) mg base CX0 21 fa fd ["_law_script"] (spLaw (K w.params))) :
    PySem.W.WalkO q loose XP YP l.row.toRowW d [] (fun f vs => PySem.call f vs) :=
  L2.walk_of (n := 63) (k := 21) (x := "_law_script") (CX := fun _ => CX0) (sp := fun w => spLaw (K w.params)) hn (by decide) hdf ⟨rfl, by decide, by decide⟩ hY F (fun _ _ a ns hl _ hS => ⟨a, ns, rfl, hS, hl, fun _ => rfl⟩) fun _ _ _ _ _ z => z
end Wp
set_option Elab.async false
set_option linter.all false
set_option maxRecDepth 100000
set_option maxHeartbeats 0
namespace Hx
open PySem PySem.Spec PyProof.Rows L2 Wp
theorem facts {l : PySem.W.OpenLaw} {w : World} {K : PySem.W.Frag} {h : Heap} {mg : Str → Option Value} {fa : Addr} (X : K.In h) (G : h.Ns mainGlobals mg) (hfa : mg "law" = some (.ref fa)) (c : Hb.Says bs fn ts w K) :
    ∃ fd : FuncData, (∀ (s : Shared) (v : Value), BindsTo s fd ⟨[v], []⟩ [("_law_script", v)]) ∧ ∀ base : Heap, K.In base → base.Ns mainGlobals mg → FnOk l.prog w K mg base CX0 21 fa fd ["_law_script"] (spLaw K) := by
  obtain ⟨es0, n0, kd0⟩ := c.tab 0 rfl
  obtain ⟨es1, n1, kd1⟩ := c.tab 1 rfl
  obtain ⟨es2, n2, kd2⟩ := c.tab 2 rfl
  obtain ⟨es3, n3, kd3⟩ := c.tab 3 rfl
  obtain ⟨es4, n4, kd4⟩ := c.tab 4 rfl
  obtain ⟨fd_next, F_next⟩ := c.def_ 0 rfl
  have k_next := F_next.kp
  obtain ⟨oc_next, od_next, kV_next, dc_next, pm_next, an_next, cd_next, ct_next, sl_next, e_next, l_next, c_next⟩ := (Hb.fun_of (x := "_law_next") (qual := "_law_next") (st := s_law_next) F_next).ex
  subst e_next
  obtain ⟨fd_draws, F_draws⟩ := c.def_ 1 rfl
  have k_draws := F_draws.kp
  obtain ⟨oc_draws, od_draws, kV_draws, dc_draws, pm_draws, an_draws, cd_draws, ct_draws, sl_draws, e_draws, l_draws, c_draws⟩ := (Hb.fun_of (x := "_law_draws") (qual := "_law_draws") (st := s_law_draws) F_draws).ex
  subst e_draws
  obtain ⟨fd_pairL, F_pairL⟩ := c.def_ 2 rfl
  have k_pairL := F_pairL.kp
  obtain ⟨oc_pairL, od_pairL, kV_pairL, dc_pairL, pm_pairL, an_pairL, cd_pairL, ct_pairL, sl_pairL, e_pairL, l_pairL, c_pairL⟩ := (Hb.fun_of (x := "_law_pair") (qual := "_law_pair") (st := s_law_pair) F_pairL).ex
  subst e_pairL
  obtain ⟨fd_endL, F_endL⟩ := c.def_ 3 rfl
  have k_endL := F_endL.kp
  obtain ⟨oc_endL, od_endL, kV_endL, dc_endL, pm_endL, an_endL, cd_endL, ct_endL, sl_endL, e_endL, l_endL, c_endL⟩ := (Hb.fun_of (x := "_law_end") (qual := "_law_end") (st := s_law_end) F_endL).ex
  subst e_endL
  obtain ⟨fd_numL, F_numL⟩ := c.def_ 4 rfl
  have k_numL := F_numL.kp
  obtain ⟨oc_numL, od_numL, kV_numL, dc_numL, pm_numL, an_numL, cd_numL, ct_numL, sl_numL, e_numL, l_numL, c_numL⟩ := (Hb.fun_of (x := "_law_num") (qual := "_law_num") (st := s_law_num) F_numL).ex
  subst e_numL
  obtain ⟨fd_good, F_good⟩ := c.def_ 5 rfl
  have k_good := F_good.kp
  obtain ⟨oc_good, od_good, kV_good, dc_good, pm_good, an_good, cd_good, ct_good, sl_good, e_good, l_good, c_good⟩ := (Hb.fun_of (x := "_law_good") (qual := "_law_good") (st := s_law_good) F_good).ex
  subst e_good
  obtain ⟨fd_stuckL, F_stuckL⟩ := c.def_ 6 rfl
  have k_stuckL := F_stuckL.kp
  obtain ⟨oc_stuckL, od_stuckL, kV_stuckL, dc_stuckL, pm_stuckL, an_stuckL, cd_stuckL, ct_stuckL, sl_stuckL, e_stuckL, l_stuckL, c_stuckL⟩ := (Hb.fun_of (x := "_law_stuck") (qual := "_law_stuck") (st := s_law_stuck) F_stuckL).ex
  subst e_stuckL
  obtain ⟨fd_asked, F_asked⟩ := c.def_ 7 rfl
  have k_asked := F_asked.kp
  obtain ⟨oc_asked, od_asked, kV_asked, dc_asked, pm_asked, an_asked, cd_asked, ct_asked, sl_asked, e_asked, l_asked, c_asked⟩ := (Hb.fun_of (x := "_law_asked") (qual := "_law_asked") (st := s_law_asked) F_asked).ex
  subst e_asked
  obtain ⟨fd_is, F_is⟩ := c.def_ 8 rfl
  have k_is := F_is.kp
  obtain ⟨oc_is, od_is, kV_is, dc_is, pm_is, an_is, cd_is, ct_is, sl_is, e_is, l_is, c_is⟩ := (Hb.fun_of (x := "_law_is") (qual := "_law_is") (st := s_law_is) F_is).ex
  subst e_is
  obtain ⟨fd_loop, F_loop⟩ := c.def_ 9 rfl
  have k_loop := F_loop.kp
  obtain ⟨oc_loop, od_loop, kV_loop, dc_loop, pm_loop, an_loop, cd_loop, ct_loop, sl_loop, e_loop, l_loop, c_loop⟩ := (Hb.fun_of (x := "_law_loop") (qual := "_law_loop") (st := s_law_loop) F_loop).ex
  subst e_loop
  obtain ⟨fd_law, F_law⟩ := c.def_ 10 rfl
  have k_law := F_law.kp
  obtain ⟨oc_law, od_law, kV_law, dc_law, pm_law, an_law, cd_law, ct_law, sl_law, e_law, l_law, c_law⟩ := (Hb.fun_of (x := "law") (qual := "law") (st := slaw) F_law).ex
  subst e_law
  obtain ⟨fd_whole, F_whole⟩ := c.def_ 11 rfl
  have k_whole := F_whole.kp
  obtain ⟨oc_whole, od_whole, kV_whole, dc_whole, pm_whole, an_whole, cd_whole, ct_whole, sl_whole, e_whole, l_whole, c_whole⟩ := (Hb.fun_of (x := "is_whole") (qual := "is_whole") (st := sis_whole) F_whole).ex
  subst e_whole
  obtain ⟨fd_kindOf, F_kindOf⟩ := c.def_ 12 rfl
  have k_kindOf := F_kindOf.kp
  obtain ⟨oc_kindOf, od_kindOf, kV_kindOf, dc_kindOf, pm_kindOf, an_kindOf, cd_kindOf, ct_kindOf, sl_kindOf, e_kindOf, l_kindOf, c_kindOf⟩ := (Hb.fun_of (x := "kind_of") (qual := "kind_of") (st := skind_of) F_kindOf).ex
  subst e_kindOf
  obtain ⟨fd_shA, F_shA⟩ := c.def_ 13 rfl
  have k_shA := F_shA.kp
  obtain ⟨oc_shA, od_shA, kV_shA, dc_shA, pm_shA, an_shA, cd_shA, ct_shA, sl_shA, e_shA, l_shA, c_shA⟩ := (Hb.fun_of (x := "shown_alone") (qual := "shown_alone") (st := sshown_alone) F_shA).ex
  subst e_shA
  obtain ⟨fd_shown, F_shown⟩ := c.def_ 14 rfl
  have k_shown := F_shown.kp
  obtain ⟨oc_shown, od_shown, kV_shown, dc_shown, pm_shown, an_shown, cd_shown, ct_shown, sl_shown, e_shown, l_shown, c_shown⟩ := (Hb.fun_of (x := "shown") (qual := "shown") (st := sshown) F_shown).ex
  subst e_shown
  obtain ⟨fd_unch, F_unch⟩ := c.def_ 15 rfl
  have k_unch := F_unch.kp
  obtain ⟨oc_unch, od_unch, kV_unch, dc_unch, pm_unch, an_unch, cd_unch, ct_unch, sl_unch, e_unch, l_unch, c_unch⟩ := (Hb.fun_of (x := "unchained") (qual := "unchained") (st := sunchained) F_unch).ex
  subst e_unch
  obtain ⟨fd_whole2, F_whole2⟩ := c.def_ 16 rfl
  have k_whole2 := F_whole2.kp
  obtain ⟨oc_whole2, od_whole2, kV_whole2, dc_whole2, pm_whole2, an_whole2, cd_whole2, ct_whole2, sl_whole2, e_whole2, l_whole2, c_whole2⟩ := (Hb.fun_of (x := "are_whole") (qual := "are_whole") (st := sare_whole) F_whole2).ex
  subst e_whole2
  obtain ⟨fd_bnum, F_bnum⟩ := c.def_ 17 rfl
  have k_bnum := F_bnum.kp
  obtain ⟨oc_bnum, od_bnum, kV_bnum, dc_bnum, pm_bnum, an_bnum, cd_bnum, ct_bnum, sl_bnum, e_bnum, l_bnum, c_bnum⟩ := (Hb.fun_of (x := "bounded_number") (qual := "bounded_number") (st := sbounded_number) F_bnum).ex
  subst e_bnum
  obtain ⟨fd_btext, F_btext⟩ := c.def_ 18 rfl
  have k_btext := F_btext.kp
  obtain ⟨oc_btext, od_btext, kV_btext, dc_btext, pm_btext, an_btext, cd_btext, ct_btext, sl_btext, e_btext, l_btext, c_btext⟩ := (Hb.fun_of (x := "bounded_text") (qual := "bounded_text") (st := sbounded_text) F_btext).ex
  subst e_btext
  obtain ⟨fd_plus, F_plus⟩ := c.def_ 19 rfl
  have k_plus := F_plus.kp
  obtain ⟨oc_plus, od_plus, kV_plus, dc_plus, pm_plus, an_plus, cd_plus, ct_plus, sl_plus, e_plus, l_plus, c_plus⟩ := (Hb.fun_of (x := "plus_worth") (qual := "plus_worth") (st := splus_worth) F_plus).ex
  subst e_plus
  obtain ⟨fd_minus, F_minus⟩ := c.def_ 20 rfl
  have k_minus := F_minus.kp
  obtain ⟨oc_minus, od_minus, kV_minus, dc_minus, pm_minus, an_minus, cd_minus, ct_minus, sl_minus, e_minus, l_minus, c_minus⟩ := (Hb.fun_of (x := "minus_worth") (qual := "minus_worth") (st := sminus_worth) F_minus).ex
  subst e_minus
  obtain ⟨fd_times, F_times⟩ := c.def_ 21 rfl
  have k_times := F_times.kp
  obtain ⟨oc_times, od_times, kV_times, dc_times, pm_times, an_times, cd_times, ct_times, sl_times, e_times, l_times, c_times⟩ := (Hb.fun_of (x := "times_worth") (qual := "times_worth") (st := stimes_worth) F_times).ex
  subst e_times
  obtain ⟨fd_less, F_less⟩ := c.def_ 22 rfl
  have k_less := F_less.kp
  obtain ⟨oc_less, od_less, kV_less, dc_less, pm_less, an_less, cd_less, ct_less, sl_less, e_less, l_less, c_less⟩ := (Hb.fun_of (x := "less_worth") (qual := "less_worth") (st := sless_worth) F_less).ex
  subst e_less
  obtain ⟨fd_join, F_join⟩ := c.def_ 23 rfl
  have k_join := F_join.kp
  obtain ⟨oc_join, od_join, kV_join, dc_join, pm_join, an_join, cd_join, ct_join, sl_join, e_join, l_join, c_join⟩ := (Hb.fun_of (x := "joined_worth") (qual := "joined_worth") (st := sjoined_worth) F_join).ex
  subst e_join
  obtain ⟨fd_first, F_first⟩ := c.def_ 24 rfl
  have k_first := F_first.kp
  obtain ⟨oc_first, od_first, kV_first, dc_first, pm_first, an_first, cd_first, ct_first, sl_first, e_first, l_first, c_first⟩ := (Hb.fun_of (x := "first_worth") (qual := "first_worth") (st := sfirst_worth) F_first).ex
  subst e_first
  obtain ⟨fd_kindW, F_kindW⟩ := c.def_ 25 rfl
  have k_kindW := F_kindW.kp
  obtain ⟨oc_kindW, od_kindW, kV_kindW, dc_kindW, pm_kindW, an_kindW, cd_kindW, ct_kindW, sl_kindW, e_kindW, l_kindW, c_kindW⟩ := (Hb.fun_of (x := "kind_worth") (qual := "kind_worth") (st := skind_worth) F_kindW).ex
  subst e_kindW
  obtain ⟨fd_opW, F_opW⟩ := c.def_ 26 rfl
  have k_opW := F_opW.kp
  obtain ⟨oc_opW, od_opW, kV_opW, dc_opW, pm_opW, an_opW, cd_opW, ct_opW, sl_opW, e_opW, l_opW, c_opW⟩ := (Hb.fun_of (x := "op_worth") (qual := "op_worth") (st := sop_worth) F_opW).ex
  subst e_opW
  obtain ⟨fd_partsOf, F_partsOf⟩ := c.def_ 27 rfl
  have k_partsOf := F_partsOf.kp
  obtain ⟨oc_partsOf, od_partsOf, kV_partsOf, dc_partsOf, pm_partsOf, an_partsOf, cd_partsOf, ct_partsOf, sl_partsOf, e_partsOf, l_partsOf, c_partsOf⟩ := (Hb.fun_of (x := "parts_of") (qual := "parts_of") (st := sparts_of) F_partsOf).ex
  subst e_partsOf
  obtain ⟨fd_placedP, F_placedP⟩ := c.def_ 28 rfl
  have k_placedP := F_placedP.kp
  obtain ⟨oc_placedP, od_placedP, kV_placedP, dc_placedP, pm_placedP, an_placedP, cd_placedP, ct_placedP, sl_placedP, e_placedP, l_placedP, c_placedP⟩ := (Hb.fun_of (x := "placed_parts") (qual := "placed_parts") (st := splaced_parts) F_placedP).ex
  subst e_placedP
  obtain ⟨fd_waits, F_waits⟩ := c.def_ 29 rfl
  have k_waits := F_waits.kp
  obtain ⟨oc_waits, od_waits, kV_waits, dc_waits, pm_waits, an_waits, cd_waits, ct_waits, sl_waits, e_waits, l_waits, c_waits⟩ := (Hb.fun_of (x := "waits_for") (qual := "waits_for") (st := swaits_for) F_waits).ex
  subst e_waits
  obtain ⟨fd_allP, F_allP⟩ := c.def_ 30 rfl
  have k_allP := F_allP.kp
  obtain ⟨oc_allP, od_allP, kV_allP, dc_allP, pm_allP, an_allP, cd_allP, ct_allP, sl_allP, e_allP, l_allP, c_allP⟩ := (Hb.fun_of (x := "all_places") (qual := "all_places") (st := sall_places) F_allP).ex
  subst e_allP
  obtain ⟨fd_placed, F_placed⟩ := c.def_ 31 rfl
  have k_placed := F_placed.kp
  obtain ⟨oc_placed, od_placed, kV_placed, dc_placed, pm_placed, an_placed, cd_placed, ct_placed, sl_placed, e_placed, l_placed, c_placed⟩ := (Hb.fun_of (x := "placed") (qual := "placed") (st := splaced) F_placed).ex
  subst e_placed
  obtain ⟨fd_wo, F_wo⟩ := c.def_ 32 rfl
  have k_wo := F_wo.kp
  obtain ⟨oc_wo, od_wo, kV_wo, dc_wo, pm_wo, an_wo, cd_wo, ct_wo, sl_wo, e_wo, l_wo, c_wo⟩ := (Hb.fun_of (x := "work_out") (qual := "work_out") (st := swork_out) F_wo).ex
  subst e_wo
  obtain ⟨fd_ts, F_ts⟩ := c.def_ 33 rfl
  have k_ts := F_ts.kp
  obtain ⟨oc_ts, od_ts, kV_ts, dc_ts, pm_ts, an_ts, cd_ts, ct_ts, sl_ts, e_ts, l_ts, c_ts⟩ := (Hb.fun_of (x := "take_step") (qual := "take_step") (st := stake_step) F_ts).ex
  subst e_ts
  obtain ⟨fd_act, F_act⟩ := c.def_ 34 rfl
  have k_act := F_act.kp
  obtain ⟨oc_act, od_act, kV_act, dc_act, pm_act, an_act, cd_act, ct_act, sl_act, e_act, l_act, c_act⟩ := (Hb.fun_of (x := "act") (qual := "act") (st := sact) F_act).ex
  subst e_act
  obtain ⟨fd_gb, F_gb⟩ := c.def_ 35 rfl
  have k_gb := F_gb.kp
  obtain ⟨oc_gb, od_gb, kV_gb, dc_gb, pm_gb, an_gb, cd_gb, ct_gb, sl_gb, e_gb, l_gb, c_gb⟩ := (Hb.fun_of (x := "go_back") (qual := "go_back") (st := sgo_back) F_gb).ex
  subst e_gb
  obtain ⟨fd_adv, F_adv⟩ := c.def_ 36 rfl
  have k_adv := F_adv.kp
  obtain ⟨oc_adv, od_adv, kV_adv, dc_adv, pm_adv, an_adv, cd_adv, ct_adv, sl_adv, e_adv, l_adv, c_adv⟩ := (Hb.fun_of (x := "advance") (qual := "advance") (st := sadvance) F_adv).ex
  subst e_adv
  obtain ⟨fd_ro, F_ro⟩ := c.def_ 37 rfl
  have k_ro := F_ro.kp
  obtain ⟨oc_ro, od_ro, kV_ro, dc_ro, pm_ro, an_ro, cd_ro, ct_ro, sl_ro, e_ro, l_ro, c_ro⟩ := (Hb.fun_of (x := "result_of") (qual := "result_of") (st := sresult_of) F_ro).ex
  subst e_ro
  obtain ⟨fd_lit, F_lit⟩ := c.def_ 38 rfl
  have k_lit := F_lit.kp
  obtain ⟨oc_lit, od_lit, kV_lit, dc_lit, pm_lit, an_lit, cd_lit, ct_lit, sl_lit, e_lit, l_lit, c_lit⟩ := (Hb.fun_of (x := "act_literal") (qual := "act_literal") (st := sact_literal) F_lit).ex
  subst e_lit
  obtain ⟨fd_yes, F_yes⟩ := c.def_ 39 rfl
  have k_yes := F_yes.kp
  obtain ⟨oc_yes, od_yes, kV_yes, dc_yes, pm_yes, an_yes, cd_yes, ct_yes, sl_yes, e_yes, l_yes, c_yes⟩ := (Hb.fun_of (x := "act_yes") (qual := "act_yes") (st := sact_yes) F_yes).ex
  subst e_yes
  obtain ⟨fd_no, F_no⟩ := c.def_ 40 rfl
  have k_no := F_no.kp
  obtain ⟨oc_no, od_no, kV_no, dc_no, pm_no, an_no, cd_no, ct_no, sl_no, e_no, l_no, c_no⟩ := (Hb.fun_of (x := "act_no") (qual := "act_no") (st := sact_no) F_no).ex
  subst e_no
  obtain ⟨fd_none, F_none⟩ := c.def_ 41 rfl
  have k_none := F_none.kp
  obtain ⟨oc_none, od_none, kV_none, dc_none, pm_none, an_none, cd_none, ct_none, sl_none, e_none, l_none, c_none⟩ := (Hb.fun_of (x := "act_none") (qual := "act_none") (st := sact_none) F_none).ex
  subst e_none
  obtain ⟨fd_name, F_name⟩ := c.def_ 42 rfl
  have k_name := F_name.kp
  obtain ⟨oc_name, od_name, kV_name, dc_name, pm_name, an_name, cd_name, ct_name, sl_name, e_name, l_name, c_name⟩ := (Hb.fun_of (x := "act_name") (qual := "act_name") (st := sact_name) F_name).ex
  subst e_name
  obtain ⟨fd_funA, F_funA⟩ := c.def_ 43 rfl
  have k_funA := F_funA.kp
  obtain ⟨oc_funA, od_funA, kV_funA, dc_funA, pm_funA, an_funA, cd_funA, ct_funA, sl_funA, e_funA, l_funA, c_funA⟩ := (Hb.fun_of (x := "act_fun") (qual := "act_fun") (st := sact_fun) F_funA).ex
  subst e_funA
  obtain ⟨fd_names, F_names⟩ := c.def_ 44 rfl
  have k_names := F_names.kp
  obtain ⟨oc_names, od_names, kV_names, dc_names, pm_names, an_names, cd_names, ct_names, sl_names, e_names, l_names, c_names⟩ := (Hb.fun_of (x := "names_of") (qual := "names_of") (st := snames_of) F_names).ex
  subst e_names
  obtain ⟨fd_cenv, F_cenv⟩ := c.def_ 45 rfl
  have k_cenv := F_cenv.kp
  obtain ⟨oc_cenv, od_cenv, kV_cenv, dc_cenv, pm_cenv, an_cenv, cd_cenv, ct_cenv, sl_cenv, e_cenv, l_cenv, c_cenv⟩ := (Hb.fun_of (x := "called_env") (qual := "called_env") (st := scalled_env) F_cenv).ex
  subst e_cenv
  obtain ⟨fd_call, F_call⟩ := c.def_ 46 rfl
  have k_call := F_call.kp
  obtain ⟨oc_call, od_call, kV_call, dc_call, pm_call, an_call, cd_call, ct_call, sl_call, e_call, l_call, c_call⟩ := (Hb.fun_of (x := "act_call") (qual := "act_call") (st := sact_call) F_call).ex
  subst e_call
  obtain ⟨fd_let, F_let⟩ := c.def_ 47 rfl
  have k_let := F_let.kp
  obtain ⟨oc_let, od_let, kV_let, dc_let, pm_let, an_let, cd_let, ct_let, sl_let, e_let, l_let, c_let⟩ := (Hb.fun_of (x := "act_let") (qual := "act_let") (st := sact_let) F_let).ex
  subst e_let
  obtain ⟨fd_if, F_if⟩ := c.def_ 48 rfl
  have k_if := F_if.kp
  obtain ⟨oc_if, od_if, kV_if, dc_if, pm_if, an_if, cd_if, ct_if, sl_if, e_if, l_if, c_if⟩ := (Hb.fun_of (x := "act_if") (qual := "act_if") (st := sact_if) F_if).ex
  subst e_if
  obtain ⟨fd_op, F_op⟩ := c.def_ 49 rfl
  have k_op := F_op.kp
  obtain ⟨oc_op, od_op, kV_op, dc_op, pm_op, an_op, cd_op, ct_op, sl_op, e_op, l_op, c_op⟩ := (Hb.fun_of (x := "act_op") (qual := "act_op") (st := sact_op) F_op).ex
  subst e_op
  obtain ⟨fd_cellA, F_cellA⟩ := c.def_ 50 rfl
  have k_cellA := F_cellA.kp
  obtain ⟨oc_cellA, od_cellA, kV_cellA, dc_cellA, pm_cellA, an_cellA, cd_cellA, ct_cellA, sl_cellA, e_cellA, l_cellA, c_cellA⟩ := (Hb.fun_of (x := "act_cell") (qual := "act_cell") (st := sact_cell) F_cellA).ex
  subst e_cellA
  obtain ⟨fd_get, F_get⟩ := c.def_ 51 rfl
  have k_get := F_get.kp
  obtain ⟨oc_get, od_get, kV_get, dc_get, pm_get, an_get, cd_get, ct_get, sl_get, e_get, l_get, c_get⟩ := (Hb.fun_of (x := "act_get") (qual := "act_get") (st := sact_get) F_get).ex
  subst e_get
  obtain ⟨fd_set, F_set⟩ := c.def_ 52 rfl
  have k_set := F_set.kp
  obtain ⟨oc_set, od_set, kV_set, dc_set, pm_set, an_set, cd_set, ct_set, sl_set, e_set, l_set, c_set⟩ := (Hb.fun_of (x := "act_set") (qual := "act_set") (st := sact_set) F_set).ex
  subst e_set
  obtain ⟨fd_say, F_say⟩ := c.def_ 53 rfl
  have k_say := F_say.kp
  obtain ⟨oc_say, od_say, kV_say, dc_say, pm_say, an_say, cd_say, ct_say, sl_say, e_say, l_say, c_say⟩ := (Hb.fun_of (x := "act_say") (qual := "act_say") (st := sact_say) F_say).ex
  subst e_say
  obtain ⟨fd_pairT, F_pairT⟩ := c.def_ 54 rfl
  have k_pairT := F_pairT.kp
  obtain ⟨oc_pairT, od_pairT, kV_pairT, dc_pairT, pm_pairT, an_pairT, cd_pairT, ct_pairT, sl_pairT, e_pairT, l_pairT, c_pairT⟩ := (Hb.fun_of (x := "pair_told") (qual := "pair_told") (st := spair_told) F_pairT).ex
  subst e_pairT
  obtain ⟨fd_tried, F_tried⟩ := c.def_ 55 rfl
  have k_tried := F_tried.kp
  obtain ⟨oc_tried, od_tried, kV_tried, dc_tried, pm_tried, an_tried, cd_tried, ct_tried, sl_tried, e_tried, l_tried, c_tried⟩ := (Hb.fun_of (x := "tried_told") (qual := "tried_told") (st := stried_told) F_tried).ex
  subst e_tried
  obtain ⟨fd_wound, F_wound⟩ := c.def_ 56 rfl
  have k_wound := F_wound.kp
  obtain ⟨oc_wound, od_wound, kV_wound, dc_wound, pm_wound, an_wound, cd_wound, ct_wound, sl_wound, e_wound, l_wound, c_wound⟩ := (Hb.fun_of (x := "wound_told") (qual := "wound_told") (st := swound_told) F_wound).ex
  subst e_wound
  obtain ⟨fd_pointT, F_pointT⟩ := c.def_ 57 rfl
  have k_pointT := F_pointT.kp
  obtain ⟨oc_pointT, od_pointT, kV_pointT, dc_pointT, pm_pointT, an_pointT, cd_pointT, ct_pointT, sl_pointT, e_pointT, l_pointT, c_pointT⟩ := (Hb.fun_of (x := "point_told") (qual := "point_told") (st := spoint_told) F_pointT).ex
  subst e_pointT
  obtain ⟨fd_partT, F_partT⟩ := c.def_ 58 rfl
  have k_partT := F_partT.kp
  obtain ⟨oc_partT, od_partT, kV_partT, dc_partT, pm_partT, an_partT, cd_partT, ct_partT, sl_partT, e_partT, l_partT, c_partT⟩ := (Hb.fun_of (x := "part_told") (qual := "part_told") (st := spart_told) F_partT).ex
  subst e_partT
  obtain ⟨fd_inside, F_inside⟩ := c.def_ 59 rfl
  have k_inside := F_inside.kp
  obtain ⟨oc_inside, od_inside, kV_inside, dc_inside, pm_inside, an_inside, cd_inside, ct_inside, sl_inside, e_inside, l_inside, c_inside⟩ := (Hb.fun_of (x := "inside_told") (qual := "inside_told") (st := sinside_told) F_inside).ex
  subst e_inside
  obtain ⟨fd_ie, F_ie⟩ := c.def_ 60 rfl
  have k_ie := F_ie.kp
  obtain ⟨oc_ie, od_ie, kV_ie, dc_ie, pm_ie, an_ie, cd_ie, ct_ie, sl_ie, e_ie, l_ie, c_ie⟩ := (Hb.fun_of (x := "is_end") (qual := "is_end") (st := sis_end) F_ie).ex
  subst e_ie
  obtain ⟨fd_Mpinit, F_Mpinit⟩ := c.def_ 61 rfl
  have k_Mpinit := F_Mpinit.kp
  obtain ⟨oc_Mpinit, od_Mpinit, kV_Mpinit, dc_Mpinit, pm_Mpinit, an_Mpinit, cd_Mpinit, ct_Mpinit, sl_Mpinit, e_Mpinit, l_Mpinit, c_Mpinit⟩ := (Hb.fun_of (x := "__init__") (qual := "Place.__init__") (st := sPlace___init__) F_Mpinit).ex
  subst e_Mpinit
  obtain ⟨fd_Mpainit, F_Mpainit⟩ := c.def_ 62 rfl
  have k_Mpainit := F_Mpainit.kp
  obtain ⟨oc_Mpainit, od_Mpainit, kV_Mpainit, dc_Mpainit, pm_Mpainit, an_Mpainit, cd_Mpainit, ct_Mpainit, sl_Mpainit, e_Mpainit, l_Mpainit, c_Mpainit⟩ := (Hb.fun_of (x := "__init__") (qual := "Pair.__init__") (st := sPair___init__) F_Mpainit).ex
  subst e_Mpainit
  obtain ⟨fd_Mninit, F_Mninit⟩ := c.def_ 63 rfl
  have k_Mninit := F_Mninit.kp
  obtain ⟨oc_Mninit, od_Mninit, kV_Mninit, dc_Mninit, pm_Mninit, an_Mninit, cd_Mninit, ct_Mninit, sl_Mninit, e_Mninit, l_Mninit, c_Mninit⟩ := (Hb.fun_of (x := "__init__") (qual := "Node.__init__") (st := sNode___init__) F_Mninit).ex
  subst e_Mninit
  obtain ⟨fd_Mfinit, F_Mfinit⟩ := c.def_ 64 rfl
  have k_Mfinit := F_Mfinit.kp
  obtain ⟨oc_Mfinit, od_Mfinit, kV_Mfinit, dc_Mfinit, pm_Mfinit, an_Mfinit, cd_Mfinit, ct_Mfinit, sl_Mfinit, e_Mfinit, l_Mfinit, c_Mfinit⟩ := (Hb.fun_of (x := "__init__") (qual := "HeapFrames.__init__") (st := sHeapFrames___init__) F_Mfinit).ex
  subst e_Mfinit
  obtain ⟨fd_Mminit, F_Mminit⟩ := c.def_ 65 rfl
  have k_Mminit := F_Mminit.kp
  obtain ⟨oc_Mminit, od_Mminit, kV_Mminit, dc_Mminit, pm_Mminit, an_Mminit, cd_Mminit, ct_Mminit, sl_Mminit, e_Mminit, l_Mminit, c_Mminit⟩ := (Hb.fun_of (x := "__init__") (qual := "Machine.__init__") (st := sMachine___init__) F_Mminit).ex
  subst e_Mminit
  obtain ⟨fd_Mrinit, F_Mrinit⟩ := c.def_ 66 rfl
  have k_Mrinit := F_Mrinit.kp
  obtain ⟨oc_Mrinit, od_Mrinit, kV_Mrinit, dc_Mrinit, pm_Mrinit, an_Mrinit, cd_Mrinit, ct_Mrinit, sl_Mrinit, e_Mrinit, l_Mrinit, c_Mrinit⟩ := (Hb.fun_of (x := "__init__") (qual := "Result.__init__") (st := sResult___init__) F_Mrinit).ex
  subst e_Mrinit
  obtain ⟨fd_Mpush, F_Mpush⟩ := c.def_ 67 rfl
  have k_Mpush := F_Mpush.kp
  obtain ⟨oc_Mpush, od_Mpush, kV_Mpush, dc_Mpush, pm_Mpush, an_Mpush, cd_Mpush, ct_Mpush, sl_Mpush, e_Mpush, l_Mpush, c_Mpush⟩ := (Hb.fun_of (x := "push") (qual := "HeapFrames.push") (st := sHeapFrames_push) F_Mpush).ex
  subst e_Mpush
  obtain ⟨fd_Mpull, F_Mpull⟩ := c.def_ 68 rfl
  have k_Mpull := F_Mpull.kp
  obtain ⟨oc_Mpull, od_Mpull, kV_Mpull, dc_Mpull, pm_Mpull, an_Mpull, cd_Mpull, ct_Mpull, sl_Mpull, e_Mpull, l_Mpull, c_Mpull⟩ := (Hb.fun_of (x := "pull") (qual := "HeapFrames.pull") (st := sHeapFrames_pull) F_Mpull).ex
  subst e_Mpull
  obtain ⟨fd_Mmany, F_Mmany⟩ := c.def_ 69 rfl
  have k_Mmany := F_Mmany.kp
  obtain ⟨oc_Mmany, od_Mmany, kV_Mmany, dc_Mmany, pm_Mmany, an_Mmany, cd_Mmany, ct_Mmany, sl_Mmany, e_Mmany, l_Mmany, c_Mmany⟩ := (Hb.fun_of (x := "many") (qual := "HeapFrames.many") (st := sHeapFrames_many) F_Mmany).ex
  subst e_Mmany
  obtain ⟨fd_Mbegin, F_Mbegin⟩ := c.def_ 70 rfl
  have k_Mbegin := F_Mbegin.kp
  obtain ⟨oc_Mbegin, od_Mbegin, kV_Mbegin, dc_Mbegin, pm_Mbegin, an_Mbegin, cd_Mbegin, ct_Mbegin, sl_Mbegin, e_Mbegin, l_Mbegin, c_Mbegin⟩ := (Hb.fun_of (x := "begin") (qual := "Machine.begin") (st := sMachine_begin) F_Mbegin).ex
  subst e_Mbegin
  obtain ⟨fd_Mgive, F_Mgive⟩ := c.def_ 71 rfl
  have k_Mgive := F_Mgive.kp
  obtain ⟨oc_Mgive, od_Mgive, kV_Mgive, dc_Mgive, pm_Mgive, an_Mgive, cd_Mgive, ct_Mgive, sl_Mgive, e_Mgive, l_Mgive, c_Mgive⟩ := (Hb.fun_of (x := "give") (qual := "Machine.give") (st := sMachine_give) F_Mgive).ex
  subst e_Mgive
  obtain ⟨fd_Mend, F_Mend⟩ := c.def_ 72 rfl
  have k_Mend := F_Mend.kp
  obtain ⟨oc_Mend, od_Mend, kV_Mend, dc_Mend, pm_Mend, an_Mend, cd_Mend, ct_Mend, sl_Mend, e_Mend, l_Mend, c_Mend⟩ := (Hb.fun_of (x := "end") (qual := "Machine.end") (st := sMachine_end) F_Mend).ex
  subst e_Mend
  obtain ⟨fd_Mfaulted, F_Mfaulted⟩ := c.def_ 73 rfl
  have k_Mfaulted := F_Mfaulted.kp
  obtain ⟨oc_Mfaulted, od_Mfaulted, kV_Mfaulted, dc_Mfaulted, pm_Mfaulted, an_Mfaulted, cd_Mfaulted, ct_Mfaulted, sl_Mfaulted, e_Mfaulted, l_Mfaulted, c_Mfaulted⟩ := (Hb.fun_of (x := "faulted") (qual := "Machine.faulted") (st := sMachine_faulted) F_Mfaulted).ex
  subst e_Mfaulted
  obtain ⟨fd_Mact_more, F_Mact_more⟩ := c.def_ 74 rfl
  have k_Mact_more := F_Mact_more.kp
  obtain ⟨oc_Mact_more, od_Mact_more, kV_Mact_more, dc_Mact_more, pm_Mact_more, an_Mact_more, cd_Mact_more, ct_Mact_more, sl_Mact_more, e_Mact_more, l_Mact_more, c_Mact_more⟩ := (Hb.fun_of (x := "act_more") (qual := "Machine.act_more") (st := (inClass (top 53) 6)) F_Mact_more).ex
  subst e_Mact_more
  obtain ⟨fd_Mback_to, F_Mback_to⟩ := c.def_ 75 rfl
  have k_Mback_to := F_Mback_to.kp
  obtain ⟨oc_Mback_to, od_Mback_to, kV_Mback_to, dc_Mback_to, pm_Mback_to, an_Mback_to, cd_Mback_to, ct_Mback_to, sl_Mback_to, e_Mback_to, l_Mback_to, c_Mback_to⟩ := (Hb.fun_of (x := "back_to") (qual := "Machine.back_to") (st := (inClass (top 53) 7)) F_Mback_to).ex
  subst e_Mback_to
  obtain ⟨fd_Mop_told, F_Mop_told⟩ := c.def_ 76 rfl
  have k_Mop_told := F_Mop_told.kp
  obtain ⟨oc_Mop_told, od_Mop_told, kV_Mop_told, dc_Mop_told, pm_Mop_told, an_Mop_told, cd_Mop_told, ct_Mop_told, sl_Mop_told, e_Mop_told, l_Mop_told, c_Mop_told⟩ := (Hb.fun_of (x := "op_told") (qual := "LesserMachine.op_told") (st := sLesserMachine_op_told) F_Mop_told).ex
  subst e_Mop_told
  obtain ⟨fd_F_Dfun, G_F_Dfun⟩ := c.def_ 78 rfl
  obtain ⟨fd_F_Dcell, G_F_Dcell⟩ := c.def_ 79 rfl
  obtain ⟨fd_F_Dpoint, G_F_Dpoint⟩ := c.def_ 80 rfl
  obtain ⟨fd_F_Dpart, G_F_Dpart⟩ := c.def_ 81 rfl
  obtain ⟨fd_FD_rt, G_FD_rt⟩ := c.def_ 82 rfl
  have w_xL := Hb.excB_ok (c.fact 370 rfl)
  obtain ⟨fd_I, F_I⟩ := c.def_ 77 rfl
  have k_I := F_I.kp
  obtain ⟨oc_I, od_I, kV_I, dc_I, pm_I, an_I, cd_I, ct_I, sl_I, e_I, l_I, c_I⟩ := (Hb.fun_of (x := "__init__") (qual := "Stuck.__init__") (st := sStuckI) F_I).ex
  subst e_I
  exact all_mk X G hfa
    (Hb.dec (c.fact 0 rfl) : PySem.W.nsIn K mainGlobals "_law_next" = some (some (.ref (He.ga K "_law_next"))))
    l_next
    c_next
    k_next
    (Hb.dec (c.fact 1 rfl) : PySem.W.nsIn K mainGlobals "_law_draws" = some (some (.ref (He.ga K "_law_draws"))))
    l_draws
    c_draws
    k_draws
    (Hb.dec (c.fact 2 rfl) : PySem.W.nsIn K mainGlobals "_law_pair" = some (some (.ref (He.ga K "_law_pair"))))
    l_pairL
    c_pairL
    k_pairL
    (Hb.dec (c.fact 3 rfl) : PySem.W.nsIn K mainGlobals "_law_end" = some (some (.ref (He.ga K "_law_end"))))
    l_endL
    c_endL
    k_endL
    (Hb.dec (c.fact 4 rfl) : PySem.W.nsIn K mainGlobals "_law_num" = some (some (.ref (He.ga K "_law_num"))))
    l_numL
    c_numL
    k_numL
    (Hb.dec (c.fact 5 rfl) : PySem.W.nsIn K mainGlobals "_law_good" = some (some (.ref (He.ga K "_law_good"))))
    l_good
    c_good
    k_good
    (Hb.dec (c.fact 6 rfl) : PySem.W.nsIn K mainGlobals "_law_stuck" = some (some (.ref (He.ga K "_law_stuck"))))
    l_stuckL
    c_stuckL
    k_stuckL
    (Hb.dec (c.fact 7 rfl) : PySem.W.nsIn K mainGlobals "_law_asked" = some (some (.ref (He.ga K "_law_asked"))))
    l_asked
    c_asked
    k_asked
    (Hb.dec (c.fact 8 rfl) : PySem.W.nsIn K mainGlobals "_law_is" = some (some (.ref (He.ga K "_law_is"))))
    l_is
    c_is
    k_is
    (Hb.dec (c.fact 9 rfl) : PySem.W.nsIn K mainGlobals "_law_loop" = some (some (.ref (He.ga K "_law_loop"))))
    l_loop
    c_loop
    k_loop
    (Hb.dec (c.fact 10 rfl) : PySem.W.nsIn K mainGlobals "law" = some (some (.ref (He.ga K "law"))))
    l_law
    c_law
    k_law
    (Hb.dec (c.fact 11 rfl) : PySem.W.nsIn K mainGlobals "is_whole" = some (some (.ref (He.ga K "is_whole"))))
    l_whole
    c_whole
    k_whole
    (Hb.dec (c.fact 12 rfl) : PySem.W.nsIn K mainGlobals "kind_of" = some (some (.ref (He.ga K "kind_of"))))
    l_kindOf
    c_kindOf
    k_kindOf
    (Hb.dec (c.fact 13 rfl) : PySem.W.nsIn K mainGlobals "shown_alone" = some (some (.ref (He.ga K "shown_alone"))))
    l_shA
    c_shA
    k_shA
    (Hb.dec (c.fact 14 rfl) : PySem.W.nsIn K mainGlobals "shown" = some (some (.ref (He.ga K "shown"))))
    l_shown
    c_shown
    k_shown
    (Hb.dec (c.fact 15 rfl) : PySem.W.nsIn K mainGlobals "unchained" = some (some (.ref (He.ga K "unchained"))))
    l_unch
    c_unch
    k_unch
    (Hb.dec (c.fact 16 rfl) : PySem.W.nsIn K mainGlobals "are_whole" = some (some (.ref (He.ga K "are_whole"))))
    l_whole2
    c_whole2
    k_whole2
    (Hb.dec (c.fact 17 rfl) : PySem.W.nsIn K mainGlobals "bounded_number" = some (some (.ref (He.ga K "bounded_number"))))
    l_bnum
    c_bnum
    k_bnum
    (Hb.dec (c.fact 18 rfl) : PySem.W.nsIn K mainGlobals "bounded_text" = some (some (.ref (He.ga K "bounded_text"))))
    l_btext
    c_btext
    k_btext
    (Hb.dec (c.fact 19 rfl) : PySem.W.nsIn K mainGlobals "plus_worth" = some (some (.ref (He.ga K "plus_worth"))))
    l_plus
    c_plus
    k_plus
    (Hb.dec (c.fact 20 rfl) : PySem.W.nsIn K mainGlobals "minus_worth" = some (some (.ref (He.ga K "minus_worth"))))
    l_minus
    c_minus
    k_minus
    (Hb.dec (c.fact 21 rfl) : PySem.W.nsIn K mainGlobals "times_worth" = some (some (.ref (He.ga K "times_worth"))))
    l_times
    c_times
    k_times
    (Hb.dec (c.fact 22 rfl) : PySem.W.nsIn K mainGlobals "less_worth" = some (some (.ref (He.ga K "less_worth"))))
    l_less
    c_less
    k_less
    (Hb.dec (c.fact 23 rfl) : PySem.W.nsIn K mainGlobals "joined_worth" = some (some (.ref (He.ga K "joined_worth"))))
    l_join
    c_join
    k_join
    (Hb.dec (c.fact 24 rfl) : PySem.W.nsIn K mainGlobals "first_worth" = some (some (.ref (He.ga K "first_worth"))))
    l_first
    c_first
    k_first
    (Hb.dec (c.fact 25 rfl) : PySem.W.nsIn K mainGlobals "kind_worth" = some (some (.ref (He.ga K "kind_worth"))))
    l_kindW
    c_kindW
    k_kindW
    (Hb.dec (c.fact 26 rfl) : PySem.W.nsIn K mainGlobals "op_worth" = some (some (.ref (He.ga K "op_worth"))))
    l_opW
    c_opW
    k_opW
    (Hb.dec (c.fact 27 rfl) : PySem.W.nsIn K mainGlobals "parts_of" = some (some (.ref (He.ga K "parts_of"))))
    l_partsOf
    c_partsOf
    k_partsOf
    (Hb.dec (c.fact 28 rfl) : PySem.W.nsIn K mainGlobals "placed_parts" = some (some (.ref (He.ga K "placed_parts"))))
    l_placedP
    c_placedP
    k_placedP
    (Hb.dec (c.fact 29 rfl) : PySem.W.nsIn K mainGlobals "waits_for" = some (some (.ref (He.ga K "waits_for"))))
    l_waits
    c_waits
    k_waits
    (Hb.dec (c.fact 30 rfl) : PySem.W.nsIn K mainGlobals "all_places" = some (some (.ref (He.ga K "all_places"))))
    l_allP
    c_allP
    k_allP
    (Hb.dec (c.fact 31 rfl) : PySem.W.nsIn K mainGlobals "placed" = some (some (.ref (He.ga K "placed"))))
    l_placed
    c_placed
    k_placed
    (Hb.dec (c.fact 32 rfl) : PySem.W.nsIn K mainGlobals "work_out" = some (some (.ref (He.ga K "work_out"))))
    l_wo
    c_wo
    k_wo
    (Hb.dec (c.fact 33 rfl) : PySem.W.nsIn K mainGlobals "take_step" = some (some (.ref (He.ga K "take_step"))))
    l_ts
    c_ts
    k_ts
    (Hb.dec (c.fact 34 rfl) : PySem.W.nsIn K mainGlobals "act" = some (some (.ref (He.ga K "act"))))
    l_act
    c_act
    k_act
    (Hb.dec (c.fact 35 rfl) : PySem.W.nsIn K mainGlobals "go_back" = some (some (.ref (He.ga K "go_back"))))
    l_gb
    c_gb
    k_gb
    (Hb.dec (c.fact 36 rfl) : PySem.W.nsIn K mainGlobals "advance" = some (some (.ref (He.ga K "advance"))))
    l_adv
    c_adv
    k_adv
    (Hb.dec (c.fact 37 rfl) : PySem.W.nsIn K mainGlobals "result_of" = some (some (.ref (He.ga K "result_of"))))
    l_ro
    c_ro
    k_ro
    (Hb.dec (c.fact 38 rfl) : PySem.W.nsIn K mainGlobals "act_literal" = some (some (.ref (He.ga K "act_literal"))))
    l_lit
    c_lit
    k_lit
    (Hb.dec (c.fact 39 rfl) : PySem.W.nsIn K mainGlobals "act_yes" = some (some (.ref (He.ga K "act_yes"))))
    l_yes
    c_yes
    k_yes
    (Hb.dec (c.fact 40 rfl) : PySem.W.nsIn K mainGlobals "act_no" = some (some (.ref (He.ga K "act_no"))))
    l_no
    c_no
    k_no
    (Hb.dec (c.fact 41 rfl) : PySem.W.nsIn K mainGlobals "act_none" = some (some (.ref (He.ga K "act_none"))))
    l_none
    c_none
    k_none
    (Hb.dec (c.fact 42 rfl) : PySem.W.nsIn K mainGlobals "act_name" = some (some (.ref (He.ga K "act_name"))))
    l_name
    c_name
    k_name
    (Hb.dec (c.fact 43 rfl) : PySem.W.nsIn K mainGlobals "act_fun" = some (some (.ref (He.ga K "act_fun"))))
    l_funA
    c_funA
    k_funA
    (Hb.dec (c.fact 44 rfl) : PySem.W.nsIn K mainGlobals "names_of" = some (some (.ref (He.ga K "names_of"))))
    l_names
    c_names
    k_names
    (Hb.dec (c.fact 45 rfl) : PySem.W.nsIn K mainGlobals "called_env" = some (some (.ref (He.ga K "called_env"))))
    l_cenv
    c_cenv
    k_cenv
    (Hb.dec (c.fact 46 rfl) : PySem.W.nsIn K mainGlobals "act_call" = some (some (.ref (He.ga K "act_call"))))
    l_call
    c_call
    k_call
    (Hb.dec (c.fact 47 rfl) : PySem.W.nsIn K mainGlobals "act_let" = some (some (.ref (He.ga K "act_let"))))
    l_let
    c_let
    k_let
    (Hb.dec (c.fact 48 rfl) : PySem.W.nsIn K mainGlobals "act_if" = some (some (.ref (He.ga K "act_if"))))
    l_if
    c_if
    k_if
    (Hb.dec (c.fact 49 rfl) : PySem.W.nsIn K mainGlobals "act_op" = some (some (.ref (He.ga K "act_op"))))
    l_op
    c_op
    k_op
    (Hb.dec (c.fact 50 rfl) : PySem.W.nsIn K mainGlobals "act_cell" = some (some (.ref (He.ga K "act_cell"))))
    l_cellA
    c_cellA
    k_cellA
    (Hb.dec (c.fact 51 rfl) : PySem.W.nsIn K mainGlobals "act_get" = some (some (.ref (He.ga K "act_get"))))
    l_get
    c_get
    k_get
    (Hb.dec (c.fact 52 rfl) : PySem.W.nsIn K mainGlobals "act_set" = some (some (.ref (He.ga K "act_set"))))
    l_set
    c_set
    k_set
    (Hb.dec (c.fact 53 rfl) : PySem.W.nsIn K mainGlobals "act_say" = some (some (.ref (He.ga K "act_say"))))
    l_say
    c_say
    k_say
    (Hb.dec (c.fact 54 rfl) : PySem.W.nsIn K mainGlobals "pair_told" = some (some (.ref (He.ga K "pair_told"))))
    l_pairT
    c_pairT
    k_pairT
    (Hb.dec (c.fact 55 rfl) : PySem.W.nsIn K mainGlobals "tried_told" = some (some (.ref (He.ga K "tried_told"))))
    l_tried
    c_tried
    k_tried
    (Hb.dec (c.fact 56 rfl) : PySem.W.nsIn K mainGlobals "wound_told" = some (some (.ref (He.ga K "wound_told"))))
    l_wound
    c_wound
    k_wound
    (Hb.dec (c.fact 57 rfl) : PySem.W.nsIn K mainGlobals "point_told" = some (some (.ref (He.ga K "point_told"))))
    l_pointT
    c_pointT
    k_pointT
    (Hb.dec (c.fact 58 rfl) : PySem.W.nsIn K mainGlobals "part_told" = some (some (.ref (He.ga K "part_told"))))
    l_partT
    c_partT
    k_partT
    (Hb.dec (c.fact 59 rfl) : PySem.W.nsIn K mainGlobals "inside_told" = some (some (.ref (He.ga K "inside_told"))))
    l_inside
    c_inside
    k_inside
    (Hb.dec (c.fact 60 rfl) : PySem.W.nsIn K mainGlobals "is_end" = some (some (.ref (He.ga K "is_end"))))
    l_ie
    c_ie
    k_ie
    (Hb.dec (c.fact 61 rfl) : PySem.W.nsIn K mainGlobals "len" = some none)
    (Hb.dec (c.fact 62 rfl) : PySem.W.nsIn K mainGlobals "range" = some none)
    (Hb.dec (c.fact 63 rfl) : PySem.W.nsIn K mainGlobals "list" = some none)
    (Hb.dec (c.fact 64 rfl) : PySem.W.nsIn K mainGlobals "isinstance" = some none)
    (Hb.dec (c.fact 65 rfl) : PySem.W.nsIn K mainGlobals "enumerate" = some none)
    (Hb.dec (c.fact 66 rfl) : PySem.W.nsIn K mainGlobals "zip" = some none)
    (Hb.dec (c.fact 67 rfl) : PySem.W.nsIn K mainGlobals "str" = some none)
    (Hb.dec (c.fact 68 rfl) : PySem.W.nsIn K mainGlobals "int" = some none)
    (Hb.dec (c.fact 69 rfl) : PySem.W.nsIn K mainGlobals "bool" = some none)
    (Hb.dec (c.fact 70 rfl) : PySem.W.nsIn K mainGlobals "abs" = some none)
    (Hb.dec (c.fact 71 rfl) : PySem.W.nsIn K mainGlobals "max" = some none)
    (Hb.dec (c.fact 72 rfl) : PySem.W.nsIn K mainGlobals "dict" = some none)
    (Hb.dec (c.fact 73 rfl) : PySem.W.nsIn K mainGlobals "RuntimeError" = some none)
    (Hb.dec (c.fact 74 rfl) : PySem.W.nsIn K mainGlobals "TOO_GREAT" = some (some (.int 1000000000000000000000000000000000000000000000000000000000000 (Hb.tk K mainGlobals "TOO_GREAT"))))
    (Hb.dec (c.fact 75 rfl) : PySem.W.nsIn K mainGlobals "TURNED_MOST" = some (some (.int 200000 (Hb.tk K mainGlobals "TURNED_MOST"))))
    (Hb.dec (c.fact 76 rfl) : PySem.W.nsIn K mainGlobals "FORMS" = some (some (.ref (He.ga K "FORMS"))))
    kd0.at_
    kd0.lit
    kd0.low
    (Hb.dec (c.fact 77 rfl) : PySem.W.nsIn K mainGlobals "OPS" = some (some (.ref (He.ga K "OPS"))))
    kd1.at_
    kd1.lit
    kd1.low
    (Hb.dec (c.fact 78 rfl) : PySem.W.nsIn K mainGlobals "ACTIONS_worths" = some (some (.ref (He.ga K "ACTIONS_worths"))))
    kd2.at_
    kd2.lit
    kd2.low
    (Hb.dec (c.fact 79 rfl) : PySem.W.nsIn K mainGlobals "ACTIONS_machine" = some (some (.ref (He.ga K "ACTIONS_machine"))))
    kd3.at_
    kd3.lit
    kd3.low
    (Hb.dec (c.fact 80 rfl) : PySem.W.nsIn K mainGlobals "LESSER_ACTIONS" = some (some (.ref (He.ga K "LESSER_ACTIONS"))))
    kd4.at_
    kd4.lit
    kd4.low
    (Hb.dec (c.fact 81 rfl) : PySem.W.nsIn K (He.ga K "FORMS") "num" = some (some (.ref (Hb.na K (He.ga K "FORMS") "num"))))
    (Hb.ob_ok (c.fact 82 rfl))
    (Hb.dec (c.fact 83 rfl) : tupS (Hb.ob K (Hb.na K (He.ga K "FORMS") "num")) = some (["number"] : List Str))
    (Hb.dec (c.fact 84 rfl) : PySem.W.nsIn K (He.ga K "FORMS") "text" = some (some (.ref (Hb.na K (He.ga K "FORMS") "text"))))
    (Hb.ob_ok (c.fact 85 rfl))
    (Hb.dec (c.fact 86 rfl) : tupS (Hb.ob K (Hb.na K (He.ga K "FORMS") "text")) = some (["text"] : List Str))
    (Hb.dec (c.fact 87 rfl) : PySem.W.nsIn K (He.ga K "FORMS") "yes" = some (some (.ref (Hb.na K (He.ga K "FORMS") "yes"))))
    (Hb.ob_ok (c.fact 88 rfl))
    (Hb.dec (c.fact 89 rfl) : tupS (Hb.ob K (Hb.na K (He.ga K "FORMS") "yes")) = some ([] : List Str))
    (Hb.dec (c.fact 90 rfl) : PySem.W.nsIn K (He.ga K "FORMS") "no" = some (some (.ref (Hb.na K (He.ga K "FORMS") "no"))))
    (Hb.ob_ok (c.fact 91 rfl))
    (Hb.dec (c.fact 92 rfl) : tupS (Hb.ob K (Hb.na K (He.ga K "FORMS") "no")) = some ([] : List Str))
    (Hb.dec (c.fact 93 rfl) : PySem.W.nsIn K (He.ga K "FORMS") "none" = some (some (.ref (Hb.na K (He.ga K "FORMS") "none"))))
    (Hb.ob_ok (c.fact 94 rfl))
    (Hb.dec (c.fact 95 rfl) : tupS (Hb.ob K (Hb.na K (He.ga K "FORMS") "none")) = some ([] : List Str))
    (Hb.dec (c.fact 96 rfl) : PySem.W.nsIn K (He.ga K "FORMS") "name" = some (some (.ref (Hb.na K (He.ga K "FORMS") "name"))))
    (Hb.ob_ok (c.fact 97 rfl))
    (Hb.dec (c.fact 98 rfl) : tupS (Hb.ob K (Hb.na K (He.ga K "FORMS") "name")) = some (["name"] : List Str))
    (Hb.dec (c.fact 99 rfl) : PySem.W.nsIn K (He.ga K "FORMS") "fun" = some (some (.ref (Hb.na K (He.ga K "FORMS") "fun"))))
    (Hb.ob_ok (c.fact 100 rfl))
    (Hb.dec (c.fact 101 rfl) : tupS (Hb.ob K (Hb.na K (He.ga K "FORMS") "fun")) = some (["binders", "part"] : List Str))
    (Hb.dec (c.fact 102 rfl) : PySem.W.nsIn K (He.ga K "FORMS") "rec" = some (some (.ref (Hb.na K (He.ga K "FORMS") "rec"))))
    (Hb.ob_ok (c.fact 103 rfl))
    (Hb.dec (c.fact 104 rfl) : tupS (Hb.ob K (Hb.na K (He.ga K "FORMS") "rec")) = some (["binder", "binders", "part"] : List Str))
    (Hb.dec (c.fact 105 rfl) : PySem.W.nsIn K (He.ga K "FORMS") "call" = some (some (.ref (Hb.na K (He.ga K "FORMS") "call"))))
    (Hb.ob_ok (c.fact 106 rfl))
    (Hb.dec (c.fact 107 rfl) : tupS (Hb.ob K (Hb.na K (He.ga K "FORMS") "call")) = some (["part", "handed parts"] : List Str))
    (Hb.dec (c.fact 108 rfl) : PySem.W.nsIn K (He.ga K "FORMS") "let" = some (some (.ref (Hb.na K (He.ga K "FORMS") "let"))))
    (Hb.ob_ok (c.fact 109 rfl))
    (Hb.dec (c.fact 110 rfl) : tupS (Hb.ob K (Hb.na K (He.ga K "FORMS") "let")) = some (["binder", "part", "part"] : List Str))
    (Hb.dec (c.fact 111 rfl) : PySem.W.nsIn K (He.ga K "FORMS") "if" = some (some (.ref (Hb.na K (He.ga K "FORMS") "if"))))
    (Hb.ob_ok (c.fact 112 rfl))
    (Hb.dec (c.fact 113 rfl) : tupS (Hb.ob K (Hb.na K (He.ga K "FORMS") "if")) = some (["part", "part", "part"] : List Str))
    (Hb.dec (c.fact 114 rfl) : PySem.W.nsIn K (He.ga K "FORMS") "do" = some (some (.ref (Hb.na K (He.ga K "FORMS") "do"))))
    (Hb.ob_ok (c.fact 115 rfl))
    (Hb.dec (c.fact 116 rfl) : tupS (Hb.ob K (Hb.na K (He.ga K "FORMS") "do")) = some (["row parts"] : List Str))
    (Hb.dec (c.fact 117 rfl) : PySem.W.nsIn K (He.ga K "FORMS") "op" = some (some (.ref (Hb.na K (He.ga K "FORMS") "op"))))
    (Hb.ob_ok (c.fact 118 rfl))
    (Hb.dec (c.fact 119 rfl) : tupS (Hb.ob K (Hb.na K (He.ga K "FORMS") "op")) = some (["word", "op parts"] : List Str))
    (Hb.dec (c.fact 120 rfl) : PySem.W.nsIn K (He.ga K "FORMS") "cell" = some (some (.ref (Hb.na K (He.ga K "FORMS") "cell"))))
    (Hb.ob_ok (c.fact 121 rfl))
    (Hb.dec (c.fact 122 rfl) : tupS (Hb.ob K (Hb.na K (He.ga K "FORMS") "cell")) = some (["part"] : List Str))
    (Hb.dec (c.fact 123 rfl) : PySem.W.nsIn K (He.ga K "FORMS") "get" = some (some (.ref (Hb.na K (He.ga K "FORMS") "get"))))
    (Hb.ob_ok (c.fact 124 rfl))
    (Hb.dec (c.fact 125 rfl) : tupS (Hb.ob K (Hb.na K (He.ga K "FORMS") "get")) = some (["part"] : List Str))
    (Hb.dec (c.fact 126 rfl) : PySem.W.nsIn K (He.ga K "FORMS") "set" = some (some (.ref (Hb.na K (He.ga K "FORMS") "set"))))
    (Hb.ob_ok (c.fact 127 rfl))
    (Hb.dec (c.fact 128 rfl) : tupS (Hb.ob K (Hb.na K (He.ga K "FORMS") "set")) = some (["part", "part"] : List Str))
    (Hb.dec (c.fact 129 rfl) : PySem.W.nsIn K (He.ga K "FORMS") "say" = some (some (.ref (Hb.na K (He.ga K "FORMS") "say"))))
    (Hb.ob_ok (c.fact 130 rfl))
    (Hb.dec (c.fact 131 rfl) : tupS (Hb.ob K (Hb.na K (He.ga K "FORMS") "say")) = some (["part"] : List Str))
    (Hb.dec (c.fact 132 rfl) : PySem.W.nsIn K (He.ga K "FORMS") "fault" = some (some (.ref (Hb.na K (He.ga K "FORMS") "fault"))))
    (Hb.ob_ok (c.fact 133 rfl))
    (Hb.dec (c.fact 134 rfl) : tupS (Hb.ob K (Hb.na K (He.ga K "FORMS") "fault")) = some (["part"] : List Str))
    (Hb.dec (c.fact 135 rfl) : PySem.W.nsIn K (He.ga K "FORMS") "guard" = some (some (.ref (Hb.na K (He.ga K "FORMS") "guard"))))
    (Hb.ob_ok (c.fact 136 rfl))
    (Hb.dec (c.fact 137 rfl) : tupS (Hb.ob K (Hb.na K (He.ga K "FORMS") "guard")) = some (["part", "binder", "part"] : List Str))
    (Hb.dec (c.fact 138 rfl) : PySem.W.nsIn K (He.ga K "FORMS") "wind" = some (some (.ref (Hb.na K (He.ga K "FORMS") "wind"))))
    (Hb.ob_ok (c.fact 139 rfl))
    (Hb.dec (c.fact 140 rfl) : tupS (Hb.ob K (Hb.na K (He.ga K "FORMS") "wind")) = some (["part", "part", "part"] : List Str))
    (Hb.dec (c.fact 141 rfl) : PySem.W.nsIn K (He.ga K "FORMS") "catch" = some (some (.ref (Hb.na K (He.ga K "FORMS") "catch"))))
    (Hb.ob_ok (c.fact 142 rfl))
    (Hb.dec (c.fact 143 rfl) : tupS (Hb.ob K (Hb.na K (He.ga K "FORMS") "catch")) = some (["binder", "part"] : List Str))
    (Hb.dec (c.fact 144 rfl) : PySem.W.nsIn K (He.ga K "FORMS") "go" = some (some (.ref (Hb.na K (He.ga K "FORMS") "go"))))
    (Hb.ob_ok (c.fact 145 rfl))
    (Hb.dec (c.fact 146 rfl) : tupS (Hb.ob K (Hb.na K (He.ga K "FORMS") "go")) = some (["part", "part"] : List Str))
    (Hb.dec (c.fact 147 rfl) : PySem.W.nsIn K (He.ga K "FORMS") "mark" = some (some (.ref (Hb.na K (He.ga K "FORMS") "mark"))))
    (Hb.ob_ok (c.fact 148 rfl))
    (Hb.dec (c.fact 149 rfl) : tupS (Hb.ob K (Hb.na K (He.ga K "FORMS") "mark")) = some (["tag", "part"] : List Str))
    (Hb.dec (c.fact 150 rfl) : PySem.W.nsIn K (He.ga K "FORMS") "take" = some (some (.ref (Hb.na K (He.ga K "FORMS") "take"))))
    (Hb.ob_ok (c.fact 151 rfl))
    (Hb.dec (c.fact 152 rfl) : tupS (Hb.ob K (Hb.na K (He.ga K "FORMS") "take")) = some (["tag", "binder", "part"] : List Str))
    (Hb.dec (c.fact 153 rfl) : PySem.W.nsIn K (He.ga K "FORMS") "use" = some (some (.ref (Hb.na K (He.ga K "FORMS") "use"))))
    (Hb.ob_ok (c.fact 154 rfl))
    (Hb.dec (c.fact 155 rfl) : tupS (Hb.ob K (Hb.na K (He.ga K "FORMS") "use")) = some (["part", "part"] : List Str))
    (Hb.dec (c.fact 156 rfl) : PySem.W.nsIn K (He.ga K "OPS") "plus" = some (some (.int 2 (Hb.tk K (He.ga K "OPS") "plus"))))
    (Hb.dec (c.fact 157 rfl) : PySem.W.nsIn K (He.ga K "OPS") "minus" = some (some (.int 2 (Hb.tk K (He.ga K "OPS") "minus"))))
    (Hb.dec (c.fact 158 rfl) : PySem.W.nsIn K (He.ga K "OPS") "times" = some (some (.int 2 (Hb.tk K (He.ga K "OPS") "times"))))
    (Hb.dec (c.fact 159 rfl) : PySem.W.nsIn K (He.ga K "OPS") "joined" = some (some (.int 2 (Hb.tk K (He.ga K "OPS") "joined"))))
    (Hb.dec (c.fact 160 rfl) : PySem.W.nsIn K (He.ga K "ACTIONS_worths") "plus" = some (some (.ref (He.ga K "plus_worth"))))
    (Hb.dec (c.fact 161 rfl) : PySem.W.nsIn K (He.ga K "ACTIONS_worths") "minus" = some (some (.ref (He.ga K "minus_worth"))))
    (Hb.dec (c.fact 162 rfl) : PySem.W.nsIn K (He.ga K "ACTIONS_worths") "times" = some (some (.ref (He.ga K "times_worth"))))
    (Hb.dec (c.fact 163 rfl) : PySem.W.nsIn K (He.ga K "ACTIONS_worths") "less" = some (some (.ref (He.ga K "less_worth"))))
    (Hb.dec (c.fact 164 rfl) : PySem.W.nsIn K (He.ga K "ACTIONS_worths") "joined" = some (some (.ref (He.ga K "joined_worth"))))
    (Hb.dec (c.fact 165 rfl) : PySem.W.nsIn K (He.ga K "ACTIONS_worths") "first" = some (some (.ref (He.ga K "first_worth"))))
    (Hb.dec (c.fact 166 rfl) : PySem.W.nsIn K (He.ga K "ACTIONS_worths") "kind" = some (some (.ref (He.ga K "kind_worth"))))
    (Hb.dec (c.fact 167 rfl) : PySem.W.nsIn K (He.ga K "ACTIONS_machine") "num" = some (some (.ref (He.ga K "act_literal"))))
    (Hb.dec (c.fact 168 rfl) : PySem.W.nsIn K (He.ga K "ACTIONS_machine") "text" = some (some (.ref (He.ga K "act_literal"))))
    (Hb.dec (c.fact 169 rfl) : PySem.W.nsIn K (He.ga K "ACTIONS_machine") "yes" = some (some (.ref (He.ga K "act_yes"))))
    (Hb.dec (c.fact 170 rfl) : PySem.W.nsIn K (He.ga K "ACTIONS_machine") "no" = some (some (.ref (He.ga K "act_no"))))
    (Hb.dec (c.fact 171 rfl) : PySem.W.nsIn K (He.ga K "ACTIONS_machine") "none" = some (some (.ref (He.ga K "act_none"))))
    (Hb.dec (c.fact 172 rfl) : PySem.W.nsIn K (He.ga K "ACTIONS_machine") "name" = some (some (.ref (He.ga K "act_name"))))
    (Hb.dec (c.fact 173 rfl) : PySem.W.nsIn K (He.ga K "ACTIONS_machine") "fun" = some (some (.ref (He.ga K "act_fun"))))
    (Hb.dec (c.fact 174 rfl) : PySem.W.nsIn K (He.ga K "ACTIONS_machine") "rec" = some (some (.ref (He.ga K "act_fun"))))
    (Hb.dec (c.fact 175 rfl) : PySem.W.nsIn K (He.ga K "ACTIONS_machine") "call" = some (some (.ref (He.ga K "act_call"))))
    (Hb.dec (c.fact 176 rfl) : PySem.W.nsIn K (He.ga K "ACTIONS_machine") "let" = some (some (.ref (He.ga K "act_let"))))
    (Hb.dec (c.fact 177 rfl) : PySem.W.nsIn K (He.ga K "ACTIONS_machine") "if" = some (some (.ref (He.ga K "act_if"))))
    (Hb.dec (c.fact 178 rfl) : PySem.W.nsIn K (He.ga K "ACTIONS_machine") "op" = some (some (.ref (He.ga K "act_op"))))
    (Hb.dec (c.fact 179 rfl) : PySem.W.nsIn K (He.ga K "ACTIONS_machine") "cell" = some (some (.ref (He.ga K "act_cell"))))
    (Hb.dec (c.fact 180 rfl) : PySem.W.nsIn K (He.ga K "ACTIONS_machine") "get" = some (some (.ref (He.ga K "act_get"))))
    (Hb.dec (c.fact 181 rfl) : PySem.W.nsIn K (He.ga K "ACTIONS_machine") "set" = some (some (.ref (He.ga K "act_set"))))
    (Hb.dec (c.fact 182 rfl) : PySem.W.nsIn K (He.ga K "ACTIONS_machine") "say" = some (some (.ref (He.ga K "act_say"))))
    (Hb.dec (c.fact 183 rfl) : PySem.W.nsIn K (He.ga K "LESSER_ACTIONS") "pair" = some (some (.ref (He.ga K "pair_told"))))
    (Hb.dec (c.fact 184 rfl) : PySem.W.nsIn K (He.ga K "LESSER_ACTIONS") "tried" = some (some (.ref (He.ga K "tried_told"))))
    (Hb.dec (c.fact 185 rfl) : PySem.W.nsIn K (He.ga K "LESSER_ACTIONS") "wound" = some (some (.ref (He.ga K "wound_told"))))
    (Hb.dec (c.fact 186 rfl) : PySem.W.nsIn K (He.ga K "LESSER_ACTIONS") "point" = some (some (.ref (He.ga K "point_told"))))
    (Hb.dec (c.fact 187 rfl) : PySem.W.nsIn K (He.ga K "LESSER_ACTIONS") "part" = some (some (.ref (He.ga K "part_told"))))
    (Hb.dec (c.fact 188 rfl) : PySem.W.nsIn K (He.ga K "LESSER_ACTIONS") "inside" = some (some (.ref (He.ga K "inside_told"))))
    (Hb.dec (c.fact 189 rfl) : PySem.W.nsIn K (He.ga K "LESSER_ACTIONS") "plus" = some none)
    (Hb.dec (c.fact 190 rfl) : PySem.W.nsIn K (He.ga K "LESSER_ACTIONS") "minus" = some none)
    (Hb.dec (c.fact 191 rfl) : PySem.W.nsIn K (He.ga K "LESSER_ACTIONS") "times" = some none)
    (Hb.dec (c.fact 192 rfl) : PySem.W.nsIn K (He.ga K "LESSER_ACTIONS") "less" = some none)
    (Hb.dec (c.fact 193 rfl) : PySem.W.nsIn K (He.ga K "LESSER_ACTIONS") "joined" = some none)
    (Hb.dec (c.fact 194 rfl) : PySem.W.nsIn K (He.ga K "LESSER_ACTIONS") "first" = some none)
    (Hb.dec (c.fact 195 rfl) : PySem.W.nsIn K (He.ga K "LESSER_ACTIONS") "kind" = some none)
    (Hb.dec (c.fact 196 rfl) : PySem.W.nsIn K mainGlobals "WAITS_FOR_FIRST" = some (some (.ref (He.ga K "WAITS_FOR_FIRST"))))
    (Hb.ob_ok (c.fact 197 rfl))
    (Hb.dec (c.fact 198 rfl) : tupS (Hb.ob K (He.ga K "WAITS_FOR_FIRST")) = some (["let", "if", "guard", "wind"] : List Str))
    (Hb.dec (c.fact 199 rfl) : PySem.W.nsIn K mainGlobals "WAITS_FOR_NONE" = some (some (.ref (He.ga K "WAITS_FOR_NONE"))))
    (Hb.ob_ok (c.fact 200 rfl))
    (Hb.dec (c.fact 201 rfl) : tupS (Hb.ob K (He.ga K "WAITS_FOR_NONE")) = some (["fun", "rec", "catch", "mark", "take"] : List Str))
    (Hb.dec (c.fact 202 rfl) : PySem.W.specialIn K (.builtin "object.__class__") "__get__" = some (some (.builtin "getset_descriptor.__get__")))
    (Hb.dec (c.fact 203 rfl) : PySem.W.takesIn K (.builtin "object.__class__") = some true)
    (Hb.dec (c.fact 204 rfl) : PySem.W.nsIn K mainGlobals "Place" = some (some (.ref (He.ga K "Place"))))
    (Hb.dec (c.fact 205 rfl) : PySem.W.plainGet K (He.ga K "Place") Str.empty = true)
    (Hb.dec (c.fact 206 rfl) : PySem.W.hasDictIn K (He.ga K "Place") = true)
    (Hb.dec (c.fact 207 rfl) : PySem.W.plainOver K (He.ga K "Place") = true)
    (Hb.dec (c.fact 208 rfl) : PySem.W.findIn K (.ref (He.ga K "Place")) "__setattr__" = some (some (.builtin "object.__setattr__")))
    (Hb.dec (c.fact 209 rfl) : PySem.W.findIn K (.ref (He.ga K "Place")) "path" = some none)
    (Hb.dec (c.fact 210 rfl) : PySem.W.findIn K (.ref (He.ga K "Place")) "term" = some none)
    (Hb.dec (c.fact 211 rfl) : PySem.W.findIn K (.ref (He.ga K "Place")) "word" = some none)
    (Hb.dec (c.fact 212 rfl) : PySem.W.findIn K (.ref (He.ga K "Place")) "parts" = some none)
    (Hb.dec (c.fact 213 rfl) : PySem.W.findIn K (.ref (He.ga K "Place")) "waits" = some none)
    (Hb.dec (c.fact 214 rfl) : PySem.W.makesIn K (He.ga K "Place") = true)
    (Hb.dec (c.fact 215 rfl) : PySem.W.keepIn K (.ref (He.ga K "Place")) = true)
    (Hb.dec (c.fact 216 rfl) : PySem.W.nsIn K mainGlobals "Pair" = some (some (.ref (He.ga K "Pair"))))
    (Hb.dec (c.fact 217 rfl) : PySem.W.plainGet K (He.ga K "Pair") Str.empty = true)
    (Hb.dec (c.fact 218 rfl) : PySem.W.hasDictIn K (He.ga K "Pair") = true)
    (Hb.dec (c.fact 219 rfl) : PySem.W.plainOver K (He.ga K "Pair") = true)
    (Hb.dec (c.fact 220 rfl) : PySem.W.findIn K (.ref (He.ga K "Pair")) "__setattr__" = some (some (.builtin "object.__setattr__")))
    (Hb.dec (c.fact 221 rfl) : PySem.W.findIn K (.ref (He.ga K "Pair")) "first" = some none)
    (Hb.dec (c.fact 222 rfl) : PySem.W.findIn K (.ref (He.ga K "Pair")) "rest" = some none)
    (Hb.dec (c.fact 223 rfl) : PySem.W.makesIn K (He.ga K "Pair") = true)
    (Hb.dec (c.fact 224 rfl) : PySem.W.keepIn K (.ref (He.ga K "Pair")) = true)
    (Hb.dec (c.fact 225 rfl) : PySem.W.nsIn K mainGlobals "Fun" = some (some (.ref (He.ga K "Fun"))))
    (Hb.dec (c.fact 226 rfl) : PySem.W.plainGet K (He.ga K "Fun") Str.empty = true)
    (Hb.dec (c.fact 227 rfl) : PySem.W.hasDictIn K (He.ga K "Fun") = true)
    (Hb.dec (c.fact 228 rfl) : PySem.W.plainOver K (He.ga K "Fun") = true)
    (Hb.dec (c.fact 229 rfl) : PySem.W.findIn K (.ref (He.ga K "Fun")) "__setattr__" = some (some (.builtin "object.__setattr__")))
    (Hb.dec (c.fact 230 rfl) : PySem.W.findIn K (.ref (He.ga K "Fun")) "place" = some none)
    (Hb.dec (c.fact 231 rfl) : PySem.W.findIn K (.ref (He.ga K "Fun")) "env" = some none)
    (Hb.dec (c.fact 232 rfl) : PySem.W.makesIn K (He.ga K "Fun") = true)
    (Hb.dec (c.fact 233 rfl) : PySem.W.keepIn K (.ref (He.ga K "Fun")) = true)
    (Hb.dec (c.fact 234 rfl) : PySem.W.nsIn K mainGlobals "Cell" = some (some (.ref (He.ga K "Cell"))))
    (Hb.dec (c.fact 235 rfl) : PySem.W.plainGet K (He.ga K "Cell") Str.empty = true)
    (Hb.dec (c.fact 236 rfl) : PySem.W.hasDictIn K (He.ga K "Cell") = true)
    (Hb.dec (c.fact 237 rfl) : PySem.W.plainOver K (He.ga K "Cell") = true)
    (Hb.dec (c.fact 238 rfl) : PySem.W.findIn K (.ref (He.ga K "Cell")) "__setattr__" = some (some (.builtin "object.__setattr__")))
    (Hb.dec (c.fact 239 rfl) : PySem.W.findIn K (.ref (He.ga K "Cell")) "held" = some none)
    (Hb.dec (c.fact 240 rfl) : PySem.W.makesIn K (He.ga K "Cell") = true)
    (Hb.dec (c.fact 241 rfl) : PySem.W.keepIn K (.ref (He.ga K "Cell")) = true)
    (Hb.dec (c.fact 242 rfl) : PySem.W.nsIn K mainGlobals "Point" = some (some (.ref (He.ga K "Point"))))
    (Hb.dec (c.fact 243 rfl) : PySem.W.plainGet K (He.ga K "Point") Str.empty = true)
    (Hb.dec (c.fact 244 rfl) : PySem.W.hasDictIn K (He.ga K "Point") = true)
    (Hb.dec (c.fact 245 rfl) : PySem.W.plainOver K (He.ga K "Point") = true)
    (Hb.dec (c.fact 246 rfl) : PySem.W.findIn K (.ref (He.ga K "Point")) "__setattr__" = some (some (.builtin "object.__setattr__")))
    (Hb.dec (c.fact 247 rfl) : PySem.W.findIn K (.ref (He.ga K "Point")) "held" = some none)
    (Hb.dec (c.fact 248 rfl) : PySem.W.makesIn K (He.ga K "Point") = true)
    (Hb.dec (c.fact 249 rfl) : PySem.W.keepIn K (.ref (He.ga K "Point")) = true)
    (Hb.dec (c.fact 250 rfl) : PySem.W.nsIn K mainGlobals "Part" = some (some (.ref (He.ga K "Part"))))
    (Hb.dec (c.fact 251 rfl) : PySem.W.plainGet K (He.ga K "Part") Str.empty = true)
    (Hb.dec (c.fact 252 rfl) : PySem.W.hasDictIn K (He.ga K "Part") = true)
    (Hb.dec (c.fact 253 rfl) : PySem.W.plainOver K (He.ga K "Part") = true)
    (Hb.dec (c.fact 254 rfl) : PySem.W.findIn K (.ref (He.ga K "Part")) "__setattr__" = some (some (.builtin "object.__setattr__")))
    (Hb.dec (c.fact 255 rfl) : PySem.W.findIn K (.ref (He.ga K "Part")) "held" = some none)
    (Hb.dec (c.fact 256 rfl) : PySem.W.makesIn K (He.ga K "Part") = true)
    (Hb.dec (c.fact 257 rfl) : PySem.W.keepIn K (.ref (He.ga K "Part")) = true)
    (Hb.dec (c.fact 258 rfl) : PySem.W.nsIn K mainGlobals "Node" = some (some (.ref (He.ga K "Node"))))
    (Hb.dec (c.fact 259 rfl) : PySem.W.plainGet K (He.ga K "Node") Str.empty = true)
    (Hb.dec (c.fact 260 rfl) : PySem.W.hasDictIn K (He.ga K "Node") = true)
    (Hb.dec (c.fact 261 rfl) : PySem.W.plainOver K (He.ga K "Node") = true)
    (Hb.dec (c.fact 262 rfl) : PySem.W.findIn K (.ref (He.ga K "Node")) "__setattr__" = some (some (.builtin "object.__setattr__")))
    (Hb.dec (c.fact 263 rfl) : PySem.W.findIn K (.ref (He.ga K "Node")) "frame" = some none)
    (Hb.dec (c.fact 264 rfl) : PySem.W.findIn K (.ref (He.ga K "Node")) "outer" = some none)
    (Hb.dec (c.fact 265 rfl) : PySem.W.findIn K (.ref (He.ga K "Node")) "height" = some none)
    (Hb.dec (c.fact 266 rfl) : PySem.W.findIn K (.ref (He.ga K "Node")) "wind" = some none)
    (Hb.dec (c.fact 267 rfl) : PySem.W.makesIn K (He.ga K "Node") = true)
    (Hb.dec (c.fact 268 rfl) : PySem.W.keepIn K (.ref (He.ga K "Node")) = true)
    (Hb.dec (c.fact 269 rfl) : PySem.W.nsIn K mainGlobals "HeapFrames" = some (some (.ref (He.ga K "HeapFrames"))))
    (Hb.dec (c.fact 270 rfl) : PySem.W.plainGet K (He.ga K "HeapFrames") Str.empty = true)
    (Hb.dec (c.fact 271 rfl) : PySem.W.hasDictIn K (He.ga K "HeapFrames") = true)
    (Hb.dec (c.fact 272 rfl) : PySem.W.plainOver K (He.ga K "HeapFrames") = true)
    (Hb.dec (c.fact 273 rfl) : PySem.W.findIn K (.ref (He.ga K "HeapFrames")) "__setattr__" = some (some (.builtin "object.__setattr__")))
    (Hb.dec (c.fact 274 rfl) : PySem.W.findIn K (.ref (He.ga K "HeapFrames")) "top" = some none)
    (Hb.dec (c.fact 275 rfl) : PySem.W.makesIn K (He.ga K "HeapFrames") = true)
    (Hb.dec (c.fact 276 rfl) : PySem.W.keepIn K (.ref (He.ga K "HeapFrames")) = true)
    (Hb.dec (c.fact 277 rfl) : PySem.W.nsIn K mainGlobals "LesserMachine" = some (some (.ref (He.ga K "LesserMachine"))))
    (Hb.dec (c.fact 278 rfl) : PySem.W.plainGet K (He.ga K "LesserMachine") Str.empty = true)
    (Hb.dec (c.fact 279 rfl) : PySem.W.hasDictIn K (He.ga K "LesserMachine") = true)
    (Hb.dec (c.fact 280 rfl) : PySem.W.plainOver K (He.ga K "LesserMachine") = true)
    (Hb.dec (c.fact 281 rfl) : PySem.W.findIn K (.ref (He.ga K "LesserMachine")) "__setattr__" = some (some (.builtin "object.__setattr__")))
    (Hb.dec (c.fact 282 rfl) : PySem.W.findIn K (.ref (He.ga K "LesserMachine")) "frames" = some none)
    (Hb.dec (c.fact 283 rfl) : PySem.W.findIn K (.ref (He.ga K "LesserMachine")) "stage" = some none)
    (Hb.dec (c.fact 284 rfl) : PySem.W.findIn K (.ref (He.ga K "LesserMachine")) "place" = some none)
    (Hb.dec (c.fact 285 rfl) : PySem.W.findIn K (.ref (He.ga K "LesserMachine")) "env" = some none)
    (Hb.dec (c.fact 286 rfl) : PySem.W.findIn K (.ref (He.ga K "LesserMachine")) "kind" = some none)
    (Hb.dec (c.fact 287 rfl) : PySem.W.findIn K (.ref (He.ga K "LesserMachine")) "worth" = some none)
    (Hb.dec (c.fact 288 rfl) : PySem.W.findIn K (.ref (He.ga K "LesserMachine")) "output" = some none)
    (Hb.dec (c.fact 289 rfl) : PySem.W.findIn K (.ref (He.ga K "LesserMachine")) "winds" = some none)
    (Hb.dec (c.fact 290 rfl) : PySem.W.findIn K (.ref (He.ga K "LesserMachine")) "steps" = some none)
    (Hb.dec (c.fact 291 rfl) : PySem.W.findIn K (.ref (He.ga K "LesserMachine")) "height" = some none)
    (Hb.dec (c.fact 292 rfl) : PySem.W.makesIn K (He.ga K "LesserMachine") = true)
    (Hb.dec (c.fact 293 rfl) : PySem.W.keepIn K (.ref (He.ga K "LesserMachine")) = true)
    (Hb.dec (c.fact 294 rfl) : PySem.W.nsIn K mainGlobals "Result" = some (some (.ref (He.ga K "Result"))))
    (Hb.dec (c.fact 295 rfl) : PySem.W.plainGet K (He.ga K "Result") Str.empty = true)
    (Hb.dec (c.fact 296 rfl) : PySem.W.hasDictIn K (He.ga K "Result") = true)
    (Hb.dec (c.fact 297 rfl) : PySem.W.plainOver K (He.ga K "Result") = true)
    (Hb.dec (c.fact 298 rfl) : PySem.W.findIn K (.ref (He.ga K "Result")) "__setattr__" = some (some (.builtin "object.__setattr__")))
    (Hb.dec (c.fact 299 rfl) : PySem.W.findIn K (.ref (He.ga K "Result")) "kind" = some none)
    (Hb.dec (c.fact 300 rfl) : PySem.W.findIn K (.ref (He.ga K "Result")) "worth" = some none)
    (Hb.dec (c.fact 301 rfl) : PySem.W.findIn K (.ref (He.ga K "Result")) "output" = some none)
    (Hb.dec (c.fact 302 rfl) : PySem.W.findIn K (.ref (He.ga K "Result")) "winds" = some none)
    (Hb.dec (c.fact 303 rfl) : PySem.W.findIn K (.ref (He.ga K "Result")) "steps" = some none)
    (Hb.dec (c.fact 304 rfl) : PySem.W.findIn K (.ref (He.ga K "Result")) "height" = some none)
    (Hb.dec (c.fact 305 rfl) : PySem.W.makesIn K (He.ga K "Result") = true)
    (Hb.dec (c.fact 306 rfl) : PySem.W.keepIn K (.ref (He.ga K "Result")) = true)
    (Hb.dec (c.fact 307 rfl) : PySem.W.findIn K (.ref (He.ga K "Pair")) "__class__" = some (some (.builtin "object.__class__")))
    (Hb.ob_ok (c.fact 308 rfl))
    (Hb.dec (c.fact 309 rfl) : mroO (Hb.ob K (He.ga K "Pair")) = some [.ref (He.ga K "Pair"), .type "object"])
    (Hb.dec (c.fact 310 rfl) : PySem.W.typeIn K (.ref (He.ga K "Pair")) = some (.type "type"))
    (Hb.dec (c.fact 311 rfl) : PySem.W.findIn K (.ref (He.ga K "Fun")) "__class__" = some (some (.builtin "object.__class__")))
    (Hb.ob_ok (c.fact 312 rfl))
    (Hb.dec (c.fact 313 rfl) : mroO (Hb.ob K (He.ga K "Fun")) = some [.ref (He.ga K "Fun"), .type "object"])
    (Hb.dec (c.fact 314 rfl) : PySem.W.typeIn K (.ref (He.ga K "Fun")) = some (.type "type"))
    (Hb.dec (c.fact 315 rfl) : PySem.W.findIn K (.ref (He.ga K "Cell")) "__class__" = some (some (.builtin "object.__class__")))
    (Hb.ob_ok (c.fact 316 rfl))
    (Hb.dec (c.fact 317 rfl) : mroO (Hb.ob K (He.ga K "Cell")) = some [.ref (He.ga K "Cell"), .type "object"])
    (Hb.dec (c.fact 318 rfl) : PySem.W.typeIn K (.ref (He.ga K "Cell")) = some (.type "type"))
    (Hb.dec (c.fact 319 rfl) : PySem.W.findIn K (.ref (He.ga K "Point")) "__class__" = some (some (.builtin "object.__class__")))
    (Hb.ob_ok (c.fact 320 rfl))
    (Hb.dec (c.fact 321 rfl) : mroO (Hb.ob K (He.ga K "Point")) = some [.ref (He.ga K "Point"), .type "object"])
    (Hb.dec (c.fact 322 rfl) : PySem.W.typeIn K (.ref (He.ga K "Point")) = some (.type "type"))
    (Hb.dec (c.fact 323 rfl) : PySem.W.findIn K (.ref (He.ga K "Part")) "__class__" = some (some (.builtin "object.__class__")))
    (Hb.ob_ok (c.fact 324 rfl))
    (Hb.dec (c.fact 325 rfl) : mroO (Hb.ob K (He.ga K "Part")) = some [.ref (He.ga K "Part"), .type "object"])
    (Hb.dec (c.fact 326 rfl) : PySem.W.typeIn K (.ref (He.ga K "Part")) = some (.type "type"))
    (Hb.dec (c.fact 327 rfl) : [(He.ga K "Place"), (He.ga K "Pair"), (He.ga K "Fun"), (He.ga K "Cell"), (He.ga K "Point"), (He.ga K "Part"), (He.ga K "Node"), (He.ga K "HeapFrames"), (He.ga K "LesserMachine")].Nodup)
    (Hb.dec (c.fact 328 rfl) : PySem.W.findIn K (.ref (He.ga K "Place")) "__init__" = some (some (.ref (He.ma K (He.ga K "Place") "__init__"))))
    (Hb.dec (c.fact 329 rfl) : PySem.W.isFn K (.ref (He.ma K (He.ga K "Place") "__init__")) = true)
    l_Mpinit
    c_Mpinit
    k_Mpinit
    (Hb.dec (c.fact 330 rfl) : PySem.W.findIn K (.ref (He.ga K "Pair")) "__init__" = some (some (.ref (He.ma K (He.ga K "Pair") "__init__"))))
    (Hb.dec (c.fact 331 rfl) : PySem.W.isFn K (.ref (He.ma K (He.ga K "Pair") "__init__")) = true)
    l_Mpainit
    c_Mpainit
    k_Mpainit
    (Hb.dec (c.fact 332 rfl) : PySem.W.findIn K (.ref (He.ga K "Node")) "__init__" = some (some (.ref (He.ma K (He.ga K "Node") "__init__"))))
    (Hb.dec (c.fact 333 rfl) : PySem.W.isFn K (.ref (He.ma K (He.ga K "Node") "__init__")) = true)
    l_Mninit
    c_Mninit
    k_Mninit
    (Hb.dec (c.fact 334 rfl) : PySem.W.findIn K (.ref (He.ga K "HeapFrames")) "__init__" = some (some (.ref (He.ma K (He.ga K "HeapFrames") "__init__"))))
    (Hb.dec (c.fact 335 rfl) : PySem.W.isFn K (.ref (He.ma K (He.ga K "HeapFrames") "__init__")) = true)
    l_Mfinit
    c_Mfinit
    k_Mfinit
    (Hb.dec (c.fact 336 rfl) : PySem.W.findIn K (.ref (He.ga K "LesserMachine")) "__init__" = some (some (.ref (He.ma K (He.ga K "LesserMachine") "__init__"))))
    (Hb.dec (c.fact 337 rfl) : PySem.W.isFn K (.ref (He.ma K (He.ga K "LesserMachine") "__init__")) = true)
    l_Mminit
    c_Mminit
    k_Mminit
    (Hb.dec (c.fact 338 rfl) : PySem.W.findIn K (.ref (He.ga K "Result")) "__init__" = some (some (.ref (He.ma K (He.ga K "Result") "__init__"))))
    (Hb.dec (c.fact 339 rfl) : PySem.W.isFn K (.ref (He.ma K (He.ga K "Result") "__init__")) = true)
    l_Mrinit
    c_Mrinit
    k_Mrinit
    (Hb.dec (c.fact 340 rfl) : PySem.W.findIn K (.ref (He.ga K "HeapFrames")) "push" = some (some (.ref (He.ma K (He.ga K "HeapFrames") "push"))))
    (Hb.dec (c.fact 341 rfl) : PySem.W.isFn K (.ref (He.ma K (He.ga K "HeapFrames") "push")) = true)
    l_Mpush
    c_Mpush
    k_Mpush
    (Hb.dec (c.fact 342 rfl) : PySem.W.findIn K (.ref (He.ga K "HeapFrames")) "pull" = some (some (.ref (He.ma K (He.ga K "HeapFrames") "pull"))))
    (Hb.dec (c.fact 343 rfl) : PySem.W.isFn K (.ref (He.ma K (He.ga K "HeapFrames") "pull")) = true)
    l_Mpull
    c_Mpull
    k_Mpull
    (Hb.dec (c.fact 344 rfl) : PySem.W.findIn K (.ref (He.ga K "HeapFrames")) "many" = some (some (.ref (He.ma K (He.ga K "HeapFrames") "many"))))
    (Hb.dec (c.fact 345 rfl) : PySem.W.isFn K (.ref (He.ma K (He.ga K "HeapFrames") "many")) = true)
    l_Mmany
    c_Mmany
    k_Mmany
    (Hb.dec (c.fact 346 rfl) : PySem.W.findIn K (.ref (He.ga K "LesserMachine")) "begin" = some (some (.ref (He.ma K (He.ga K "LesserMachine") "begin"))))
    (Hb.dec (c.fact 347 rfl) : PySem.W.isFn K (.ref (He.ma K (He.ga K "LesserMachine") "begin")) = true)
    l_Mbegin
    c_Mbegin
    k_Mbegin
    (Hb.dec (c.fact 348 rfl) : PySem.W.findIn K (.ref (He.ga K "LesserMachine")) "give" = some (some (.ref (He.ma K (He.ga K "LesserMachine") "give"))))
    (Hb.dec (c.fact 349 rfl) : PySem.W.isFn K (.ref (He.ma K (He.ga K "LesserMachine") "give")) = true)
    l_Mgive
    c_Mgive
    k_Mgive
    (Hb.dec (c.fact 350 rfl) : PySem.W.findIn K (.ref (He.ga K "LesserMachine")) "end" = some (some (.ref (He.ma K (He.ga K "LesserMachine") "end"))))
    (Hb.dec (c.fact 351 rfl) : PySem.W.isFn K (.ref (He.ma K (He.ga K "LesserMachine") "end")) = true)
    l_Mend
    c_Mend
    k_Mend
    (Hb.dec (c.fact 352 rfl) : PySem.W.findIn K (.ref (He.ga K "LesserMachine")) "faulted" = some (some (.ref (He.ma K (He.ga K "LesserMachine") "faulted"))))
    (Hb.dec (c.fact 353 rfl) : PySem.W.isFn K (.ref (He.ma K (He.ga K "LesserMachine") "faulted")) = true)
    l_Mfaulted
    c_Mfaulted
    k_Mfaulted
    (Hb.dec (c.fact 354 rfl) : PySem.W.findIn K (.ref (He.ga K "LesserMachine")) "act_more" = some (some (.ref (He.ma K (He.ga K "LesserMachine") "act_more"))))
    (Hb.dec (c.fact 355 rfl) : PySem.W.isFn K (.ref (He.ma K (He.ga K "LesserMachine") "act_more")) = true)
    l_Mact_more
    c_Mact_more
    k_Mact_more
    (Hb.dec (c.fact 356 rfl) : PySem.W.findIn K (.ref (He.ga K "LesserMachine")) "back_to" = some (some (.ref (He.ma K (He.ga K "LesserMachine") "back_to"))))
    (Hb.dec (c.fact 357 rfl) : PySem.W.isFn K (.ref (He.ma K (He.ga K "LesserMachine") "back_to")) = true)
    l_Mback_to
    c_Mback_to
    k_Mback_to
    (Hb.dec (c.fact 358 rfl) : PySem.W.findIn K (.ref (He.ga K "LesserMachine")) "op_told" = some (some (.ref (He.ma K (He.ga K "LesserMachine") "op_told"))))
    (Hb.dec (c.fact 359 rfl) : PySem.W.isFn K (.ref (He.ma K (He.ga K "LesserMachine") "op_told")) = true)
    l_Mop_told
    c_Mop_told
    k_Mop_told
    (Hb.dec (c.fact 360 rfl) : PySem.W.findIn K (.ref (He.ga K "Fun")) "__init__" = some (some (.ref (He.ma K (He.ga K "Fun") "__init__"))))
    (Hb.dec (c.fact 361 rfl) : PySem.W.isFn K (.ref (He.ma K (He.ga K "Fun") "__init__")) = true)
    G_F_Dfun
    (Hb.dec (c.fact 362 rfl) : PySem.W.findIn K (.ref (He.ga K "Cell")) "__init__" = some (some (.ref (He.ma K (He.ga K "Cell") "__init__"))))
    (Hb.dec (c.fact 363 rfl) : PySem.W.isFn K (.ref (He.ma K (He.ga K "Cell") "__init__")) = true)
    G_F_Dcell
    (Hb.dec (c.fact 364 rfl) : PySem.W.findIn K (.ref (He.ga K "Point")) "__init__" = some (some (.ref (He.ma K (He.ga K "Point") "__init__"))))
    (Hb.dec (c.fact 365 rfl) : PySem.W.isFn K (.ref (He.ma K (He.ga K "Point") "__init__")) = true)
    G_F_Dpoint
    (Hb.dec (c.fact 366 rfl) : PySem.W.findIn K (.ref (He.ga K "Part")) "__init__" = some (some (.ref (He.ma K (He.ga K "Part") "__init__"))))
    (Hb.dec (c.fact 367 rfl) : PySem.W.isFn K (.ref (He.ma K (He.ga K "Part") "__init__")) = true)
    G_F_Dpart
    (Hb.dec (c.fact 368 rfl) : PySem.W.nsIn K mainGlobals "run_turned" = some (some (.ref (He.ga K "run_turned"))))
    G_FD_rt
    (Hb.dec (c.fact 369 rfl) : PySem.W.nsIn K mainGlobals "Stuck" = some (some (.ref (He.ga K "Stuck"))))
    w_xL
    (Hb.dec (c.fact 371 rfl) : PySem.W.findIn K (.ref (He.ga K "Stuck")) "__setattr__" = some (some (.builtin "object.__setattr__")))
    (Hb.dec (c.fact 372 rfl) : PySem.W.findIn K (.ref (He.ga K "Stuck")) "__getattribute__" = some (some (.builtin "BaseException.__getattribute__")))
    (Hb.dec (c.fact 373 rfl) : PySem.W.findIn K (.ref (He.ga K "Stuck")) "__getattr__" = some none)
    (Hb.dec (c.fact 374 rfl) : PySem.W.findIn K (.ref (He.ga K "Stuck")) "word" = some none)
    (Hb.dec (c.fact 375 rfl) : PySem.W.findIn K (.ref (He.ga K "Stuck")) "__init__" = some (some (.ref (He.ma K (He.ga K "Stuck") "__init__"))))
    (Hb.dec (c.fact 376 rfl) : PySem.W.typeIn K (.ref (He.ma K (He.ga K "Stuck") "__init__")) = some (.type "function"))
    l_I
    c_I
    k_I
    (Hb.dec (c.fact 377 rfl) : PySem.W.keepIn K (.ref (He.ga K "Stuck")) = true)
    (Hb.dec (c.fact 378 rfl) : PySem.W.subIn K (.ref (He.ga K "Stuck")) (.type "BaseException") = some true)
    (Hb.dec (c.fact 379 rfl) : PySem.W.typeIn K (.ref (He.ga K "Stuck")) = some (.type "type"))
    (Hb.dec (c.fact 380 rfl) : PySem.W.hasDictIn K (He.ga K "Stuck") = true)
    (Hb.dec (c.fact 381 rfl) : PySem.W.isClsIn K (He.ga K "Stuck") = true)
    (Hb.dec (c.fact 382 rfl) : PySem.W.subIn K (.ref (He.ga K "Stuck")) (.ref (He.ga K "Stuck")) = some true)
    (Hb.dec (c.fact 383 rfl) : PySem.W.subIn K (.ref (He.ga K "Stuck")) (.type "RuntimeError") = some true)
    (Hb.dec (c.fact 384 rfl) : PySem.W.findIn K (.ref (He.ga K "Stuck")) "__class__" = some (some (.builtin "object.__class__")))
    (Hb.dec (c.fact 385 rfl) : PySem.W.mroIn K (He.ga K "Stuck") (.type "object") = some true)
    (Hb.cvB_ok (c.fact 386 rfl))
end Hx
open PySem PySem.W PySem.Calls PyProof.Rows
theorem PySem.Challenge.cw_windpoints_k32_lesser_runs_holds : PySem.Challenge.rw_windpoints_k32_lesser_runs.Holds := by
  w_on; o_law
  refine HandSHeadRun.head_any (r := OpenLaw.row PySem.Challenge.rw_windpoints_k32_lesser_runs) (q := view (OpenLaw.row PySem.Challenge.rw_windpoints_k32_lesser_runs).prog [104]) (H := Hx.hk) (ob := Hx.ob) (M := 20000) (loose := Hx.loose) (d := HandSHeadRun.topDef (OpenLaw.row PySem.Challenge.rw_windpoints_k32_lesser_runs).prog 104) (kwd := []) Hx.ob_eq
    (by kernel_rfl) (fun s => by kernel_rfl) Hx.run (by kernel_rfl) (by kernel_rfl) (by kernel_rfl) (by rfl) (by first | assumption | decide +kernel) (by decide +kernel) ⟨rfl, rfl, rfl, rfl, rfl, by decide +kernel⟩ ?hw ?hc
  case hw => w_witness2
  case hc =>
    refine L2.walk_ofE (l := PySem.Challenge.rw_windpoints_k32_lesser_runs) (n := 63) (k := 21) (x := "_law_script") (CX := L2.CX0) rfl (by decide) (by kernel_rfl) ⟨rfl, by decide, by decide⟩ ?F (fun _ _ _ _ z => z)
    intro w mg fa h Y G hmg0
    obtain ⟨K, KX, c⟩ := Y
    have hmg : mg ("law" : PySem.Str) = some (.ref fa) := by
      have e : (HandSHeadRun.topDef (OpenLaw.row PySem.Challenge.rw_windpoints_k32_lesser_runs).prog 104).name = ("law" : PySem.Str) := by kernel_rfl
      rw [← e]
      exact hmg0
    obtain ⟨fd, hb, hF⟩ := Hx.facts (l := PySem.Challenge.rw_windpoints_k32_lesser_runs) (w := w) KX G hmg c
    exact ⟨K, fd, Wp.spLaw K, KX, hb, fun H a ns hl _ hS => ⟨a, ns, rfl, hS, hl, fun _ => rfl⟩, hF⟩
