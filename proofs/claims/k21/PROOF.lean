import PyProof.Rows.All
import Wide.All
import OpenK.AllK
import Wide.FinOn
import HandS.TupSets
import KE.KeyNested
import KE.KDictKeyed
import KE.SortData
import HandS.SetTxt0
import KE.DataCmp
import HandS.ForMost
import HandS.DictComp
import KE.GoesComp
import KE.GoesMore
import HandS.IsInst
import HandS.Defaults
import HandS.TupAny
import HandS.Deep
import HandS.Style
import HandS.Star
import HandS.ClsMeth
import HandS.Property
import HandS.CallLocal
import HandS.SlotsOwn
import HandS.Exc
import HandS.ExcInit
import HandS.ExcValue
import HandS.ExcIs
import HandS.ExcField
import KE.KStateDown
import HandS.Head0
import HandS.Head1
import HandS.Head2
import HandS.HeadEnd
import HandS.HeadHook1
import HandS.HeadHook2
import HandS.HeadHook3
import HandS.HeadHook4
import HandS.HeadNt
import PySem.Challenge.RW_ruleworlds_k21_partings_judged
import HandS.SetBool
import HandS.WordsExc
import KE.KBits
import HandS.Walk
import KE.KRevSl
import HandS.DeepEq
import KE.KEqNest
import HandS.Flow
import HandS.ExcOwn
import PyProof.TupleOfStr
import HandS.Call
set_option Elab.async false
set_option linter.all false
set_option maxRecDepth 100000
set_option maxHeartbeats 0
namespace Rw
open PySem PySem.Spec PyProof.Rows L2 ClX
/-! ### the head, run -/
def hookY (n : Nat) (fa : List He.Fa) (fn : List He5.DefA) (ex : PySem.W.Frag → Bool) : PySem.W.Hook where
  α := He.AlD × Bool
  obs s := (He5.obsAG n fa fn s.heap.get?, ex (He.frG s.heap.get? (He5.asA s.heap.get? n)))
  val _ := (He5.valA fn, true)
  says _ h := ∃ K : PySem.W.Frag, K.In h ∧ He5.SaysA fa fn K ∧ ex K = true
  of _ s e := ⟨_, He.frG_in, (Prod.mk.inj e).1, (Prod.mk.inj e).2⟩
  keeps _ _ _ | ⟨K, X, a, b⟩, k => ⟨K, fun c o e => k _ _ (X c o e), a, b⟩
def obY (n : Nat) (fa : List He.Fa) (fn : List He5.DefA) (ex : PySem.W.Frag → Bool) (g : Addr → Option Obj) : He.AlD × Bool := (He5.obsAG n fa fn g, ex (He.frG g (He5.asA g n)))
theorem obY_eq {n : Nat} {fa : List He.Fa} {fn : List He5.DefA} {ex : PySem.W.Frag → Bool} {g : Addr → Option Obj} {s : Shared} (h : ∀ a, g a = s.heap.get? a) : obY n fa fn ex g = (hookY n fa fn ex).obs s := by
  have e : g = s.heap.get? := funext h
  subst e
  rfl
def clsB (K : PySem.W.Frag) (C : Addr) (f : List Value → Addr → Bool → Bool) (nid : String) : Bool :=
  match K.lookup C with
  | some ⟨.type t, _, .cls cd, sl⟩ => decide (t = "type" ∧ cd.hasDel = false) && (decide (cd.mro = .ref C :: cd.mro.tail) && (f cd.mro.tail cd.ns cd.hasDict && (match sl with | ⟨[_, _, _, _, some (.builtin i), _]⟩ => decide (i = nid) | _ => false)))
  | _ => false
def oexB (K : PySem.W.Frag) (C : Addr) : Bool := clsB K C (fun bm _ hd => hd && HandSPX.refsVE bm) "ValueError.__new__" && (decide (PySem.W.findIn K (.ref C) "__setattr__" = some (some (.builtin "object.__setattr__"))) && (decide (PySem.W.subIn K (.ref C) (.type "BaseException") = some true) && (decide (PySem.W.typeIn K (.ref C) = some (.type "type")) && PySem.W.keepIn K (.ref C))))
def excP (K : PySem.W.Frag) (D : Addr) : Prop := PySem.W.findIn K (.ref D) "__getattribute__" = some (some (.builtin "BaseException.__getattribute__")) ∧ PySem.W.findIn K (.ref D) "__getattr__" = some none ∧ PySem.W.subIn K (.ref D) (.type "BaseException") = some true ∧ PySem.W.hasDictIn K D = true ∧
  PySem.W.findIn K (.ref D) "__class__" = some (some (.builtin "object.__class__")) ∧ PySem.W.specialIn K (.builtin "object.__class__") "__get__" = some (some (.builtin "getset_descriptor.__get__")) ∧ PySem.W.takesIn K (.builtin "object.__class__") = some true ∧ PySem.W.mroIn K D (.type "object") = some true
instance (K : PySem.W.Frag) (D : Addr) : Decidable (excP K D) := by unfold excP; infer_instance
def initP (K : PySem.W.Frag) (C : Addr) : Prop := PySem.W.findIn K (.ref C) "__init__" = some (some (.ref (He.ma K C "__init__"))) ∧ PySem.W.typeIn K (.ref (He.ma K C "__init__")) = some (.type "function")
instance (K : PySem.W.Frag) (D : Addr) : Decidable (initP K D) := by unfold initP; infer_instance
def propP (K : PySem.W.Frag) (C : Addr) (f : Str) : Prop := PySem.W.findIn K (.ref C) f = some (some (.ref (He.ma K C f))) ∧ PySem.W.specialIn K (.ref (He.ma K C f)) "__get__" = some (some (.builtin "property.__get__")) ∧ PySem.W.takesIn K (.ref (He.ma K C f)) = some true
instance (K : PySem.W.Frag) (D : Addr) (f : Str) : Decidable (propP K D f) := by unfold propP; infer_instance
def recB (K : PySem.W.Frag) (p : Addr) (T : String) : Bool := match PySem.W.recIn K p T with | some (.ref _ :: _) => true | _ => false
def lettersS : Str := ("abcdefghijklmnopqrstuvwxyz" : Str)
def topS (i : Nat) : Stmt := PySem.Challenge.pw_ruleworlds_k21_partings_judged.main.body.getD i (.Pass ⟨0, 0, 0, 0⟩)
abbrev sIsName : Stmt := topS 11
abbrev sIsWorld : Stmt := topS 12
abbrev sIsRule : Stmt := topS 13
abbrev sAreNames : Stmt := topS 16
abbrev sSetOf : Stmt := topS 17
abbrev sInit : Stmt := inClass (topS 15) 0
abbrev sOf : Stmt := inClass (topS 15) 1
abbrev sRules : Stmt := inClass (topS 15) 5
abbrev sNames : Stmt := inClass (topS 15) 6
abbrev sHasAll : Stmt := topS 24
abbrev sENotProg : Stmt := inClass (topS 3) 0
abbrev sEWorld : Stmt := inClass (topS 4) 0
abbrev sCheckProgram : Stmt := topS 25
abbrev sCheckWorld : Stmt := topS 26
abbrev sBitsOf : Stmt := topS 33
abbrev sNumber : Stmt := topS 34
abbrev sNumbered : Stmt := topS 35
abbrev sAgree : Stmt := topS 37
abbrev sAllMet : Stmt := topS 39
abbrev sIsFounded : Stmt := topS 38
abbrev sEvery : Stmt := topS 36
abbrev sAnswers : Stmt := topS 30
abbrev sIsAnswer : Stmt := topS 31
abbrev sAdd : Stmt := inClass (topS 15) 8
abbrev sContains : Stmt := inClass (topS 15) 10
abbrev sPLen : Stmt := inClass (topS 15) 11
abbrev sPEq : Stmt := inClass (topS 15) 12
abbrev sRule : Stmt := topS 14
abbrev sFacts : Stmt := inClass (topS 15) 2
abbrev sLawAt : Stmt := topS 53
abbrev sLawMixed : Stmt := topS 54
abbrev sLawPurse : Stmt := topS 55
abbrev sLawDraw : Stmt := topS 56
abbrev sLawSome : Stmt := topS 57
abbrev sLawRow : Stmt := topS 58
abbrev sLawRows : Stmt := topS 59
abbrev sLawStands : Stmt := topS 60
abbrev sLawHolds : Stmt := topS 61
abbrev sLawParts : Stmt := topS 62
abbrev sLawPairs : Stmt := topS 63
abbrev sLawNames : Stmt := topS 64
abbrev sLawAnswers : Stmt := topS 65
abbrev sEKind : Stmt := inClass (topS 7) 0
abbrev sCheckKind : Stmt := topS 27
abbrev sAsked : Stmt := topS 44
abbrev sIsFact : Stmt := topS 46
abbrev sMayAdd : Stmt := topS 45
abbrev sCheckPart : Stmt := topS 43
abbrev sParted0 : Stmt := topS 47
abbrev sAlike : Stmt := topS 42
abbrev sLawIsFact : Stmt := topS 66
abbrev sLawIsWorld : Stmt := topS 68
abbrev sLawDue : Stmt := topS 69
abbrev sLawAsked : Stmt := topS 70
abbrev sLawThing : Stmt := topS 67
abbrev sGreat : Stmt := topS 71
abbrev sLaw : Stmt := topS 72
/-! ### what the top has written -/
def dOf (x : Str) (st : Stmt) : He5.DefA := ⟨fun K => He.ga K x, x, x, defArgs st, defBody st, defScope st, [], []⟩
def dOfR (x : Str) (st : Stmt) : He5.DefA := ⟨fun K => He.ga K x, x, x, defArgs st, defBody st, defScope st, [.str "rules"], []⟩
def dMInit : He5.DefA := ⟨fun K => He.ma K (He.ga K "Program") "__init__", "__init__", "Program.__init__", defArgs sInit, defBody sInit, defScope sInit, [], []⟩
def dMOf : He5.DefA := ⟨fun K => He5.wf K (He.ga K "Program") "classmethod" "of", "of", "Program.of", defArgs sOf, defBody sOf, defScope sOf, [], []⟩
def dMFacts : He5.DefA := ⟨fun K => He5.wf K (He.ga K "Program") "classmethod" "facts", "facts", "Program.facts", defArgs sFacts, defBody sFacts, defScope sFacts, [], []⟩
def dMRules : He5.DefA := ⟨fun K => He5.wf K (He.ga K "Program") "property" "rules", "rules", "Program.rules", defArgs sRules, defBody sRules, defScope sRules, [], []⟩
def dMNames : He5.DefA := ⟨fun K => He5.wf K (He.ga K "Program") "property" "names", "names", "Program.names", defArgs sNames, defBody sNames, defScope sNames, [], []⟩
def dMAdd : He5.DefA := ⟨fun K => He.ma K (He.ga K "Program") "__add__", "__add__", "Program.__add__", defArgs sAdd, defBody sAdd, defScope sAdd, [], []⟩
def dMPLen : He5.DefA := ⟨fun K => He.ma K (He.ga K "Program") "__len__", "__len__", "Program.__len__", defArgs sPLen, defBody sPLen, defScope sPLen, [], []⟩
def dMENotProg : He5.DefA := ⟨fun K => He.ma K (He.ga K "NotAProgram") "__init__", "__init__", "NotAProgram.__init__", defArgs sENotProg, defBody sENotProg, defScope sENotProg, [.non], []⟩
def dMEWorld : He5.DefA := ⟨fun K => He.ma K (He.ga K "InvalidWorld") "__init__", "__init__", "InvalidWorld.__init__", defArgs sEWorld, defBody sEWorld, defScope sEWorld, [.non], []⟩
def dMEKind : He5.DefA := ⟨fun K => He.ma K (He.ga K "InvalidKind") "__init__", "__init__", "InvalidKind.__init__", defArgs sEKind, defBody sEKind, defScope sEKind, [.non], []⟩
def dMRule : He5.DefA := ⟨fun K => He.ga K "rule", "rule", "rule", defArgs sRule, defBody sRule, defScope sRule, [.adr (He.dflAt ("rule", none) 0), .adr (He.dflAt ("rule", none) 1), .adr (He.dflAt ("rule", none) 2), .adr (He.dflAt ("rule", none) 3)], []⟩
def hfn1 : List He5.DefA := [dOf "is_name" sIsName, dOf "_are_names" sAreNames, dOf "_set_of" sSetOf, dOf "is_world" sIsWorld, dOf "is_rule" sIsRule, dOf "has_all" sHasAll, dOf "check_program" sCheckProgram, dOf "check_world" sCheckWorld, dOf "check_kind" sCheckKind, dOf "answers" sAnswers, dOf "is_answer" sIsAnswer, dOf "_bits_of" sBitsOf, dOf "_number" sNumber, dOf "_numbered" sNumbered, dOf "_every_world" sEvery, dOf "_agree" sAgree, dOf "_is_founded" sIsFounded, dOf "_all_met" sAllMet, dOf "_check_asked" sAsked, dOf "_is_fact" sIsFact, dOf "_may_be_added" sMayAdd, dOf "_parted_by_nothing" sParted0, dOf "_law_at" sLawAt, dOf "_law_mixed" sLawMixed, dOf "_law_purse" sLawPurse, dOf "_law_draw" sLawDraw, dOf "_law_some" sLawSome, dOf "_law_row" sLawRow, dOf "_law_rows" sLawRows, dOf "_law_stands" sLawStands, dOf "_law_holds" sLawHolds, dOf "_law_parts" sLawParts, dOf "_law_pairs" sLawPairs, dOf "_law_names" sLawNames, dOf "_law_answers" sLawAnswers, dOf "_law_is_fact" sLawIsFact, dOf "_law_thing" sLawThing, dOf "_law_is_world" sLawIsWorld, dOf "_law_due" sLawDue, dOf "_law_asked" sLawAsked, dOf "_law_great_right" sGreat, dOf "law" sLaw]
def hfn2 : List He5.DefA := [dMInit, dMOf, dMFacts, dMRules, dMNames, dMAdd, dMPLen, dMENotProg, dMEWorld, dMEKind, dMRule, dOfR "check_parting" sCheckPart, dOfR "alike" sAlike]
def hfn : List He5.DefA := hfn1 ++ hfn2
def hfa1 : List He.Fa := [.free "len", .free "isinstance", .free "all", .free "any", .free "tuple", .free "list", .free "sorted", .free "set", .free "str", .free "int", .free "max", .free "min", .free "range", .free "enumerate", .free "sum", .str "LETTERS" lettersS, .glo "Program", .glo "NotAProgram", .glo "InvalidWorld", .glo "InvalidKind", .glo "RuleError", .glo "ADDED", .glo "is_name", .glo "_are_names", .glo "_set_of"]
def hfa2 : List He.Fa := [.glo "is_world", .glo "is_rule", .glo "has_all", .glo "check_program", .glo "check_world", .glo "check_kind", .glo "answers", .glo "is_answer", .glo "_bits_of", .glo "_number", .glo "_numbered", .glo "_every_world", .glo "_agree", .glo "_is_founded", .glo "_all_met", .glo "_check_asked", .glo "_is_fact", .glo "_may_be_added", .glo "_parted_by_nothing", .glo "_law_at", .glo "_law_mixed", .glo "_law_purse", .glo "_law_draw", .glo "_law_some", .glo "_law_row"]
def hfa3 : List He.Fa := [.glo "_law_rows", .glo "_law_stands", .glo "_law_holds", .glo "_law_parts", .glo "_law_pairs", .glo "_law_names", .glo "_law_answers", .glo "_law_is_fact", .glo "_law_thing", .glo "_law_is_world", .glo "_law_due", .glo "_law_asked", .glo "_law_great_right", .glo "law", .glo "rule", .glo "check_parting", .glo "alike", .cls "Program", .noat "Program" "_rules", .mkr "Program", .noat "NotAProgram" "thing", .noat "InvalidWorld" "thing", .noat "InvalidKind" "value", .exm "NotAProgram" "RuleError" true, .exm "InvalidWorld" "RuleError" true]
def hfa4 : List He.Fa := [.exm "InvalidKind" "RuleError" true]
def hfa : List He.Fa := hfa1 ++ hfa2 ++ hfa3 ++ hfa4
/-- more of the classes -/
def pgP (K : PySem.W.Frag) (C : Addr) : Prop := PySem.W.kitOne K (.ref C) (.ref C) = some true ∧ PySem.W.kitOne K (.type "NoneType") (.ref C) = some false ∧ PySem.W.kitOne K (.type "bool") (.ref C) = some false ∧ PySem.W.kitOne K (.type "int") (.ref C) = some false ∧ PySem.W.kitOne K (.type "str") (.ref C) = some false ∧
  PySem.W.kitOne K (.type "list") (.ref C) = some false ∧ PySem.W.kitOne K (.type "tuple") (.ref C) = some false ∧ PySem.W.kitOne K (.type "dict") (.ref C) = some false ∧ PySem.W.findIn K (.ref C) "__class__" = some (some (.builtin "object.__class__")) ∧
  PySem.W.specialIn K (.builtin "object.__class__") "__get__" = some (some (.builtin "getset_descriptor.__get__")) ∧ PySem.W.takesIn K (.builtin "object.__class__") = some true ∧ PySem.W.mroIn K C (.type "object") = some true
instance (K : PySem.W.Frag) (C : Addr) : Decidable (pgP K C) := by unfold pgP; infer_instance
def readP (K : PySem.W.Frag) (C : Addr) : Prop := PySem.W.readsIn K C (.type "type") = true ∧ PySem.W.specialIn K (.ref C) "__getattribute__" = some (some (.builtin "type.__getattribute__"))
instance (K : PySem.W.Frag) (C : Addr) : Decidable (readP K C) := by unfold readP; infer_instance
def emptyB (K : PySem.W.Frag) (a : Addr) : Bool := match K.lookup a with
  | some ⟨.type c, _, .seq its _, _⟩ => decide (c = "tuple") && its.toList.isEmpty
  | _ => false
def exL0 (K : PySem.W.Frag) (C : Addr) : List Bool := [decide (pgP K C), decide (readP K C), PySem.W.selfFirst K C, He.tupB K "ADDED" [.str "rules", .str "facts", .str "nothing"], oexB K (He.ga K "NotAProgram"), decide (initP K (He.ga K "NotAProgram")), decide (excP K (He.ga K "NotAProgram")), oexB K (He.ga K "InvalidWorld"), decide (initP K (He.ga K "InvalidWorld")), decide (excP K (He.ga K "InvalidWorld")), oexB K (He.ga K "InvalidKind"), decide (initP K (He.ga K "InvalidKind"))]
def exL1 (K : PySem.W.Frag) (C : Addr) : List Bool := [decide (excP K (He.ga K "InvalidKind")), decide (PySem.W.kitOne K (.ref (He.ga K "NotAProgram")) (.ref (He.ga K "NotAProgram")) = some true), decide (PySem.W.kitOne K (.ref (He.ga K "InvalidKind")) (.ref (He.ga K "NotAProgram")) = some false), decide (PySem.W.kitOne K (.ref (He.ga K "InvalidKind")) (.ref (He.ga K "InvalidKind")) = some true), decide (PySem.W.kitOne K (.type "NoneType") (.ref (He.ga K "NotAProgram")) = some false), decide (PySem.W.kitOne K (.type "NoneType") (.ref (He.ga K "InvalidKind")) = some false), decide (propP K C "rules"), recB K (He.ma K C "rules") "property", decide (propP K C "names"), recB K (He.ma K C "names") "property", He5.wrapB K C "classmethod" "classmethod.__get__" "of", PySem.W.fnIn K (He5.wf K C "classmethod" "of")]
def exL2 (K : PySem.W.Frag) (C : Addr) : List Bool := [He5.wrapB K C "classmethod" "classmethod.__get__" "facts", PySem.W.fnIn K (He5.wf K C "classmethod" "facts"), decide (PySem.W.findIn K (.ref C) "__add__" = some (some (.ref (He.ma K C "__add__")))), PySem.W.isFn K (.ref (He.ma K C "__add__")), decide (PySem.W.findIn K (.ref C) "__len__" = some (some (.ref (He.ma K C "__len__")))), PySem.W.isFn K (.ref (He.ma K C "__len__")), emptyB K (He.dflAt ("rule", none) 0 K), emptyB K (He.dflAt ("rule", none) 1 K), emptyB K (He.dflAt ("rule", none) 2 K), emptyB K (He.dflAt ("rule", none) 3 K)]
def exL (K : PySem.W.Frag) (C : Addr) : List Bool := exL0 K C ++ exL1 K C ++ exL2 K C
def exB (K : PySem.W.Frag) : Bool := (exL K (He.ga K "Program")).all id
abbrev hR : PySem.W.OpenRow := PySem.W.OpenLaw.row PySem.Challenge.rw_ruleworlds_k21_partings_judged
abbrev hH : PySem.W.Hook := hookY 6 hfa hfn exB
def hob (s : PySem.W.SharedT) : He.AlD × Bool := obY 6 hfa hfn exB (HandSHeadRun.getT s)
theorem hob_eq (s : PySem.W.SharedT) : hob s = hH.obs s.abs := obY_eq (HandSHeadRun.getT_eq s)
def hloose1 : List Str := ["RuleError", "InvalidRule", "NotAProgram", "InvalidWorld", "InvalidNames", "Unreadable", "InvalidKind", "LETTERS", "NOT", "is_name", "is_world", "is_rule", "rule", "Program", "_are_names", "_set_of", "_written_rule", "_with_not", "_read_rule", "_halves", "_without_not", "has_all", "check_program", "check_world", "check_kind", "pairs", "answers", "is_answer", "_chosen_names", "_bits_of"]
def hloose2 : List Str := ["_number", "_numbered", "_every_world", "_agree", "_is_founded", "_all_met", "ADDED", "alike", "check_parting", "_check_asked", "_may_be_added", "_is_fact", "_parted_by_nothing", "_parted_by_facts", "_parted_by_rules", "_lesser_worlds", "_is_supported", "_law_at", "_law_mixed", "_law_purse", "_law_draw", "_law_some", "_law_row", "_law_rows", "_law_stands", "_law_holds", "_law_parts", "_law_pairs", "_law_names", "_law_answers"]
def hloose3 : List Str := ["_law_is_fact", "_law_thing", "_law_is_world", "_law_due", "_law_asked", "_law_great_right"]
def hloose : List Str := hloose1 ++ hloose2 ++ hloose3
theorem hrun (w : World) : HandSHeadRun.RunEq hR (PySem.W.view hR.prog [72]) hH hob 9000 hloose w := by
  intro os
  kernel_rfl
end Rw
/-! Sets whose members are texts, or tuples of texts and of such tuples: made of a list or a tuple, and gathered again. -/
namespace Rw
open PySem PySem.Spec PyProof.Rows L2
abbrev NK := NestedKey
section
variable {P : Program} {w : World}
/-! no class statement stands in a key -/
mutual
theorem noCls : ∀ (k : NK) (v : Value) (n : Nat) (A : Around) (E : Value → Shared → Prop) (s : Shared) (Q : Bool → Shared → Prop), NestedIs s.heap k v → k.depth ≤ n → Q false s → wpAny (model P w) A (ofAClassStatement n v) Q E s
  | .none, _, n, A, E, s, Q, x, _, h => by
    cases x
    cases n <;> exact wpAny_pure h
  | .num i, _, n, A, E, s, Q, x, _, h => by
    cases x <;> cases n <;> exact wpAny_pure h
  | .text y, _, n, A, E, s, Q, x, _, h => by
    cases x
    cases n <;> exact wpAny_pure h
  | .tup ks, _, n, A, E, s, Q, x, hn, h => by
    cases x with
    | @tup a o vs m _ hg hc hd hk =>
      simp only [NestedKey.depth] at hn
      cases n with
      | zero => omega
      | succ n =>
        have hT : s.TypeIs (.ref a) "tuple" := ⟨o, hg, hc⟩
        unfold ofAClassStatement
        refine wpAny_bind (wpAny_typeOf hT ?_)
        dsimp only
        have e : (("tuple" : String) == "tuple") = true := by decide
        simp only [e, if_true, Bool.not_true, Bool.false_eq_true, if_false]
        try refine wpAny_bind (wpAny_pure ?_)
        try simp only [Bool.not_true, Bool.false_eq_true, if_false]
        show wpAny _ _ (seqItems? (.ref a) >>= _) _ _ s
        refine wpAny_bind (wpAny_seqItems hg hd ?_)
        dsimp only
        refine wpAny_bind ?_
        show wpAny _ _ (forIn vs _ _) _ _ s
        rw [← Array.forIn_toList]
        refine noClsAll ks vs.toList n A E s _ hk (by omega) ?_
        exact wpAny_pure h
theorem noClsAll : ∀ (ks : List NK) (vs : List Value) (n : Nat) (A : Around) (E : Value → Shared → Prop) (s : Shared) (Q : Option Bool × Unit → Shared → Prop), NestedAll s.heap ks vs → NestedKey.depthAll ks ≤ n → Q (none, ()) s →
    wpAny (model P w) A (forIn vs ((none, ()) : Option Bool × Unit) fun y r => do if ← ofAClassStatement n y then pure (ForInStep.done (some true, ())) else pure (ForInStep.yield (none, ()))) Q E s
  | [], _, n, A, E, s, Q, x, _, h => by
    cases x
    exact wpAny_pure h
  | k :: ks, _, n, A, E, s, Q, x, hn, h => by
    cases x with
    | cons x1 x2 =>
      simp only [NestedKey.depthAll] at hn
      rw [List.forIn_cons]
      refine wpAny_bind (wpAny_bind (noCls k _ n A E s _ x1 (by omega) ?_))
      simp only [Bool.false_eq_true, if_false]
      refine wpAny_pure ?_
      exact noClsAll ks _ n A E s Q x2 (by omega) h
end
/-! whether a key is hashed by its value: either answer -/
mutual
theorem byVal : ∀ (k : NK) (v : Value) (n : Nat) (A : Around) (E : Value → Shared → Prop) (s : Shared) (Q : Bool → Shared → Prop), NestedIs s.heap k v → (∀ b, Q b s) → wpAny (model P w) A (hashByValue n v) Q E s
  | .none, _, n, A, E, s, Q, x, h => by
    cases x
    cases n <;> exact wpAny_pure (h _)
  | .num i, _, n, A, E, s, Q, x, h => by
    cases x <;> cases n <;> exact wpAny_pure (h _)
  | .text y, _, n, A, E, s, Q, x, h => by
    cases x
    cases n <;> exact wpAny_pure (h _)
  | .tup ks, _, n, A, E, s, Q, x, h => by
    cases x with
    | @tup a o vs m _ hg hc hd hk =>
      cases n with
      | zero => exact wpAny_pure (h _)
      | succ n =>
        have hT : s.TypeIs (.ref a) "tuple" := ⟨o, hg, hc⟩
        unfold hashByValue
        refine wpAny_bind (wpAny_specialOf hT F.slot_tuple_hash.lookup ?_)
        show wpAny _ _ (seqItems? (.ref a) >>= _) _ _ s
        refine wpAny_bind (wpAny_seqItems hg hd ?_)
        refine wpAny_bind ?_
        show wpAny _ _ (forIn vs _ _) _ _ s
        rw [← Array.forIn_toList]
        refine byValAll ks vs.toList n A E s _ hk ?_ ?_
        · exact wpAny_pure (h _)
        · exact wpAny_pure (h _)
theorem byValAll : ∀ (ks : List NK) (vs : List Value) (n : Nat) (A : Around) (E : Value → Shared → Prop) (s : Shared) (Q : Option Bool × Unit → Shared → Prop), NestedAll s.heap ks vs → Q (none, ()) s → Q (some false, ()) s →
    wpAny (model P w) A (forIn vs ((none, ()) : Option Bool × Unit) fun y r => do if !(← hashByValue n y) then pure (ForInStep.done (some false, ())) else pure (ForInStep.yield (none, ()))) Q E s
  | [], _, n, A, E, s, Q, x, h, _ => by
    cases x
    exact wpAny_pure h
  | k :: ks, _, n, A, E, s, Q, x, h, h2 => by
    cases x with
    | cons x1 x2 =>
      rw [List.forIn_cons]
      refine wpAny_bind (wpAny_bind (byVal k _ n A E s _ x1 fun b => ?_))
      cases b with
      | true =>
        simp only [Bool.not_true, Bool.false_eq_true, if_false]
        refine wpAny_pure ?_
        exact byValAll ks _ n A E s Q x2 h h2
      | false =>
        simp only [Bool.not_false, if_true]
        exact wpAny_pure (wpAny_pure h2)
end
end
/-! ### sets of tuples -/
/-- a tuple that is a key, not too deep -/
def TupK (h : Heap) (k : NK) (a : Addr) : Prop := NestedIs h k (.ref a) ∧ k.depth ≤ 8
theorem TupK.one {h : Heap} {k k' : NK} {a : Addr} (x : TupK h k a) (y : TupK h k' a) : k = k' := NestedIs.inj _ _ _ x.1 y.1
theorem TupK.kept {h h' : Heap} {k : NK} {a : Addr} (x : TupK h k a) (u : ∀ b o, h.get? b = some o → h'.get? b = some o) : TupK h' k a :=
  ⟨NestedIs.at (fun b o _ _ e _ => u b o e) _ _ x.1, x.2⟩
/-- all but a set stays -/
theorem TupK.butSet {h h' : Heap} {k : NK} {a b : Addr} {o : Obj} {es : Array (Int × Value)} {ep : Nat} {t : SetTable} (x : TupK h k b) (ho : h.get? a = some o) (hd : o.data = .set es ep t) (sb : Heap.SameBut a h h') : TupK h' k b := by
  refine ⟨NestedIs.at (fun c u vs n e es' => (sb.2 c ?_).trans e) _ _ x.1, x.2⟩
  intro z
  subst z
  have q : u = o := Option.some.inj (e.symm.trans ho)
  rw [q, hd] at es'
  exact nomatch es'
/-- the entries of a table -/
def ents (w : World) (L : List (Addr × NK)) : List (Int × Value) := L.map fun p => (p.2.hash w, Value.ref p.1)
def hashes (w : World) (L : List (Addr × NK)) : List Int := L.map fun p => p.2.hash w
theorem ents_len (w : World) (L : List (Addr × NK)) : (ents w L).length = L.length := List.length_map _
theorem hashes_len (w : World) (L : List (Addr × NK)) : (hashes w L).length = L.length := List.length_map _
structure TSet (P : Program) (w : World) (h : Heap) (a : Addr) (L : List (Addr × NK)) (es : Array (Int × Value)) (ep : Nat) (t : SetTable) : Prop where
  ob : ∃ o, h.get? a = some o ∧ o.ExactSet ∧ o.data = .set es ep t
  en : es.toList = ents w L
  tab : TabOk t (hashes w L)
  nd : (L.map (·.2)).Nodup
  ks : ∀ p ∈ L, TupK h p.2 p.1
  led : w.params.followText "set-order" = true ∨ t.led = true
  room : L.length * 5 < t.mask * 3
  few : L.length < 76
section
variable {P : Program} {w : World} {A : Around} {E : Value → Shared → Prop} {s : Shared} {a : Addr} {L : List (Addr × NK)} {es : Array (Int × Value)} {ep : Nat} {t : SetTable}
theorem size_of_ents (h : es.toList = ents w L) : es.size = L.length := by
  rw [← Array.length_toList, h, ents_len]
theorem TSet.fits (R : TSet P w s.heap a L es ep t) : t.fits es.size = true := by
  have a1 := R.tab.sz
  have a2 := size_of_ents R.en
  have a3 := R.room
  rw [hashes_len] at a1
  unfold SetTable.fits SetTable.fill
  rw [R.tab.dm, Bool.and_eq_true, beq_iff_eq, decide_eq_true_eq]
  refine ⟨by omega, ?_⟩
  show t.place.size + 0 ≤ t.mask
  omega
theorem TSet.at (R : TSet P w s.heap a L es ep t) {i : Nat} {p : Addr × NK} (h : L[i]? = some p) : es[i]? = some (p.2.hash w, Value.ref p.1) := by
  rw [← Array.getElem?_toList, R.en]
  unfold ents
  rw [List.getElem?_map, h]
  rfl
/-- nobody sees a search among such tuples -/
theorem unseen {k : NK} {b : Addr} {Q : Bool → Shared → Prop} (hk : TupK s.heap k b) {ys : List Value} (hy : ∀ y ∈ ys, ∃ k' c, y = Value.ref c ∧ TupK s.heap k' c) (h : Q false s) : wpAny (model P w) A (searchCouldBeSeen (.ref b) ys) Q E s := by
  unfold searchCouldBeSeen
  refine wpAny_bind ?_
  refine wpAny_forIn_list _ (fun rest r s' => r.1 = none ∧ s' = s ∧ ∀ y ∈ rest, ∃ k' c, y = Value.ref c ∧ TupK s.heap k' c) _ ?turn ?last _ _ ⟨rfl, rfl, hy⟩
  case turn =>
    rintro v rest r s' ⟨hr, rfl, all⟩
    obtain ⟨k', c, rfl, hc⟩ := all v List.mem_cons_self
    have more : ∀ y ∈ rest, ∃ k' c, y = Value.ref c ∧ TupK s'.heap k' c := fun u hu => all u (List.mem_cons_of_mem _ hu)
    dsimp only
    by_cases hv : (b == c || (carriedByValue (.ref b) && carriedByValue (.ref c))) = true
    · exact wp_if_pos hv (wpAny_pure ⟨rfl, rfl, more⟩)
    · refine wp_if_neg hv (wpAny_bind ((nestedKind P w).quiet (k := k) hk ?_))
      simp only [Bool.not_true, Bool.false_eq_true, if_false]
      refine wpAny_bind ((nestedKind P w).quiet (k := k') hc ?_)
      simp only [Bool.not_true, Bool.false_eq_true, if_false]
      refine wpAny_bind (noCls k _ 8 _ _ _ _ hk.1 hk.2 ?_)
      simp only [Bool.false_eq_true, if_false]
      refine wpAny_bind (noCls k' _ 8 _ _ _ _ hc.1 hc.2 ?_)
      simp only [Bool.false_eq_true, if_false]
      exact wpAny_pure ⟨rfl, rfl, more⟩
  case last =>
    rintro ⟨r1, r2⟩ s' ⟨hr, rfl, _⟩
    simp only at hr
    subst hr
    exact wpAny_pure h
end
/-! ### the search -/
/-- the states of a search for the hash g, one after the other -/
def st (m : Nat) (g : Int) (c : Nat) : SetTable.Probe := nth m (runAt m (SetTable.bits g % (m + 1)) (SetTable.bits g)) c
theorem st_way (m : Nat) (g : Int) (c : Nat) : (st m g c).j = way m g c := rfl
theorem st_more (m : Nat) (g : Int) (c q : Nat) : nth m (st m g c) q = st m g (c + q) := (nth_add m c _ q).symm
theorem nth_dummy (m : Nat) : ∀ (n : Nat) (p : SetTable.Probe), p.dummy = none → (nth m p n).dummy = none
  | 0, _, h => h
  | n + 1, p, h => nth_dummy m n (adv m p) (by unfold adv; split <;> exact h)
theorem st_dummy (m : Nat) (g : Int) (c : Nat) : (st m g c).dummy = none := nth_dummy m c _ rfl
section
variable {P : Program} {w : World} {A : Around} {E : Value → Shared → Prop} {s : Shared} {a : Addr} {L : List (Addr × NK)} {es : Array (Int × Value)} {ep : Nat} {t : SetTable}
theorem hunt (R : TSet P w s.heap a L es ep t) {x : Addr} {k : NK} (hx : TupK s.heap k x) (hu : A.units + 8 < cLine) {g : Int} (hg : g = k.hash w) {K : Nat} (hf : K < 10 * SetTable.turns t.mask)
    (free : way t.mask g K ∉ t.place.toList) (full : ∀ c, c < K → way t.mask g c ∈ t.place.toList) {Q : SetFound → Shared → Prop}
    (yes : k ∈ L.map (·.2) → Q (.there none) s) (no : k ∉ L.map (·.2) → Q (.free (way t.mask g K) false) s) :
    ∀ (f c : Nat) (stand : Option SetTable.Probe), stand.getD (t.probeStart g) = st t.mask g c → c ≤ K → K - c < f →
      (∀ (i : Nat) p, L[i]? = some p → p.2 = k → ∃ c', c ≤ c' ∧ c' < K ∧ t.place.toList[i]? = some (way t.mask g c')) →
      wpAny (model P w) A (setSearchFrom a (.ref x) g true f stand) Q E s
  | 0, c, stand, _, _, h, _ => absurd h (Nat.not_lt_zero _)
  | f + 1, c, stand, hst, hc, hlt, ahead => by
    obtain ⟨o, ho, hex, hd⟩ := R.ob
    have big := R.fits
    have hashOf : ∀ (i : Nat) p, L[i]? = some p → (es[i]?.map (·.1)).getD 0 = p.2.hash w := fun i p hp => by
      rw [R.at hp]
      rfl
    have oddM := mask_odd R.tab.mok
    rw [setSearchFrom_succ]
    refine wpAny_bind (wpAny_setState_of ho hd big ?_)
    dsimp only
    refine wp_if_neg (by unfold SetTable.gaveWay; rw [oddM]; decide) ?_
    try refine wpAny_bind (wpAny_pure ?_)
    have jAt : ∀ q, (nth t.mask (st t.mask g c) q).j = way t.mask g (c + q) := fun q => congrArg SetTable.Probe.j (st_more t.mask g c q)
    rcases go_spec t R.tab.ris R.tab.dm (fun i => (es[i]?.map (·.1)).getD 0) g (10 * SetTable.turns t.mask) (K - c) (st t.mask g c) (st_dummy _ _ _) (by omega)
      (fun q hq => by rw [jAt]; exact full (c + q) (by omega)) (by rw [jAt, show c + (K - c) = K by omega]; exact free) with ⟨q, i, hq, hi, hh, first, met⟩ | ⟨none_, met⟩
    · -- an entry of this hash
      have met' : t.probe (fun i => (es[i]?.map (·.1)).getD 0) g (stand.getD (t.probeStart g)) = some (.candidate (way t.mask g (c + q)) i (st t.mask g (c + (q + 1)))) := by
        rw [hst, ← jAt, ← st_more]
        exact met
      rw [met']
      dsimp only
      rw [jAt] at hi
      have il : i < L.length := by
        have z1 : i < t.place.toList.length := (List.getElem?_eq_some_iff.mp hi).1
        have z2 := R.tab.sz
        rw [hashes_len] at z2
        rw [Array.length_toList] at z1
        omega
      obtain ⟨p, hp⟩ : ∃ p, L[i]? = some p := ⟨L[i], List.getElem?_eq_getElem il⟩
      have pm : p ∈ L := List.mem_of_getElem? hp
      have pk := R.ks p pm
      have go : wpAny (model P w) A (searchRest a (.ref x) g true f es t (way t.mask g (c + q)) i (st t.mask g (c + (q + 1)))) Q E s := by
        unfold searchRest
        rw [R.at hp]
        dsimp only
        refine wpAny_bind (wpAny_holding ((nestedKind P w).eqBool (x := p.2) (y := k) hu pk hx ?_))
        refine wpAny_bind (wpAny_setState_of ho hd big ?_)
        dsimp only
        by_cases same : p.2 = k
        · refine wp_if_pos (by simp [same]) (wpAny_pure (yes ?_))
          exact List.mem_map.mpr ⟨p, pm, same⟩
        · refine wp_if_neg (by simp [same]) ?_
          try refine wpAny_bind (wpAny_pure ?_)
          rw [sameMem]
          dsimp only
          have live : t.slot (way t.mask g (c + q)) = .live i := slot_live R.tab.ris hi
          simp only [if_true, live, R.at hp]
          refine wpAny_bind (wpAny_isSame_ref_self (wpAny_bind (wpAny_pure ?_)))
          simp only [if_true]
          refine wp_if_neg (by simp [same]) ?_
          refine hunt R hx hu hg hf free full yes no f (c + (q + 1)) _ rfl (by omega) (by omega) fun i0 p0 h0 k0 => ?_
          obtain ⟨c', b1, b2, b3⟩ := ahead i0 p0 h0 k0
          refine ⟨c', ?_, b2, b3⟩
          by_cases ec : c' = c + q
          · exfalso
            rw [ec] at b3
            have l0 := slot_live R.tab.ris b3
            rw [live] at l0
            injection l0 with l0
            rw [← l0, hp] at h0
            exact same ((congrArg Prod.snd (Option.some.inj h0)).trans k0)
          · by_cases lt : c' < c + q
            · exfalso
              refine first (c' - c) i0 (by omega) (by rw [jAt, show c + (c' - c) = c' by omega]; exact b3) ?_
              show (es[i0]?.map (·.1)).getD 0 = g
              rw [hashOf i0 p0 h0, k0, hg]
            · omega
      by_cases hl : t.led = true
      · refine wp_if_neg (by simp [hl]) ?_
        try refine wpAny_bind (wpAny_pure ?_)
        exact go
      · refine wp_if_pos (by simp [hl]) (wpAny_bind (unseen hx (fun y hy => ?_) ?_))
        · obtain ⟨e, he, ee⟩ := List.mem_map.mp hy
          have he1 : e ∈ es ∧ e.1 = g := by simpa using he
          have he2 : e ∈ es.toList := by simpa using he1.1
          rw [R.en] at he2
          obtain ⟨p2, hp2, e2⟩ := List.mem_map.mp he2
          exact ⟨p2.2, p2.1, by rw [← ee, ← e2], R.ks p2 hp2⟩
        · refine wp_if_neg (by decide) ?_
          try refine wpAny_bind (wpAny_pure ?_)
          exact go
    · -- a free slot
      have met' : t.probe (fun i => (es[i]?.map (·.1)).getD 0) g (stand.getD (t.probeStart g)) = some (.empty (way t.mask g K) none) := by
        have e2 : way t.mask g K = (nth t.mask (st t.mask g c) (K - c)).j := by
          rw [jAt, show c + (K - c) = K by omega]
        rw [hst, e2]
        exact met
      rw [met']
      dsimp only
      refine wpAny_pure (no fun hm => ?_)
      obtain ⟨p0, m0, k0⟩ := List.mem_map.mp hm
      obtain ⟨i0, hi0, e0⟩ := List.getElem_of_mem m0
      have h0 : L[i0]? = some p0 := by rw [List.getElem?_eq_getElem hi0, e0]
      obtain ⟨c', b1, b2, b3⟩ := ahead i0 p0 h0 k0
      refine none_ (c' - c) i0 (by omega) (by rw [jAt, show c + (c' - c) = c' by omega]; exact b3) ?_
      show (es[i0]?.map (·.1)).getD 0 = g
      rw [hashOf i0 p0 h0, k0, hg]
theorem hunted (R : TSet P w s.heap a L es ep t) {x : Addr} {k : NK} (hx : TupK s.heap k x) (hu : A.units + 8 < cLine) {Q : SetFound → Shared → Prop} (yes : k ∈ L.map (·.2) → Q (.there none) s)
    (no : ∀ K, k ∉ L.map (·.2) → way t.mask (k.hash w) K ∉ t.place.toList → (∀ c, c < K → way t.mask (k.hash w) c ∈ t.place.toList) → Q (.free (way t.mask (k.hash w) K) false) s) :
    wpAny (model P w) A (setSearch a (.ref x) (k.hash w) true) Q E s := by
  have space := R.room
  obtain ⟨K, kf, free, full⟩ := R.tab.first (by rw [hashes_len]; omega) (k.hash w)
  have small : K < 100000 := by
    have : 10 * SetTable.turns t.mask ≤ 1420 := by
      unfold SetTable.turns
      rcases R.tab.mok with e | e | e <;> omega
    omega
  unfold setSearch
  refine hunt R hx hu rfl kf free full yes (fun hn => no K hn free full) 100000 0 none rfl (Nat.zero_le _) (by omega) fun i p hp hk => ?_
  have hi : (hashes w L)[i]? = some (k.hash w) := by
    unfold hashes
    rw [List.getElem?_map, hp, ← hk]
    rfl
  have il : i < t.place.toList.length := by
    have z1 : i < L.length := (List.getElem?_eq_some_iff.mp hp).1
    have z2 := R.tab.sz
    rw [hashes_len] at z2
    rw [Array.length_toList]
    omega
  have hj := List.getElem?_eq_getElem il
  obtain ⟨c, hc, e⟩ := R.tab.before free hi hj
  exact ⟨c, Nat.zero_le _, hc, by rw [hj, e]⟩
end
/-! ### one put in -/
theorem relist {w : World} (L : List (Addr × NK)) (es : Array (Int × Value)) (order : Array Nat) (he : es.toList = ents w L) (hp : order.toList.Perm (List.range L.length)) :
    ∃ L2, (order.filterMap (es[·]?)).toList = ents w L2 ∧ L2.Perm L ∧ hashes w L2 = order.toList.map fun i => (es.map (·.1)).getD i 0 := by
  have one : ∀ i (h : i < L.length), es[i]? = some ((L[i]).2.hash w, Value.ref (L[i]).1) := fun i h => by
    rw [← Array.getElem?_toList, he]
    unfold ents
    rw [List.getElem?_map, List.getElem?_eq_getElem h]
    rfl
  have all : ∀ l : List Nat, (∀ i ∈ l, i < L.length) → l.filterMap (fun i => es[i]?) = ents w (l.filterMap fun i => L[i]?) ∧ hashes w (l.filterMap fun i => L[i]?) = l.map fun i => (es.map (·.1)).getD i 0 := by
    intro l
    induction l with
    | nil => exact fun _ => ⟨rfl, rfl⟩
    | cons i l ih =>
      intro hl
      have hi := hl i List.mem_cons_self
      obtain ⟨e1, e2⟩ := ih fun j hj => hl j (List.mem_cons_of_mem _ hj)
      rw [List.filterMap_cons_some (List.getElem?_eq_getElem hi), List.filterMap_cons_some (one i hi), e1, List.map_cons, ← e2]
      refine ⟨rfl, ?_⟩
      have e5 : (es.map (·.1))[i]? = some ((L[i]).2.hash w) := by
        rw [Array.getElem?_map, one i hi]
        rfl
      have e4 : (es.map (·.1)).getD i 0 = (L[i]).2.hash w := by simp [Array.getD_eq_getD_getElem?, e5]
      rw [e4]
      rfl
  obtain ⟨e1, e2⟩ := all order.toList fun i hi => List.mem_range.mp (hp.mem_iff.mp hi)
  refine ⟨order.toList.filterMap fun i => L[i]?, by first | (rw [Array.toList_filterMap]; exact e1) | simpa using e1, ?_, e2⟩
  have z := hp.filterMap fun i => L[i]?
  rw [List.filterMap_getElem?_range_length] at z
  exact z
theorem TabOk.unplain {t : SetTable} {hs : List Int} (T : TabOk t hs) : TabOk { t with plain := false } hs := ⟨T.ris, T.dm, T.sz, T.mok, T.bd, T.reach⟩
section
variable {P : Program} {w : World} {A : Around} {E : Value → Shared → Prop} {s : Shared} {a : Addr} {L : List (Addr × NK)} {es : Array (Int × Value)} {ep : Nat} {t : SetTable}
theorem relaid_at {o : Obj} (ho : s.heap.get? a = some o) (hex : o.ExactSet) (hd : o.data = .set es ep t) (en : es.toList = ents w L) (tab : TabOk t (hashes w L)) (hfl : L.length ≤ t.mask)
    (nd : (L.map (·.2)).Nodup) (ks : ∀ p ∈ L, TupK s.heap p.2 p.1) (ld : w.params.followText "set-order" = true ∨ t.led = true) (few : L.length < 76) {wanted M : Nat}
    (hw : SetTable.sizeAbove wanted - 1 = M) (hM : MaskOk M) (hw2 : SetTable.sizeAbove wanted ≤ 128) (hn : L.length * 5 < M * 3) {Q : Unit → Shared → Prop}
    (hQ : ∀ h' L' es' ep' t', Heap.SameBut a s.heap h' → TSet P w h' a L' es' ep' t' → L'.Perm L → Q () { s with heap := h' }) : wpAny (model P w) A (setRelay a wanted) Q E s := by
  have hsl := size_of_ents en
  have hps : t.place.size = es.size := by rw [tab.sz, hashes_len, hsl]
  have fits : t.fits es.size = true := by
    unfold SetTable.fits SetTable.fill
    rw [tab.dm, Bool.and_eq_true, beq_iff_eq, decide_eq_true_eq]
    refine ⟨hps, ?_⟩
    show t.place.size + 0 ≤ t.mask
    omega
  obtain ⟨t', order, e, hp, T, em, el, _, _⟩ := relaid_ok t (hs := es.map (·.1)) (wanted := wanted) hw hM (by rw [Array.size_map, hsl]; omega)
  rw [Array.size_map, hsl] at hp
  obtain ⟨L2, r1, r2, r3⟩ := relist L es order en hp
  rw [← r3] at T
  have hs2 : (order.filterMap (es[·]?)).size = es.size := by rw [size_of_ents r1, r2.length_eq, hsl]
  rw [setRelay_eq]
  refine wpAny_bind (wpAny_setState_of ho hd fits ?_)
  dsimp only
  refine wp_if_neg (by rw [sizeLine_eq]; omega) ?_
  try refine wpAny_bind (wpAny_pure ?_)
  rw [e]
  dsimp only
  refine wpAny_bind (wp_if_neg (by rw [hs2]; simp) ?_)
  try refine wpAny_bind (wpAny_pure ?_)
  refine wpAny_pure ?_
  dsimp only
  refine wpAny_storeSet_of ho hd ?_ (by rw [hs2, hsl, sizeLine_eq]; omega)
  have sb : Heap.SameBut a s.heap (s.heap.update a (Obj.putSet (order.filterMap (es[·]?)) t')) := Heap.SameBut.update ..
  refine hQ _ L2 (order.filterMap (es[·]?)) (ep + 1) t' sb ⟨⟨_, store_at ho hd, ⟨hex.1, hex.2.1, hex.2.2⟩, rfl⟩, r1, T, (r2.map (·.2)).nodup_iff.mpr nd, fun p hpm => (ks p (r2.mem_iff.mp hpm)).butSet ho hd sb, by rw [el]; exact ld, ?_, by rw [r2.length_eq]; exact few⟩ r2
  rw [r2.length_eq, em]
  exact hn
/-- adding -/
theorem added (R : TSet P w s.heap a L es ep t) {x : Addr} {k : NK} (hx : TupK s.heap k x) (hu : A.units + 8 < cLine) (hfew : L.length + 1 < 76) {Q : Bool → Shared → Prop}
    (hQ : ∀ b h' L' es' ep' t', Heap.SameBut a s.heap h' → TSet P w h' a L' es' ep' t' → (k ∈ L.map (·.2) → L' = L) → (k ∉ L.map (·.2) → L'.Perm ((x, k) :: L)) → Q b { s with heap := h' }) :
    wpAny (model P w) A (setAddHashed a (.ref x) (k.hash w)) Q E s := by
  obtain ⟨o, ho, hex, hd⟩ := R.ob
  have hsl := size_of_ents R.en
  have hroom := R.room
  unfold setAddHashed
  refine wpAny_holding ?_
  rw [show (100000 : Nat) = 99999 + 1 from rfl, setAddHashedIn_succ]
  refine wpAny_bind (wpAny_setState_of ho hd R.fits ?_)
  dsimp only
  refine wp_if_neg (by simp [byScan, Value.scannable]) ?_
  try refine wpAny_bind (wpAny_pure ?_)
  refine wpAny_bind (hunted R hx hu (fun hm => ?_) fun K hm hK hb => ?_)
  · dsimp only
    exact wpAny_pure (hQ false s.heap L es ep t (Heap.SameBut.refl a s.heap) R (fun _ => rfl) fun z => absurd hm z)
  · dsimp only
    refine wpAny_bind (wpAny_setState_of ho hd R.fits ?_)
    dsimp only
    obtain ⟨q1, q2, q3, q4, q5, _, _, _, q9⟩ := R.tab.put hK hb
    generalize hpt : t.put (way t.mask (k.hash w) K) = pt at q1 q3 q4 q5 q9 ⊢
    obtain ⟨t1, p⟩ := pt
    dsimp only at q1 q3 q4 q5 q9 ⊢
    subst q1
    generalize hpp : SetTable.below t.place (way t.mask (k.hash w) K) = p at q2 q3 ⊢
    have hin : (SetTable.insertAt es p (k.hash w, Value.ref x)).toList = ents w (L.take p ++ (x, k) :: L.drop p) := by
      rw [SetTable.toList_insertAt, R.en]
      unfold ents
      rw [List.map_append, List.map_cons, List.map_take, List.map_drop]
    have pm := put_perm L p (x, k)
    have hlen : (L.take p ++ (x, k) :: L.drop p).length = L.length + 1 := pm.length_eq
    have hhs : hashes w (L.take p ++ (x, k) :: L.drop p) = (hashes w L).take p ++ k.hash w :: (hashes w L).drop p := by
      unfold hashes
      rw [List.map_append, List.map_cons, List.map_take, List.map_drop]
    rw [← hhs] at q3
    have nd1 : ((L.take p ++ (x, k) :: L.drop p).map (·.2)).Nodup := by
      refine (pm.map (·.2)).nodup_iff.mpr ?_
      rw [List.map_cons]
      exact List.nodup_cons.mpr ⟨hm, R.nd⟩
    have hes : (SetTable.insertAt es p (k.hash w, Value.ref x)).size = L.length + 1 := by rw [size_of_ents hin, hlen]
    generalize SetTable.insertAt es p (k.hash w, Value.ref x) = es1 at hin hes ⊢
    generalize L.take p ++ (x, k) :: L.drop p = L1 at pm hlen q3 nd1 hin
    have ld1 : w.params.followText "set-order" = true ∨ t1.led = true := by rw [q5]; exact R.led
    -- behind the question whether the hash is by value: t2 is t1, but for one mark
    have rest : ∀ t2 : SetTable, TabOk t2 (hashes w L1) → t2.mask = t.mask → t2.fill = L.length + 1 → (w.params.followText "set-order" = true ∨ t2.led = true) →
        wpAny (model P w) A (do
          storeSet a es1 t2
          if (!false && t2.tooFull) = true then do
              setRelay a (SetTable.grown (es.size + 1))
              pure true
            else pure true) Q E s := by
      intro t2 T2 m2 f2 l2
      refine wpAny_bind (wpAny_storeSet_of ho hd ?_ (by rw [hes, sizeLine_eq]; omega))
      have sb : Heap.SameBut a s.heap (s.heap.update a (Obj.putSet es1 t2)) := Heap.SameBut.update ..
      have ho1 := store_at (es' := es1) (t' := t2) ho hd
      generalize s.heap.update a (Obj.putSet es1 t2) = h1 at sb ho1 ⊢
      have ks1 : ∀ p ∈ L1, TupK h1 p.2 p.1 := fun p hp => by
        rcases List.mem_cons.mp (pm.mem_iff.mp hp) with e | hp
        · rw [e]
          exact hx.butSet ho hd sb
        · exact (R.ks p hp).butSet ho hd sb
      by_cases hf : t2.tooFull = true
      · refine wp_if_pos (by simp [hf]) ?_
        have hfull : (L.length + 1) * 5 ≥ t2.mask * 3 := by
          have h := hf
          unfold SetTable.tooFull at h
          rw [decide_eq_true_eq, f2] at h
          exact h
        rw [hsl]
        have two : (t.mask = 7 ∧ L.length = 4) ∨ (t.mask = 31 ∧ L.length = 18) := by
          rcases R.tab.mok with e | e | e
          · left; rw [m2, e] at hfull; rw [e] at hroom; exact ⟨e, by omega⟩
          · right; rw [m2, e] at hfull; rw [e] at hroom; exact ⟨e, by omega⟩
          · exfalso; rw [m2, e] at hfull; omega
        have go : ∀ M, SetTable.sizeAbove (SetTable.grown (L.length + 1)) - 1 = M → MaskOk M → SetTable.sizeAbove (SetTable.grown (L.length + 1)) ≤ 128 → (L.length + 1) * 5 < M * 3 →
            wpAny (model P w) A (do setRelay a (SetTable.grown (L.length + 1)); pure true) Q E { s with heap := h1 } := fun M e1 e2 e3 e4 => by
          refine wpAny_bind (relaid_at (s := { s with heap := h1 }) ho1 ⟨hex.1, hex.2.1, hex.2.2⟩ rfl hin T2 (by rw [hlen, m2]; rcases two with ⟨e, e'⟩ | ⟨e, e'⟩ <;> omega) nd1 ks1 l2 (by rw [hlen]; exact hfew) e1 e2 e3 (by rw [hlen]; exact e4) ?_)
          intro h2 L2 es2 ep2 t2 sb2 R2 pm2
          exact wpAny_pure (hQ true h2 L2 es2 ep2 t2 (sb.trans sb2) R2 (fun z => absurd z hm) fun _ => pm2.trans pm)
        rcases two with ⟨_, e2⟩ | ⟨_, e2⟩
        · exact go 31 (by rw [e2, size_20]) (.inr (.inl rfl)) (by rw [e2, size_20]; decide) (by omega)
        · exact go 127 (by rw [e2, size_76]) (.inr (.inr rfl)) (by rw [e2, size_76]; decide) (by omega)
      · refine wp_if_neg (by simp [hf]) ?_
        refine wpAny_pure (hQ true h1 L1 es1 (ep + 1) t2 sb ⟨⟨_, ho1, ⟨hex.1, hex.2.1, hex.2.2⟩, rfl⟩, hin, T2, nd1, ks1, l2, ?_, by rw [hlen]; exact hfew⟩ (fun z => absurd z hm) fun _ => pm)
        have h := hf
        unfold SetTable.tooFull at h
        rw [decide_eq_true_eq, f2] at h
        rw [hlen]
        omega
    have f1 : t1.fill = L.length + 1 := by rw [q9, hashes_len]
    have close : ∀ b : Bool, wpAny (model P w) A (do
          storeSet a es1 (if b = true then t1 else { t1 with plain := false })
          if (!false && (if b = true then t1 else { t1 with plain := false }).tooFull) = true then do
              setRelay a (SetTable.grown (es.size + 1))
              pure true
            else pure true) Q E s := fun b => by
      cases b with
      | true => exact rest t1 q3 q4 f1 ld1
      | false => exact rest { t1 with plain := false } (TabOk.unplain q3) q4 f1 ld1
    by_cases hpl : t1.plain = true
    · first
        | exact wpAny_bind (wp_if_pos hpl (byVal k _ 8 _ _ _ _ hx.1 fun b => close b))
        | exact wp_if_pos hpl (wpAny_bind (byVal k _ 8 _ _ _ _ hx.1 fun b => close b))
    · first
        | exact wpAny_bind (wp_if_neg hpl (wpAny_pure (close true)))
        | exact wp_if_neg hpl (wpAny_bind (wpAny_pure (close true)))
end
end Rw
namespace Rw
open PySem PySem.Spec PyProof.Rows L2
/-! ### set(xs): filled item by item -/
/-- a new set -/
abbrev newSetObj (w : World) : Obj := { cls := .type "set", dict := none, data := .set #[] 0 (.fresh 0 0 (!w.params.followText "set-order")) }
/-- G i: the set at S has got the first i items -/
structure Fill (P : Program) (w : World) (S : Addr) (h0 : Heap) (items : List Value) (G : Nat → Heap → Prop) : Prop where
  start : ∀ h, h.get? S = some (newSetObj w) → G 0 h
  keep : ∀ i h h', G i h → (∀ o, h.get? S = some o → h'.get? S = some o) → (∀ b o, h0.get? b = some o → h'.get? b = some o) → G i h'
  put : ∀ i v (A : Around) (E : Value → Shared → Prop) (s : Shared) (Q : Bool → Shared → Prop), A.units + 8 < cLine → items[i]? = some v → G i s.heap → (∀ b o, h0.get? b = some o → s.heap.get? b = some o) →
    (∀ b h' tk, s.toks ≤ tk → Heap.SameBut S s.heap h' → G (i + 1) h' → Q b { s with heap := h', toks := tk }) → wpAny (model P w) A (setAdd S v) Q E s
section
variable {P : Program} {w : World} {A : Around} {E : Value → Shared → Prop} {s : Shared}
theorem fill_loop {I : Addr} {fp wr : List Addr} {GG : Array GenState → Array GenState → Prop} {n : Nat} {Pv : Nat → Value → Prop} {St : Nat → Shared → Prop} {R : Result → Shared → Prop} {S : Addr} {h0 : Heap} {items : List Value} {G : Nat → Heap → Prop}
    (W : WalksS P w A.in1 I fp wr GG n Pv St) (hSf : S ∉ fp) (T : Fill P w S h0 items G) (hval : ∀ i v, Pv i v → items[i]? = some v) (hS0 : h0.get? S = none) (hw0 : ∀ b ∈ wr, h0.get? b = none) (hu : A.in1.units + 8 < cLine) :
    ∀ (k i : Nat) (s : Shared), n - i = k → i ≤ n → St i s → (∀ b o, h0.get? b = some o → s.heap.get? b = some o) → G i s.heap →
      (∀ s', Moved (S :: wr) GG s s' → G n s'.heap → (∀ b o, h0.get? b = some o → s'.heap.get? b = some o) → R (.ok (.ret .none)) s') →
      codeAny (model P w) A (.builtin "set.update.loop" ⟨[.ref S, .ref I], []⟩) R s := by
  have hSw : S ∉ wr := fun h => hSf (W.sub _ h)
  have wider : ∀ b ∈ wr, b ∈ S :: wr := fun b hb => List.mem_cons_of_mem _ hb
  have old : ∀ {s s' : Shared}, Moved wr GG s s' → (∀ b o, h0.get? b = some o → s.heap.get? b = some o) → ∀ b o, h0.get? b = some o → s'.heap.get? b = some o := fun hm hkp b o e =>
    hm.heap b o (fun hb => by rw [hw0 b hb] at e; cases e) (hkp b o e)
  intro k
  induction k with
  | zero =>
    intro i s hk' hi hst hkp g hR
    have hin : i = n := by omega
    subst hin
    refine codeAny_builtin F.entry_set_update_loop ?_
    rw [Around.under_plainId F.plain_set_update_loop _]
    show wpAny _ A.in1 (pyNext (.ref I) >>= _) _ _ s
    refine wpAny_bind (W.done s _ _ hst fun s' hm => ?_)
    show wpAny _ A.in1 (ret Value.none) _ _ s'
    exact wpAny_pure (hR s' (hm.mono wider) (T.keep _ _ _ g (fun o e => hm.heap S o hSw e) (old hm hkp)) (old hm hkp))
  | succ k ih =>
    intro i s hk' hi hst hkp g hR
    have hlt : i < n := by omega
    refine codeAny_builtin F.entry_set_update_loop ?_
    rw [Around.under_plainId F.plain_set_update_loop _]
    show wpAny _ A.in1 (pyNext (.ref I) >>= _) _ _ s
    refine wpAny_bind (W.item i s _ _ hlt hst fun v s' hP hst' hm => ?_)
    have hkp' := old hm hkp
    show wpAny _ A.in1 (holding [v] (setAdd S v) >>= _) _ _ s'
    refine wpAny_bind (wpAny_holding (T.put i v A.in1 _ s' _ hu (hval i v hP) (T.keep _ _ _ g (fun o e => hm.heap S o hSw e) hkp') hkp' fun b h' tk htk hsb g' => ?_))
    have hkp2 : ∀ b o, h0.get? b = some o → h'.get? b = some o := fun b o e => (hsb.2 b (fun z => by rw [z, hS0] at e; cases e)).trans (hkp' b o e)
    refine wpAny_pure ⟨plainId_quiet F.plain_set_update_loop _, ih (i + 1) _ (by omega) hlt (W.frame _ s' _ _ hst' htk fun b hb o e => ?_) hkp2 g' fun s'' hm'' g'' hkp'' => ?_⟩
    · rw [hsb.2 b (fun h : b = S => hSf (by rw [← h]; exact hb))]
      exact e
    · refine hR s'' (Moved.trans W.gtrans ((hm.mono wider).then_heap htk fun b o hb e => ?_) hm'') g'' hkp''
      rw [hsb.2 b (fun h : b = S => hb (by rw [h]; exact List.mem_cons_self))]
      exact e
theorem call_fill_list {l : Addr} {items : Array Value} {G : Nat → Heap → Prop} {Q : Value → Shared → Prop} (hh : A.handled = none) (hl : s.heap.IsList l items) (T : Fill P w s.heap.objs.size s.heap items.toList G) (hu : A.units + 16 < cLine)
    (h : ∀ (h' : Heap) (tk : Nat), G items.size h' → (∀ b o, s.heap.get? b = some o → h'.get? b = some o) → Q (.ref s.heap.objs.size) { s with heap := h', toks := tk }) :
    wpAny (model P w) A (call (.type "set") [.ref l]) Q E s := by
  obtain ⟨c, tl, hmro⟩ := F.called_set.mro
  have hmade := F.called_set.made
  have hsub := F.called_set.sub
  refine wpAny_call (codeAny_of_tree ?_)
  show wpAny _ _ (callAny (.type "set") _) _ _ _
  refine wpAny_pure ⟨Code.quiet_builtin _ (by decide +kernel), codeAny_builtin F.entry_type_call ?_⟩
  rw [Around.under_plain (weight_type_call_type "set" [.ref l] []) rfl]
  have f1 := F.called_set.notType
  have f2 := F.called_set.canCreate
  have f3 := F.typeCall_set_1 (.ref l)
  repeat (any_goals (first | assumption | wp_step))
  refine codeAny_mono (code_set_led1 (.ref l) (E := E) (Q₁ := fun obj s₁ => obj = .ref s.heap.objs.size ∧ s₁ = { s with heap := s.heap.push (newSetObj w) }) ⟨rfl, rfl⟩) fun r s₁ hr => ?_
  cases r with
  | error e => exact hr
  | ok fl =>
    cases fl with
    | ret obj =>
      obtain ⟨rfl, rfl⟩ := hr
      have hS : (s.heap.push (newSetObj w)).get? s.heap.objs.size = some (newSetObj w) := Heap.get?_push_size _ rfl
      have hT : Shared.TypeIs { s with heap := s.heap.push (newSetObj w) } (.ref s.heap.objs.size) "set" := ⟨_, hS, rfl⟩
      have f4 := F.called_set.init.lookup
      have f5 := F.called_set.init.bind (.ref s.heap.objs.size)
      repeat (any_goals (first | assumption | wp_step))
      refine codeAny_mono (codeAny_call_builtin (R := wants (fun r s₂ => r = .none ∧ ∃ h' tk, s₂ = { s with heap := h', toks := tk } ∧ G items.size h' ∧ (∀ b o, s.heap.get? b = some o → h'.get? b = some o)) E) F.called_set.init.plain F.entry_set_init (check_set_init_1 hT ?_)) fun r₂ s₂ hr₂ => ?_
      · obtain ⟨ol, hol, hcl, nl, hdl⟩ := hl
        obtain ⟨ocls, odict, odata, oslots⟩ := ol
        simp only at hcl hdl
        subst hcl; subst hdl
        have hol' : (s.heap.push (newSetObj w)).get? l = some { cls := .type "list", dict := odict, data := .seq items nl, slots := oslots } := Heap.get?_push_of_some _ hol
        have f6 := F.sub_list_set
        have f7 := F.sub_list_frozenset
        have f8 : (Value.type "list" == Value.type "dict") = false := by decide
        have hl1 : (s.heap.push (newSetObj w)).IsList l items := ⟨_, hol', rfl, nl, rfl⟩
        unfold Builtin.«set.__init__» noKeywords Builtin.Frozenset.updateFrom
        generalize hPI : pyIter = PI
        wp_walk
        subst hPI
        refine wpAny_pyIter_list hl1 ?_
        refine wpAny_bind (wpAny_runValue ?_)
        have hlS : l < s.heap.objs.size := Heap.lt_size hol
        have hh3 : A.in1.in1.in1.handled = none := by simp [hh]
        have hz1 : (s.heap.push (newSetObj w)).objs.size = s.heap.objs.size + 1 := Heap.size_push ..
        have hneI : l ≠ (s.heap.push (newSetObj w)).objs.size := by
          rw [Heap.size_push]
          exact Nat.ne_of_lt (Nat.lt_succ_of_lt hlS)
        have hSf : s.heap.objs.size ∉ [(s.heap.push (newSetObj w)).objs.size, l] := by
          rw [Heap.size_push]
          simp only [List.mem_cons, List.mem_singleton, List.not_mem_nil, or_false, not_or]
          exact ⟨Nat.ne_of_lt (Nat.lt_succ_self _), Nat.ne_of_gt hlS⟩
        have none_of : ∀ b, s.heap.objs.size ≤ b → s.heap.get? b = none := fun b hb => by
          cases q : s.heap.get? b with
          | none => rfl
          | some o => exact absurd (Nat.lt_of_lt_of_le (Heap.lt_size q) hb) (Nat.lt_irrefl _)
        refine fill_loop ((Walks.list hh3 _ l hneI items).toS) hSf T (fun i v hv => by rw [Array.getElem?_toList]; exact hv) (none_of _ (Nat.le_refl _)) (fun b hb => none_of b (by
            rw [List.mem_singleton.mp hb, Heap.size_push]
            exact Nat.le_succ _)) (by simp only [Around.in1_units]; omega) (items.size - 0) 0 _ (by omega) (Nat.zero_le _)
          ⟨⟨_, Heap.get?_push_size _ rfl, rfl, rfl⟩, (hl1.push _)⟩ (fun b o e => Heap.get?_push_of_some _ (Heap.get?_push_of_some _ e)) (T.start _ (Heap.get?_push_of_some _ hS)) ?hR
        intro s' hm g' hkp
        obtain ⟨h', g2, d', tk', os'⟩ := s'
        have eg : g2 = s.gens := hm.gens
        have ed : d' = s.drawn := hm.drawn
        have eo : os' = s.os := hm.os
        subst eg; subst ed; subst eo
        show wpAny _ _ _ _ _ _
        refine wpAny_pure ?_
        show wpAny _ _ (ret Value.none) _ _ _
        exact wpAny_pure ⟨rfl, h', tk', rfl, g', hkp⟩
      · cases r₂ with
        | error e => exact hr₂
        | ok fl₂ =>
          cases fl₂ with
          | ret r =>
            obtain ⟨rfl, h', tk, rfl, g', hk'⟩ := hr₂
            repeat (any_goals (first | assumption | wp_step))
            exact h _ _ g' hk'
          | _ => exact hr₂.elim
    | _ => exact hr.elim
theorem call_fill_tuple {l : Addr} {items : Array Value} {G : Nat → Heap → Prop} {Q : Value → Shared → Prop} (hh : A.handled = none) (hl : s.heap.IsTuple l items) (T : Fill P w s.heap.objs.size s.heap items.toList G) (hu : A.units + 16 < cLine)
    (h : ∀ (h' : Heap) (tk : Nat), G items.size h' → (∀ b o, s.heap.get? b = some o → h'.get? b = some o) → Q (.ref s.heap.objs.size) { s with heap := h', toks := tk }) :
    wpAny (model P w) A (call (.type "set") [.ref l]) Q E s := by
  obtain ⟨c, tl, hmro⟩ := F.called_set.mro
  have hmade := F.called_set.made
  have hsub := F.called_set.sub
  refine wpAny_call (codeAny_of_tree ?_)
  show wpAny _ _ (callAny (.type "set") _) _ _ _
  refine wpAny_pure ⟨Code.quiet_builtin _ (by decide +kernel), codeAny_builtin F.entry_type_call ?_⟩
  rw [Around.under_plain (weight_type_call_type "set" [.ref l] []) rfl]
  have f1 := F.called_set.notType
  have f2 := F.called_set.canCreate
  have f3 := F.typeCall_set_1 (.ref l)
  repeat (any_goals (first | assumption | wp_step))
  refine codeAny_mono (code_set_led1 (.ref l) (E := E) (Q₁ := fun obj s₁ => obj = .ref s.heap.objs.size ∧ s₁ = { s with heap := s.heap.push (newSetObj w) }) ⟨rfl, rfl⟩) fun r s₁ hr => ?_
  cases r with
  | error e => exact hr
  | ok fl =>
    cases fl with
    | ret obj =>
      obtain ⟨rfl, rfl⟩ := hr
      have hS : (s.heap.push (newSetObj w)).get? s.heap.objs.size = some (newSetObj w) := Heap.get?_push_size _ rfl
      have hT : Shared.TypeIs { s with heap := s.heap.push (newSetObj w) } (.ref s.heap.objs.size) "set" := ⟨_, hS, rfl⟩
      have f4 := F.called_set.init.lookup
      have f5 := F.called_set.init.bind (.ref s.heap.objs.size)
      repeat (any_goals (first | assumption | wp_step))
      refine codeAny_mono (codeAny_call_builtin (R := wants (fun r s₂ => r = .none ∧ ∃ h' tk, s₂ = { s with heap := h', toks := tk } ∧ G items.size h' ∧ (∀ b o, s.heap.get? b = some o → h'.get? b = some o)) E) F.called_set.init.plain F.entry_set_init (check_set_init_1 hT ?_)) fun r₂ s₂ hr₂ => ?_
      · obtain ⟨ol, hol, hcl, nl, hdl⟩ := hl
        obtain ⟨ocls, odict, odata, oslots⟩ := ol
        simp only at hcl hdl
        subst hcl; subst hdl
        have hol' : (s.heap.push (newSetObj w)).get? l = some { cls := .type "tuple", dict := odict, data := .seq items nl, slots := oslots } := Heap.get?_push_of_some _ hol
        have f6 := F.sub_tuple_set
        have f7 := F.sub_tuple_frozenset
        have f8 : (Value.type "tuple" == Value.type "dict") = false := by decide
        have hl1 : (s.heap.push (newSetObj w)).IsTuple l items := ⟨_, hol', rfl, nl, rfl⟩
        unfold Builtin.«set.__init__» noKeywords Builtin.Frozenset.updateFrom
        generalize hPI : pyIter = PI
        wp_walk
        subst hPI
        refine wpAny_pyIter_tuple hl1 ?_
        refine wpAny_bind (wpAny_runValue ?_)
        have hlS : l < s.heap.objs.size := Heap.lt_size hol
        have hh3 : A.in1.in1.in1.handled = none := by simp [hh]
        have hz1 : (s.heap.push (newSetObj w)).objs.size = s.heap.objs.size + 1 := Heap.size_push ..
        have hneI : l ≠ (s.heap.push (newSetObj w)).objs.size := by
          rw [Heap.size_push]
          exact Nat.ne_of_lt (Nat.lt_succ_of_lt hlS)
        have hSf : s.heap.objs.size ∉ [(s.heap.push (newSetObj w)).objs.size, l] := by
          rw [Heap.size_push]
          simp only [List.mem_cons, List.mem_singleton, List.not_mem_nil, or_false, not_or]
          exact ⟨Nat.ne_of_lt (Nat.lt_succ_self _), Nat.ne_of_gt hlS⟩
        have none_of : ∀ b, s.heap.objs.size ≤ b → s.heap.get? b = none := fun b hb => by
          cases q : s.heap.get? b with
          | none => rfl
          | some o => exact absurd (Nat.lt_of_lt_of_le (Heap.lt_size q) hb) (Nat.lt_irrefl _)
        refine fill_loop ((Walks.tuple hh3 _ l hneI items).toS) hSf T (fun i v hv => by rw [Array.getElem?_toList]; exact hv) (none_of _ (Nat.le_refl _)) (fun b hb => none_of b (by
            rw [List.mem_singleton.mp hb, Heap.size_push]
            exact Nat.le_succ _)) (by simp only [Around.in1_units]; omega) (items.size - 0) 0 _ (by omega) (Nat.zero_le _)
          ⟨⟨_, Heap.get?_push_size _ rfl, rfl, rfl⟩, (hl1.push _)⟩ (fun b o e => Heap.get?_push_of_some _ (Heap.get?_push_of_some _ e)) (T.start _ (Heap.get?_push_of_some _ hS)) ?hR
        intro s' hm g' hkp
        obtain ⟨h', g2, d', tk', os'⟩ := s'
        have eg : g2 = s.gens := hm.gens
        have ed : d' = s.drawn := hm.drawn
        have eo : os' = s.os := hm.os
        subst eg; subst ed; subst eo
        show wpAny _ _ _ _ _ _
        refine wpAny_pure ?_
        show wpAny _ _ (ret Value.none) _ _ _
        exact wpAny_pure ⟨rfl, h', tk', rfl, g', hkp⟩
      · cases r₂ with
        | error e => exact hr₂
        | ok fl₂ =>
          cases fl₂ with
          | ret r =>
            obtain ⟨rfl, h', tk, rfl, g', hk'⟩ := hr₂
            repeat (any_goals (first | assumption | wp_step))
            exact h _ _ g' hk'
          | _ => exact hr₂.elim
    | _ => exact hr.elim
end
end Rw
namespace Rw
open PySem PySem.Spec PyProof.Rows PySem.W PySem.SeqAt
/-! ### tuples, perhaps empty ones among them, sorted -/
section
variable {prog : Program} {w : World} {A : Around} {E : Value → Shared → Prop} {s : Shared}
/-- each value is a tuple, and these are their first items -/
inductive Firsts (h : Heap) : List Value → List (Option Value) → Prop
  | nil : Firsts h [] []
  | cons {a : Addr} {o : Obj} {xs : Array Value} {n : Nat} {vs : List Value} {fs : List (Option Value)} : h.get? a = some o → o.cls = .type "tuple" → o.data = .seq xs n → Firsts h vs fs → Firsts h (.ref a :: vs) (xs[0]? :: fs)
theorem Firsts.len {h : Heap} {vs : List Value} {fs : List (Option Value)} (x : Firsts h vs fs) : fs.length = vs.length := by
  induction x with
  | nil => rfl
  | cons _ _ _ _ ih => rw [List.length_cons, List.length_cons, ih]
theorem firsts_run {M : Model} : ∀ (vs : List Value) (fs : List (Option Value)) {Q : List (Option Value) → Shared → Prop}, Firsts s.heap vs fs → Q fs s → wpAny M A (vs.mapM firstOfTuple') Q E s
  | _, _, _, .nil, h => by
    rw [List.mapM_nil]
    exact wpAny_pure h
  | _, _, Q, .cons (a := a) (xs := xs) (vs := vs) (fs := fs) ho hc hd t, h => by
    rw [List.mapM_cons]
    refine wpAny_bind ?_
    rw [kas_first_eq]
    refine wpAny_bind (Looks.here (show Looks M s.heap (typeOf (.ref a)) _ from (Looks.ld ho).andThen .now) ?_)
    rw [hc, if_neg (by first | decide | simp)]
    refine wpAny_bind (listItems_at ho hd (wpAny_pure ?_))
    exact wpAny_bind (firsts_run vs fs (Q := fun bs s' => wpAny M A (pure (xs[0]? :: bs)) Q E s') t (wpAny_pure h))
theorem firsts_ty {M : Model} {h : Heap} {vs : List Value} {fs : List (Option Value)} (x : Firsts h vs fs) : ∀ v ∈ vs, Looks M h (typeOf v) (.type "tuple") := by
  induction x with
  | nil => exact fun v hv => nomatch hv
  | cons ho hc hd _ ih =>
    intro v hv
    rcases List.mem_cons.mp hv with rfl | hv
    · show Looks M h (typeOf (Value.ref _)) (Value.type "tuple")
      exact hc ▸ (Looks.ld ho).andThen .now
    · exact ih v hv
/-- an empty one among the others, not the first -/
theorem kind_general {M : Model} {vs : List Value} {fs : List (Option Value)} {f : Value} {Q : SortKind → Shared → Prop} (x : Firsts s.heap vs fs) (h0 : fs[0]? = some (some f)) (hn : none ∈ fs) (h : Q general' s) : wpAny M A (keyKind' vs.toArray) Q E s := by
  rw [kat_kind_eq, List.mapM_toArray, map_eq_pure_bind]
  refine wpAny_bind (wpAny_bind (firsts_run vs fs x (wpAny_pure ?_)))
  have c : ¬ ((fs.toArray.all fun x => x.isSome) = true) := by
    intro q
    rw [List.all_toArray, List.all_eq_true] at q
    exact absurd (q none hn) (by simp)
  rw [if_neg c]
  have c2 : ((fs.toArray[0]?.bind id).isSome) = true := by
    have e : fs.toArray[0]? = some (some f) := by simpa using h0
    rw [e]
    rfl
  rw [if_pos c2]
  exact wpAny_pure h
/-- the first is empty -/
theorem kind_one {M : Model} {vs : List Value} {fs : List (Option Value)} {Q : SortKind → Shared → Prop} (x : Firsts s.heap vs fs) (h0 : fs[0]? = some none) (h : Q oneType' s) : wpAny M A (keyKind' vs.toArray) Q E s := by
  rw [kat_kind_eq, List.mapM_toArray, map_eq_pure_bind]
  refine wpAny_bind (wpAny_bind (firsts_run vs fs x (wpAny_pure ?_)))
  have c : ¬ ((fs.toArray.all fun x => x.isSome) = true) := by
    intro q
    rw [List.all_toArray, List.all_eq_true] at q
    exact absurd (q none (List.mem_of_getElem? h0)) (by simp)
  rw [if_neg c]
  have e : fs.toArray[0]? = some none := by simpa using h0
  have c2 : ¬ ((fs.toArray[0]?.bind id).isSome) = true := by
    rw [e]
    simp
  rw [if_neg c2, oneTypeOnly'_eq, List.mapM_toArray, map_eq_pure_bind]
  refine wpAny_bind (wpAny_bind (wpAny_bind (kas_mapM (r := Value.type "tuple") _ (fun v hv Q' hq => (firsts_ty x v hv).here hq) (wpAny_pure ?_))))
  have all : ((List.map (fun _ => Value.type "tuple") vs).toArray.all fun x => x == Value.type "tuple") = true := by
    simp only [List.all_toArray, List.all_map, List.all_eq_true]
    intro _ _
    show (Value.type "tuple" == Value.type "tuple") = true
    decide
  obtain ⟨v, r, ev⟩ : ∃ v r, vs = v :: r := by
    cases x with
    | nil => simp at h0
    | cons _ _ _ _ => exact ⟨_, _, rfl⟩
  have z : (List.map (fun _ => Value.type "tuple") vs).toArray[0]? = some (Value.type "tuple") := by
    rw [ev]
    simp
  rw [z]
  simp only [all, if_true]
  exact wpAny_pure (wpAny_pure h)
/-- by the type's own < -/
theorem oneLt_tuples {xs ys : List PyData} {a b : Value} {as bs : List Addr} {Q : Bool → Shared → Prop} (ra : Reads s.heap a (.tuple xs) as) (rb : Reads s.heap b (.tuple ys) bs) (hal : alikeAll xs ys = true)
    (hu : A.units + min (PyData.tuple xs).depth (PyData.tuple ys).depth < cLine) (hq : Q (dataLt (.tuple xs) (.tuple ys)) s) : wpAny (model prog w) A (oneLt' true a b) Q E s := by
  cases ra with
  | @tuple l o vs n _ _ h1 h2 h3 h4 =>
    cases rb with
    | @tuple l' o' vs' n' _ _ k1 k2 k3 k4 =>
      have n1 : vs.size = xs.length := by simpa using SeqAt.ReadsAll.length _ _ _ h4
      have n2 : vs'.size = ys.length := by simpa using SeqAt.ReadsAll.length _ _ _ k4
      rw [dataLt_tuple, ← firstLt_toks xs ys hal, ← n1, ← n2] at hq
      rw [oneLt'_eq]
      simp only [if_true]
      refine wpAny_bind (wpAny_cRoomFor (SeqAt.room_here hu) ?_)
      obtain ⟨ocls, odict, odata, oslots⟩ := o
      obtain ⟨pcls, pdict, pdata, pslots⟩ := o'
      simp only at h2 h3 k2 k3
      subst h2 h3 k2 k3
      refine wpAny_bind (wpAny_callSpecialIfBound?_slot (T := "tuple") ⟨_, h1, rfl⟩ F.slot_tuple_lt (call_meets F.slot_tuple_lt ⟨_, h1, rfl⟩ F.entry_tuple_lt (F.args_tuple_lt_2 _ _)
        (SeqAt.tuple_ltAt l l' vs vs' n n' odict pdict oslots pslots (pairEq xs ys) (fun j => dataLt (xs.getD j .none) (ys.getD j .none))) ⟨h1, k1, fun j j1 j2 => ?_, fun j j1 j2 hj => ?_, ?_⟩))
      · have := eqAt_alikeAll xs ys A.in1 s vs.toList vs'.toList _ _ h4 k4 hal (SeqAt.room_in hu) j (by simpa using j1) (by simpa using j2)
        simpa using this
      · have := rcLt_alikeAll xs ys A.in1 s vs.toList vs'.toList _ _ h4 k4 hal (SeqAt.room_in hu) j (by simpa using j1) (by simpa using j2) hj
        simpa using this
      · exact wpAny_truthy_bool hq
theorem firsts_of {h : Heap} : ∀ {vs : List Value} {ds : List PyData}, EachIs (fun v d => ∃ as, Reads h v d as) vs ds → (∀ d ∈ ds, ∃ xs, d = .tuple xs) → ∃ fs, Firsts h vs fs ∧ ∀ i : Nat, fs[i]? = some none ↔ ds[i]? = some (.tuple [])
  | _, _, .nil, _ => ⟨[], .nil, fun i => by simp⟩
  | _, _, .cons (b := d) ⟨as, r⟩ t, ht => by
    obtain ⟨fs, h1, h2⟩ := firsts_of t fun d hd => ht d (List.mem_cons_of_mem _ hd)
    obtain ⟨xs, rfl⟩ := ht d List.mem_cons_self
    cases r with
    | @tuple a o vs n _ _ ho hc hd hr =>
      refine ⟨_, .cons ho hc hd h1, fun i => ?_⟩
      cases i with
      | succ i => simpa using h2 i
      | zero =>
        have hl := SeqAt.ReadsAll.length _ _ _ hr
        rw [Array.length_toList] at hl
        simp only [List.getElem?_cons_zero, Option.some.injEq]
        constructor
        · intro q
          have z : vs.size = 0 := by
            have := Array.getElem?_eq_none_iff.mp q
            omega
          rw [z] at hl
          rw [List.length_eq_zero_iff.mp hl.symm]
        · intro q
          injection q with q
          subst q
          rw [List.length_nil] at hl
          exact Array.getElem?_eq_none (by omega)
/-- tuples of alike data can be sorted, empty ones too -/
theorem SortsAt.tups {vs : List Value} {ds : List PyData} (e : EachIs (fun v d => ∃ as, Reads s.heap v d as) vs ds) (hal : AllAlike ds) (ht : ∀ d ∈ ds, ∃ xs, d = .tuple xs) (hu : ∀ d, d ∈ ds → A.units + d.depth < cLine) : SortsAt prog w A s (dataKind s.heap ds) vs := by
  by_cases full : ∀ d ∈ ds, ∃ x r, d = .tuple (x :: r)
  · exact SortsAt.data e hal (.inl full) hu
  have hollow : PyData.tuple [] ∈ ds := by
    refine Classical.byContradiction fun hn => full fun d hd => ?_
    obtain ⟨xs, rfl⟩ := ht d hd
    cases xs with
    | nil => exact absurd hd hn
    | cons x r => exact ⟨x, r, rfl⟩
  have room : ∀ {d d' : PyData}, d ∈ ds → A.units + min d.depth d'.depth < cLine := fun {d d'} hd => Nat.lt_of_le_of_lt (Nat.add_le_add_left (Nat.min_le_left _ _) _) (hu d hd)
  refine ⟨fun v hv => ?_, ?_⟩
  · obtain ⟨d, hd, as, r⟩ := e.left v hv
    exact ⟨_, dataKind_some hal hd r⟩
  obtain ⟨fs, f1, f2⟩ := firsts_of e ht
  obtain ⟨i0, hi0, ei0⟩ := List.getElem_of_mem hollow
  have hnone : none ∈ fs := List.mem_of_getElem? ((f2 i0).mpr (by rw [List.getElem?_eq_getElem hi0, ei0]))
  have side : ∀ {x y : Value} {a b : List (Int ⊕ List Nat)}, (dataKind s.heap ds).keyOf x = some a → (dataKind s.heap ds).keyOf y = some b →
      ∃ xs ys as bs, Reads s.heap x (.tuple xs) as ∧ Reads s.heap y (.tuple ys) bs ∧ alike (.tuple xs) (.tuple ys) = true ∧ a = keyToks (.tuple xs) ∧ b = keyToks (.tuple ys) ∧ A.units + min (PyData.tuple xs).depth (PyData.tuple ys).depth < cLine := by
    intro x y a b ha hb
    obtain ⟨d, as, hd, ra, rfl⟩ := dataKind_inv ha
    obtain ⟨d', bs, hd', rb, rfl⟩ := dataKind_inv hb
    obtain ⟨xs, rfl⟩ := ht d hd
    obtain ⟨ys, rfl⟩ := ht d' hd'
    exact ⟨xs, ys, as, bs, ra, rb, hal _ hd _ hd', rfl, rfl, room hd⟩
  cases hz : fs[0]? with
  | none =>
    have : fs = [] := by
      cases fs with
      | nil => rfl
      | cons f r => simp at hz
    rw [this] at hnone
    exact nomatch hnone
  | some f =>
    cases f with
    | some f =>
      refine ⟨general', fun E x y a b Q ha hb hq => ?_, fun _ E Q hq => kind_general f1 hz hnone hq⟩
      obtain ⟨xs, ys, as, bs, ra, rb, hh, rfl, rfl, hr⟩ := side ha hb
      show wpAny _ _ (oneLt' false x y) _ _ _
      exact oneLt_alike (fun z => absurd z Bool.false_ne_true) ra rb hh (fun z => nomatch z) hr hq
    | none =>
      refine ⟨oneType', fun E x y a b Q ha hb hq => ?_, fun _ E Q hq => kind_one f1 hz hq⟩
      obtain ⟨xs, ys, as, bs, ra, rb, hh, rfl, rfl, hr⟩ := side ha hb
      rw [keyLt'_oneType]
      exact oneLt_tuples ra rb (by simpa [alike] using hh) hr hq
end
end Rw
namespace Rw
open PySem PySem.Spec PyProof.Rows L2 PySem.Froz
/-! ### filling a set with tuples -/
structure GotN (ks : List (Addr × NK)) (i : Nat) (L : List (Addr × NK)) : Prop where
  sub : ∀ p ∈ L, p ∈ ks.take i
  all : ∀ p ∈ ks.take i, p.2 ∈ L.map (·.2)
  len : L.length ≤ i
theorem take_snoc {α : Type} {l : List α} {i : Nat} {x : α} (h : l[i]? = some x) : l.take (i + 1) = l.take i ++ [x] := by
  rw [List.take_succ, h]
  rfl
theorem GotN.next {ks L L' : List (Addr × NK)} {i : Nat} {x : Addr × NK} (g : GotN ks i L) (h : ks[i]? = some x) (c1 : x.2 ∈ L.map (·.2) → L' = L) (c2 : x.2 ∉ L.map (·.2) → L'.Perm (x :: L)) : GotN ks (i + 1) L' := by
  have ht := take_snoc h
  by_cases hm : x.2 ∈ L.map (·.2)
  · rw [c1 hm]
    refine ⟨fun p hp => ?_, fun p hp => ?_, Nat.le_succ_of_le g.len⟩
    · rw [ht]
      exact List.mem_append_left _ (g.sub p hp)
    · rw [ht] at hp
      rcases List.mem_append.mp hp with z | z
      · exact g.all p z
      · rw [List.mem_singleton.mp z]
        exact hm
  · have pm := c2 hm
    refine ⟨fun p hp => ?_, fun p hp => ?_, ?_⟩
    · rw [ht]
      rcases List.mem_cons.mp (pm.mem_iff.mp hp) with e | z
      · rw [e]
        exact List.mem_append_right _ (List.mem_singleton.mpr rfl)
      · exact List.mem_append_left _ (g.sub p z)
    · rw [(pm.map (·.2)).mem_iff, List.map_cons]
      rw [ht] at hp
      rcases List.mem_append.mp hp with z | z
      · exact List.mem_cons_of_mem _ (g.all p z)
      · rw [List.mem_singleton.mp z]
        exact List.mem_cons_self
    · rw [pm.length_eq, List.length_cons]
      exact Nat.succ_le_succ g.len
theorem led_new (w : World) : w.params.followText "set-order" = true ∨ (!w.params.followText "set-order") = true := by
  cases w.params.followText "set-order"
  · exact .inr rfl
  · exact .inl rfl
section
variable {P : Program} {w : World} {A : Around} {E : Value → Shared → Prop} {s : Shared}
theorem TSet.empty {h : Heap} {a : Addr} (ho : h.get? a = some (newSetObj w)) : TSet P w h a [] #[] 0 (.fresh 0 0 (!w.params.followText "set-order")) where
  ob := ⟨_, ho, ⟨rfl, rfl, rfl⟩, rfl⟩
  en := rfl
  tab := ⟨List.Pairwise.nil, rfl, rfl, .inl rfl, fun x hx => (by cases hx), fun i h j hi => (by simp [hashes] at hi)⟩
  nd := List.nodup_nil
  ks := fun p hp => (by cases hp)
  led := led_new w
  room := by
    show 0 * 5 < 7 * 3
    decide
  few := by
    show 0 < 76
    decide
theorem TSet.moved {h h' : Heap} {a : Addr} {L : List (Addr × NK)} {es : Array (Int × Value)} {ep : Nat} {t : SetTable} (R : TSet P w h a L es ep t) (ha : ∀ o, h.get? a = some o → h'.get? a = some o) (ht : ∀ p ∈ L, TupK h' p.2 p.1) : TSet P w h' a L es ep t := by
  obtain ⟨o, ho, r⟩ := R.ob
  exact ⟨⟨o, ha o ho, r⟩, R.en, R.tab, R.nd, ht, R.led, R.room, R.few⟩
theorem fill_tups (S : Addr) (h0 : Heap) (ks : List (Addr × NK)) (hk : ∀ p ∈ ks, TupK h0 p.2 p.1) (few : ks.length < 76) :
    Fill P w S h0 (ks.map fun p => Value.ref p.1) (fun i h => ∃ L es ep t, TSet P w h S L es ep t ∧ GotN ks i L) where
  start := fun h ho => ⟨[], #[], 0, _, TSet.empty ho, ⟨fun p hp => (by cases hp), fun p hp => (by simp at hp), Nat.le_refl _⟩⟩
  keep := fun i h h' ⟨L, es, ep, t, R, g⟩ ha hold => ⟨L, es, ep, t, R.moved ha fun p hp => (hk p (List.mem_of_mem_take (g.sub p hp))).kept hold, g⟩
  put := fun i v A E s Q hu hv ⟨L, es, ep, t, R, g⟩ hold hQ => by
    rw [List.getElem?_map] at hv
    cases hx : ks[i]? with
    | none => rw [hx] at hv; simp at hv
    | some x =>
      rw [hx] at hv
      obtain rfl : Value.ref x.1 = v := Option.some.inj hv
      have il : i < ks.length := (List.getElem?_eq_some_iff.mp hx).1
      have hxk := (hk x (List.mem_of_getElem? hx)).kept hold
      unfold setAdd
      refine wpAny_holding ?_
      refine wpAny_bind ((nestedKind P w).pyHash (k := x.2) (show A.units + 8 < cLine from hu) hxk ?_)
      refine added (s := { s with toks := s.toks + (nestedKind P w).draws x.2 }) R hxk hu (by have := g.len; omega) fun b h' L' es' ep' t' sb R' c1 c2 => ?_
      exact hQ b h' _ (Nat.le_add_right _ _) sb ⟨L', es', ep', t', R', g.next hx c1 c2⟩
/-! ### filling a set with texts -/
structure XSet (P : Program) (w : World) (h : Heap) (a : Addr) (ms : List Str) (es : Array (Int × Value)) (ep : Nat) (t : SetTable) : Prop where
  ob : h.get? a = some (sObj "set" (es, ep, t))
  ok : TxOk P w (es, ep, t) ms
  nd : ms.Nodup
  ris : Ris t.place.toList
  led : w.params.followText "set-order" = true ∨ t.led = true
theorem add_ris {g : Int} {v : Value} {D : SD} (h : Ris D.2.2.place.toList) : Ris (addTx g v D).2.2.place.toList ∧ (addTx g v D).2.2.led = D.2.2.led := by
  obtain ⟨es, ep, t⟩ := D
  have n1 := layNew_ris t es g v h
  have n2 := layNew_led t es g v
  unfold addTx tailTx
  dsimp only at n1 n2 ⊢
  generalize layNew t es g v = N at n1 n2 ⊢
  obtain ⟨es1, t1, wd, gv⟩ := N
  dsimp only at n1 n2 ⊢
  have m1 : Ris (if t1.plain = true then { t1 with plain := false } else t1).place.toList ∧ (if t1.plain = true then { t1 with plain := false } else t1).led = t.led := by
    split <;> exact ⟨n1, n2⟩
  generalize (if t1.plain = true then { t1 with plain := false } else t1) = t2 at m1 ⊢
  split
  · exact ⟨relayAll_ris t2 es1 _, (relayAll_led t2 es1 _).trans m1.2⟩
  · exact m1
theorem XSet.moved {h h' : Heap} {a : Addr} {ms : List Str} {es : Array (Int × Value)} {ep : Nat} {t : SetTable} (R : XSet P w h a ms es ep t) (ha : ∀ o, h.get? a = some o → h'.get? a = some o) : XSet P w h' a ms es ep t :=
  ⟨ha _ R.ob, R.ok, R.nd, R.ris, R.led⟩
/-- a text that is in the set is put in again -/
theorem again_in {a : Addr} {ms : List Str} {es : Array (Int × Value)} {ep : Nat} {t : SetTable} {k : Str} {u : Tok} {Q : Bool → Shared → Prop} (R : XSet P w s.heap a ms es ep t) (hk : k ∈ ms) (hb : ms.length < scanBound) (h : Q false s) :
    wpAny (model P w) A (setAddHashed a (.str k u) (hashStr w k)) Q E s := by
  have hel : ElemsOf (strKind P w) es.toList := R.ok.el
  have hsz : es.size = ms.length := R.ok.sz
  have hf : t.fits es.size = true := R.ok.fit
  have hd : (sObj "set" (es, ep, t)).data = .set es ep t := rfl
  have hkey : (strKind P w).is k (.str k u) = true := is_str k u
  obtain ⟨e, he, hp⟩ := (R.ok.mem k).mp hk
  unfold setAddHashed setAddHashedIn
  refine wpAny_holding (wpAny_bind (wpAny_setState_of R.ob hd hf ?_))
  dsimp only
  rw [byScan_of rfl (by omega) hel]
  simp only [↓reduceIte]
  unfold setAddByScan
  refine wpAny_bind (wpAny_bind (wpAny_rule (wpAny_bind (wpAny_setScan_of (knd := strKind P w) (k := k) hkey R.ob hd hf hel ?_))))
  cases hr : List.findIdx? (fun e => (strKind P w).is k e.2) es.toList with
  | none =>
    have z := List.findIdx?_eq_none_iff.mp hr e he
    rw [hp] at z
    exact nomatch z
  | some j =>
    dsimp only
    exact wpAny_pure (wpAny_pure h)
theorem put_text {a : Addr} {ms : List Str} {es : Array (Int × Value)} {ep : Nat} {t : SetTable} {k : Str} {u : Tok} {Q : Bool → Shared → Prop} (R : XSet P w s.heap a ms es ep t) (hb : ms.length + 1 < scanBound)
    (h : ∀ b h' ms' es' ep' t', Heap.SameBut a s.heap h' → XSet P w h' a ms' es' ep' t' → (∀ z, z ∈ ms' ↔ z = k ∨ z ∈ ms) → ms'.length ≤ ms.length + 1 → Q b { s with heap := h' }) :
    wpAny (model P w) A (setAddHashed a (.str k u) (hashStr w k)) Q E s := by
  by_cases hk : k ∈ ms
  · refine again_in R hk (by omega) (h false s.heap ms es ep t (Heap.SameBut.refl a s.heap) R (fun z => ⟨.inr, fun q => q.elim (fun e => e ▸ hk) id⟩) (Nat.le_succ _))
  · refine add_x R.ob R.ok hk hb ?_
    have sb : Heap.SameBut a s.heap (s.heap.update a (fun _ => sObj "set" (addTx (hashStr w k) (.str k u) (es, ep, t)))) := Heap.SameBut.update ..
    have ho : (s.heap.update a (fun _ => sObj "set" (addTx (hashStr w k) (.str k u) (es, ep, t)))).get? a = some (sObj "set" (addTx (hashStr w k) (.str k u) (es, ep, t))) := get_upd _ R.ob rfl
    have ok := add_ok u R.ok (k := k)
    have rl := add_ris (g := hashStr w k) (v := .str k u) (D := (es, ep, t)) R.ris
    generalize addTx (hashStr w k) (.str k u) (es, ep, t) = D at sb ho ok rl ⊢
    obtain ⟨es', ep', t'⟩ := D
    refine h true _ (k :: ms) es' ep' t' sb ⟨ho, ok, List.nodup_cons.mpr ⟨hk, R.nd⟩, rl.1, ?_⟩ (fun z => List.mem_cons) (Nat.le_refl _)
    have e : t'.led = t.led := rl.2
    rw [e]
    exact R.led
theorem fill_texts (S : Addr) (h0 : Heap) (zs : List Str) {vs : List Value} (hv : PySem.W.EachIs (fun v z => ∃ u, v = Value.str z u) vs zs) (few : zs.length + 1 < scanBound) :
    Fill P w S h0 vs (fun i h => ∃ ms es ep t, XSet P w h S ms es ep t ∧ (∀ z, z ∈ ms ↔ z ∈ zs.take i) ∧ ms.length ≤ i) where
  start := fun h ho => ⟨[], #[], 0, _, ⟨ho, TxOk.nil rfl, List.nodup_nil, List.Pairwise.nil, led_new w⟩, fun z => by simp, Nat.le_refl _⟩
  keep := fun i h h' ⟨ms, es, ep, t, R, g⟩ ha _ => ⟨ms, es, ep, t, R.moved ha, g⟩
  put := fun i v A E s Q hu hvi ⟨ms, es, ep, t, R, g, hl⟩ hold hQ => by
    have hlen := hv.length
    have il : i < vs.length := (List.getElem?_eq_some_iff.mp hvi).1
    have iz : i < zs.length := by omega
    have hz : zs[i]? = some zs[i] := List.getElem?_eq_getElem iz
    have pz : (v, zs[i]) ∈ vs.zip zs := List.mem_of_getElem? (i := i) (by rw [List.getElem?_zip_eq_some]; exact ⟨hvi, hz⟩)
    obtain ⟨u, rfl⟩ : ∃ u, v = Value.str zs[i] u := hv.zip _ pz
    unfold setAdd
    refine wpAny_holding ?_
    refine wpAny_bind ((strKind P w).pyHash (k := zs[i]) (is_str _ _) ?_)
    refine put_text (s := { s with toks := s.toks + 1 }) R (by omega) fun b h' ms' es' ep' t' sb R' hm hl' => ?_
    refine hQ b h' _ (Nat.le_succ _) sb ⟨ms', es', ep', t', R', fun z => ?_, by omega⟩
    rw [hm, take_snoc hz, List.mem_append, List.mem_singleton, g z]
    exact ⟨fun q => q.elim .inr .inl, fun q => q.elim .inr .inl⟩
/-! ### sorted of a set -/
theorem each_perm {α β : Type} {R : α → β → Prop} {l l' : List α} (p : l'.Perm l) : ∀ {bs : List β}, PySem.W.EachIs R l bs → ∃ bs', PySem.W.EachIs R l' bs' ∧ bs'.Perm bs := by
  induction p with
  | nil => exact fun {bs} e => ⟨bs, e, List.Perm.refl _⟩
  | cons x _ ih =>
    intro bs e
    cases e with
    | cons h t =>
      obtain ⟨bs', e', p'⟩ := ih t
      exact ⟨_ :: bs', .cons h e', p'.cons _⟩
  | swap x y l =>
    intro bs e
    cases e with
    | cons h t =>
      cases t with
      | cons h' t' => exact ⟨_, .cons h' (.cons h t'), List.Perm.swap _ _ _⟩
  | trans _ _ ih1 ih2 =>
    intro bs e
    obtain ⟨b1, e1, p1⟩ := ih2 e
    obtain ⟨b2, e2, p2⟩ := ih1 e1
    exact ⟨b2, e2, p2.trans p1⟩
open PySem.W in
theorem each_and {α β : Type} {R S : α → β → Prop} : ∀ {as : List α} {bs : List β}, EachIs R as bs → EachIs S as bs → EachIs (fun a b => R a b ∧ S a b) as bs
  | _, _, .nil, .nil => .nil
  | _, _, .cons h t, .cons h' t' => .cons ⟨h, h'⟩ (each_and t t')
open PySem.W in
/-- xs.sort(): the list's own object then holds the sorted values -/
theorem list_sorts {β : Type} {a : Addr} {n : Nat} {vs : List Value} {bs : List β} {enc : β → PyData} {R : Value → β → Prop} {Q : Value → Shared → Prop} (ho : s.heap.get? a = some (seqObj "list" vs.toArray n)) (e : EachIs R vs bs) (er : EachIs (fun v b => ∃ as, Reads s.heap v (enc b) as ∧ a ∉ as) vs bs) (hal : AllAlike (bs.map enc)) (hk : (∀ d ∈ bs.map enc, ∃ xs, d = .tuple xs) ∨ Sortable (bs.map enc)) (hL : bs.length ≤ sizeLine)
    (hu : ∀ b, b ∈ bs → A.units + 1 + (enc b).depth < cLine) (h : ∀ out, out.length = bs.length → EachIs R out (bs.mergeSort (dataLe false enc)) → Q .none { s with heap := sortedHeap s.heap a vs (List.toArray out) }) :
    wpAny (model P w) A (call (.builtin "list.sort") [.ref a]) Q E s := by
  have er' : EachIs (fun v b => ∃ as, Reads (sortingHeap s.heap a vs) v (enc b) as) vs bs := each_keepBut (h' := sortingHeap s.heap a vs) (fun _ _ hb q => sortingHeap_old hb q) (fun o q => by rw [ho] at q; rw [← Option.some.inj q]) hal er
  have em := each_map (R := fun v d => ∃ as, Reads (sortingHeap s.heap a vs) v d as) enc er'
  have can : SortsAt P w A.in1 { s with heap := sortingHeap s.heap a vs } (dataKind (sortingHeap s.heap a vs) (bs.map enc)) vs := by
    rcases hk with ht | hs
    · exact SortsAt.tups (s := { s with heap := sortingHeap s.heap a vs }) em hal ht (bound_map hu)
    · exact SortsAt.data (s := { s with heap := sortingHeap s.heap a vs }) em hal hs (bound_map hu)
  refine wpAny_call_entry slot_list_sort ⟨_, ho, rfl⟩ entry_list_sort (list_sort_vals (κ := dataKind (sortingHeap s.heap a vs) (bs.map enc)) ho can (by rw [e.length]; exact hL) ⟨.none, rfl, ?_⟩) (args_list_sort _)
  exact h _ (by rw [sortVals_length false rfl]; exact e.length) (sortVals_data false e er' hal)
open PySem.W in
theorem sort_facts {β : Type} (enc : β → PyData) (bs : List β) : (bs.mergeSort (dataLe false enc)).Perm bs ∧ (bs.mergeSort (dataLe false enc)).Pairwise (fun a b => dataLe false enc a b = true) :=
  ⟨List.mergeSort_perm _ _, sort_pairwise (sortLe_total (listOrd itemOrd) false fun b => keyToks (enc b)) bs⟩
open PySem.W in
theorem sorted_coll {β : Type} {a : Addr} {es : Array (Int × Value)} {ep : Nat} {t : SetTable} {bs : List β} {enc : β → PyData} {R : Value → β → Prop} {Q : Value → Shared → Prop} (hh : A.handled = none) (ha : SetAt s.heap a es ep t) (hf : t.fits es.size = true) (hsz : es.size < scanBound) (r : Ris t.place.toList)
    (hl : w.params.followText "set-order" = true ∨ t.led = true) (e : EachIs R (es.toList.map (·.2)) bs) (er : EachIs (fun v b => ∃ as, Reads s.heap v (enc b) as ∧ ∀ c ∈ as, c < s.heap.objs.size) (es.toList.map (·.2)) bs)
    (hal : AllAlike (bs.map enc)) (hk : (∀ d ∈ bs.map enc, ∃ xs, d = .tuple xs) ∨ Sortable (bs.map enc)) (hu : ∀ b, b ∈ bs → A.units + 3 + (enc b).depth < cLine)
    (hQ : ∀ s' p (out : Array Value) (c : Nat) (bs' : List β), (∀ b o, s.heap.get? b = some o → s'.heap.get? b = some o) → s'.gens = s.gens → s'.os = s.os → s.heap.objs.size ≤ p → s'.heap.get? p = some (seqObj "list" out c) →
      EachIs R out.toList bs' → bs'.Perm bs → bs'.Pairwise (fun a b => dataLe false enc a b = true) → Q (.ref p) s') :
    wpAny (model P w) A (call (.builtin "sorted") [.ref a]) Q E s := by
  refine Calls.call_function_entry kind_sorted plain_sorted entry_sorted (args_sorted1 _) ?_
  unfold Builtin.«sorted»
  refine wpAny_bind (m := checkCount "sorted" 1 1 _) (wpAny_pure ?_)
  refine wpAny_bind (collect_set (A := A.in1) hh ha hf hsz r hl fun s1 vs k1 hz g1 o1 pm => ?_)
  obtain ⟨bs1, e1, p1⟩ := each_perm pm (each_and e er)
  have lb : bs.length = es.size := by rw [← e.length, List.length_map, Array.length_toList]
  have lv : vs.length = bs1.length := e1.length
  have l1 : bs1.length = bs.length := p1.length_eq
  have sl : scanBound = 4096 := rfl
  refine wpAny_bind (wpAny_newList ?_ (by rw [sizeLine_eq]; omega))
  have hoL : (s1.heap.push (seqObj "list" vs.toArray 0)).get? s1.heap.objs.size = some (seqObj "list" vs.toArray 0) := Heap.get?_push_size _ rfl
  have mem1 : ∀ d, d ∈ bs1.map enc ↔ d ∈ bs.map enc := fun d => (p1.map enc).mem_iff
  refine wpAny_bind (wpAny_holding (list_sorts (s := { s1 with heap := s1.heap.push (seqObj "list" vs.toArray 0) }) (enc := enc) (R := R) hoL (e1.mono fun _ _ z => z.1)
    (e1.mono fun v b z => ?_) (fun d hd d' hd' => hal d ((mem1 d).mp hd) d' ((mem1 d').mp hd')) ?_ (by rw [sizeLine_eq]; omega) (fun b hb => ?_) fun out ho eo => ?_))
  · obtain ⟨_, as, rd, lo⟩ := z
    refine ⟨as, PyProof.Rows.Reads.keeps (fun c o q => Heap.get?_push_of_some _ (k1 c o q)) rd, fun hm => ?_⟩
    exact absurd (Nat.lt_of_lt_of_le (lo _ hm) hz) (Nat.lt_irrefl _)
  · rcases hk with ht | hs
    · exact .inl fun d hd => ht d ((mem1 d).mp hd)
    · rcases hs with h1 | h2
      · exact .inr (.inl fun d hd => h1 d ((mem1 d).mp hd))
      · exact .inr (.inr fun d hd => h2 d ((mem1 d).mp hd))
  · have := hu b (p1.mem_iff.mp hb)
    simp only [Around.in1_units]
    omega
  · obtain ⟨c, hc⟩ := sortedHeap_at (vs := vs) (out := out.toArray) hoL
    have sf := sort_facts enc bs1
    refine wpAny_pure ⟨_, rfl, hQ _ s1.heap.objs.size out.toArray c (bs1.mergeSort (dataLe false enc)) (fun b u q => ?_) g1 o1 hz hc (by simpa using eo) (sf.1.trans p1) sf.2⟩
    have q1 := k1 b u q
    have hlt := Heap.lt_size q1
    show (sortedHeap (s1.heap.push (seqObj "list" vs.toArray 0)) s1.heap.objs.size vs out.toArray).get? b = some u
    rw [sortedHeap_old (Nat.ne_of_lt hlt) (by rw [size_push']; exact Nat.lt_succ_of_lt hlt)]
    exact Heap.get?_push_of_some _ q1
end
end Rw
namespace Rw
open PySem PySem.Spec PyProof.Rows L2 PySem.Froz
/-! ### data made of texts, whole numbers, None and tuples -/
mutual
def okD : PyData → Bool
  | .none => true
  | .int _ => true
  | .str _ => true
  | .tuple xs => okDs xs
  | .bool _ => false
  | .list _ => false
  | .dict _ => false
def okDs : List PyData → Bool
  | [] => true
  | x :: xs => okD x && okDs xs
end
mutual
def toK : PyData → NK
  | .none => .none
  | .int i => .num i
  | .str x => .text x
  | .tuple xs => .tup (toKs xs)
  | .bool _ => .none
  | .list _ => .none
  | .dict _ => .none
def toKs : List PyData → List NK
  | [] => []
  | x :: xs => toK x :: toKs xs
end
theorem okDs_cons {x : PyData} {xs : List PyData} (h : okDs (x :: xs) = true) : okD x = true ∧ okDs xs = true := by
  rw [okDs, Bool.and_eq_true] at h
  exact h
mutual
theorem toK_data : ∀ d : PyData, okD d = true → (toK d).data = d
  | .none, _ => by simp [toK, NestedKey.data]
  | .int _, _ => by simp [toK, NestedKey.data]
  | .str _, _ => by simp [toK, NestedKey.data]
  | .tuple xs, h => by
    rw [okD] at h
    rw [toK, NestedKey.data, toKs_data xs h]
  | .bool _, h => by simp [okD] at h
  | .list _, h => by simp [okD] at h
  | .dict _, h => by simp [okD] at h
theorem toKs_data : ∀ ds : List PyData, okDs ds = true → NestedKey.datas (toKs ds) = ds
  | [], _ => by simp [toKs, NestedKey.datas]
  | x :: xs, h => by
    obtain ⟨h1, h2⟩ := okDs_cons h
    rw [toKs, NestedKey.datas, toK_data x h1, toKs_data xs h2]
end
theorem toK_inj {d e : PyData} (hd : okD d = true) (he : okD e = true) (h : toK d = toK e) : d = e := by
  rw [← toK_data d hd, ← toK_data e he, h]
mutual
theorem toK_depth : ∀ d : PyData, (toK d).depth ≤ d.depth
  | .none => by simp [toK, NestedKey.depth]
  | .int _ => by simp [toK, NestedKey.depth]
  | .str _ => by simp [toK, NestedKey.depth]
  | .tuple xs => by
    have z := toKs_depth xs
    rw [toK, NestedKey.depth, PyData.depth]
    omega
  | .bool _ => by simp [toK, NestedKey.depth]
  | .list _ => by simp [toK, NestedKey.depth]
  | .dict _ => by simp [toK, NestedKey.depth]
theorem toKs_depth : ∀ ds : List PyData, NestedKey.depthAll (toKs ds) ≤ PyData.depthAll ds
  | [] => by simp [toKs, NestedKey.depthAll]
  | x :: xs => by
    have z1 := toK_depth x
    have z2 := toKs_depth xs
    rw [toKs, NestedKey.depthAll, PyData.depthAll]
    omega
end
mutual
theorem isK_of : ∀ (d : PyData) (h : Heap) (v : Value) (as : List Addr), okD d = true → Reads h v d as → NestedIs h (toK d) v ∧ as = []
  | .none, _, _, _, _, r => by
    cases r
    exact ⟨.none, rfl⟩
  | .int _, _, _, _, _, r => by
    cases r
    exact ⟨.int _ _, rfl⟩
  | .str _, _, _, _, _, r => by
    cases r
    exact ⟨.text _ _, rfl⟩
  | .tuple xs, h, _, _, ok, r => by
    rw [okD] at ok
    cases r with
    | tuple h1 h2 h3 h4 =>
      obtain ⟨k, e⟩ := isKs_of xs h _ _ ok h4
      exact ⟨.tup h1 h2 h3 k, e⟩
  | .bool _, _, _, _, ok, _ => by simp [okD] at ok
  | .list _, _, _, _, ok, _ => by simp [okD] at ok
  | .dict _, _, _, _, ok, _ => by simp [okD] at ok
theorem isKs_of : ∀ (ds : List PyData) (h : Heap) (vs : List Value) (as : List Addr), okDs ds = true → ReadsAll h vs ds as → NestedAll h (toKs ds) vs ∧ as = []
  | [], _, _, _, _, r => by
    cases r
    exact ⟨.nil, rfl⟩
  | x :: xs, h, _, _, ok, r => by
    obtain ⟨o1, o2⟩ := okDs_cons ok
    cases r with
    | cons r1 r2 =>
      obtain ⟨k1, e1⟩ := isK_of x h _ _ o1 r1
      obtain ⟨k2, e2⟩ := isKs_of xs h _ _ o2 r2
      exact ⟨.cons k1 k2, by rw [e1, e2]; rfl⟩
end
/-- a tuple of such, not too deep -/
structure Good (d : PyData) : Prop where
  ok : okD d = true
  dp : d.depth ≤ 8
  tu : ∃ xs, d = .tuple xs
/-! ### what stays while tuples stay -/
def Stay (H H' : Hp) : Prop := ∀ b xs, Rd H b (.tup xs) → Rd H' b (.tup xs)
theorem Stay.refl (H : Hp) : Stay H H := fun _ _ h => h
theorem Stay.trans {H H1 H2 : Hp} (a : Stay H H1) (b : Stay H1 H2) : Stay H H2 := fun c xs h => b c xs (a c xs h)
theorem Stay.same {H H' : Hp} (h : Same H H') : Stay H H' := fun b xs r => by
  rcases r with r | ⟨o, r⟩
  · exact .inl (h _ _ r)
  · exact .inr ⟨o, h _ _ r⟩
theorem same_new {H : Hp} {p : Addr} (h : H p = none) (o : HO) : Same H (upd H p o) := fun b u q => by
  rw [upd_ne (ne_of_none q h)]
  exact q
theorem Stay.new {H : Hp} {p : Addr} (h : H p = none) (o : HO) : Stay H (upd H p o) := .same (same_new h o)
theorem Stay.put {H : Hp} {p : Addr} (h : Mut (H p)) (o : HO) : Stay H (upd H p o) := fun b xs r => by
  have ne : b ≠ p := fun z => by
    subst z
    rcases r with r | ⟨u, r⟩
    · rw [r] at h; exact h
    · rw [r] at h; exact h
  unfold Rd
  rw [upd_ne ne]
  exact r
theorem Stay.seq {K : PySem.W.Frag} {H H' : Hp} {a : Addr} {xs : List V} (e : Stay H H') (h : SqT K H a xs) : SqT K H' a xs := by
  rcases h with h | h
  · exact .inl (e _ _ h)
  · exact .inr h
theorem same_tup {K : PySem.W.Frag} {H H' : Hp} {a : Addr} {xs : List V} (e : Same H H') (h : SqT K H a xs) : SqT K H' a xs := (Stay.same e).seq h
section
variable {K : PySem.W.Frag} {H H' : Hp}
mutual
theorem Stay.dp (e : Stay H H') : ∀ (d : PyData) (x : V), okD d = true → Dp K H x d → Dp K H' x d
  | .none, _, _, h => by cases h; exact .non
  | .int _, _, _, h => by cases h; exact .int _
  | .str _, _, _, h => by cases h; exact .str _
  | .tuple ds, _, ok, h => by
    rw [okD] at ok
    cases h with
    | tup h1 h2 => exact .tup (e.seq h1) (Stay.dpAll e ds _ ok h2)
  | .bool _, _, ok, _ => by simp [okD] at ok
  | .list _, _, ok, _ => by simp [okD] at ok
  | .dict _, _, ok, _ => by simp [okD] at ok
theorem Stay.dpAll (e : Stay H H') : ∀ (ds : List PyData) (xs : List V), okDs ds = true → DpAll K H xs ds → DpAll K H' xs ds
  | [], _, _, h => by cases h; exact .nil
  | d :: ds, _, ok, h => by
    obtain ⟨o1, o2⟩ := okDs_cons ok
    cases h with
    | cons h1 h2 => exact .cons (Stay.dp e d _ o1 h1) (Stay.dpAll e ds _ o2 h2)
end
theorem okDs_all {ds : List PyData} (h : ∀ d ∈ ds, okD d = true) : okDs ds = true := by
  induction ds with
  | nil => rfl
  | cons d ds ih =>
    rw [okDs, h d List.mem_cons_self, ih fun e he => h e (List.mem_cons_of_mem _ he)]
    rfl
theorem dpAll_len : ∀ {xs : List V} {ds : List PyData}, DpAll K H xs ds → xs.length = ds.length
  | _, _, .nil => rfl
  | _, _, .cons _ t => by rw [List.length_cons, List.length_cons, dpAll_len t]
theorem dpAll_at : ∀ {xs : List V} {ds : List PyData} {i : Nat} {d : PyData}, DpAll K H xs ds → ds[i]? = some d → ∃ x, xs[i]? = some x ∧ Dp K H x d
  | _, _, _, _, .nil, e => by simp at e
  | _, _, 0, _, .cons h _, e => by
    simp at e
    subst e
    exact ⟨_, rfl, h⟩
  | _, _, i + 1, _, .cons _ t, e => by
    obtain ⟨x, h1, h2⟩ := dpAll_at (i := i) t (by simpa using e)
    exact ⟨x, by simpa using h1, h2⟩
theorem dpAll_at' : ∀ {xs : List V} {ds : List PyData} {i : Nat} {x : V}, DpAll K H xs ds → xs[i]? = some x → ∃ d, ds[i]? = some d ∧ Dp K H x d
  | _, _, _, _, .nil, e => by simp at e
  | _, _, 0, _, .cons h _, e => by
    simp at e
    subst e
    exact ⟨_, rfl, h⟩
  | _, _, i + 1, _, .cons _ t, e => by
    obtain ⟨x, h1, h2⟩ := dpAll_at' (i := i) t (by simpa using e)
    exact ⟨x, by simpa using h1, h2⟩
theorem dpAll_app : ∀ {xs ys : List V} {ds es : List PyData}, DpAll K H xs ds → DpAll K H ys es → DpAll K H (xs ++ ys) (ds ++ es)
  | _, _, _, _, .nil, h => h
  | _, _, _, _, .cons a t, h => .cons a (dpAll_app t h)
theorem Good.ref {x : V} {d : PyData} (g : Good d) (h : Dp K H x d) : ∃ a, x = .ref a := by
  obtain ⟨xs, rfl⟩ := g.tu
  cases h with
  | tup _ _ => exact ⟨_, rfl⟩
end
/-! ### the rules over the abstract heap -/
def tk (L : List (Addr × PyData)) : List (Addr × NK) := L.map fun p => (p.1, toK p.2)
/-- the set of tuples at a, without the tuples -/
def TSetO (w : World) (a : Addr) (L : List (Addr × PyData)) : HO := .ext fun h => ∃ (es : Array (Int × Value)) (ep : Nat) (t : SetTable), (∃ o, h.get? a = some o ∧ o.ExactSet ∧ o.data = .set es ep t) ∧ es.toList = ents w (tk L) ∧ TabOk t (hashes w (tk L)) ∧ ((tk L).map (·.2)).Nodup ∧
  (w.params.followText "set-order" = true ∨ t.led = true) ∧ (tk L).length * 5 < t.mask * 3 ∧ (tk L).length < 76
def XSetO (P : Program) (w : World) (a : Addr) (ms : List Str) : HO := .ext fun h => ∃ (es : Array (Int × Value)) (ep : Nat) (t : SetTable), XSet P w h a ms es ep t
section
variable {X : Cx} {pins : List (Addr × Obj)} {σ : L2.St} {H : Hp} {s : Shared}
theorem key_at (I : Inv X pins σ H s) {a : Addr} {d : PyData} (h : Dp X.K H (.ref a) d) (g : Good d) : TupK s.heap (toK d) a := by
  obtain ⟨as, r⟩ := Dp.reads I d (.ref a) (.ref a) h rfl
  exact ⟨(isK_of d s.heap _ as g.ok r).1, Nat.le_trans (toK_depth d) g.dp⟩
theorem refs_of (g : ∀ d ∈ ds, Good d) {K : PySem.W.Frag} {H : Hp} : ∀ {xs : List V}, DpAll K H xs ds → ∃ L : List (Addr × PyData), xs = L.map (fun p => V.ref p.1) ∧ ds = L.map (·.2) ∧ ∀ p ∈ L, Dp K H (.ref p.1) p.2 := by
  induction ds with
  | nil =>
    intro xs h
    cases h
    exact ⟨[], rfl, rfl, fun p hp => nomatch hp⟩
  | cons d ds ih =>
    intro xs h
    cases h with
    | cons h1 h2 =>
      obtain ⟨L, e1, e2, e3⟩ := ih (fun e he => g e (List.mem_cons_of_mem _ he)) h2
      obtain ⟨a, rfl⟩ := (g d List.mem_cons_self).ref h1
      refine ⟨(a, d) :: L, by rw [e1]; rfl, by rw [e2]; rfl, fun p hp => ?_⟩
      rcases List.mem_cons.mp hp with e | hp
      · rw [e]
        exact h1
      · exact e3 p hp
theorem vals_refs : ∀ {L : List (Addr × PyData)} {us : List Value}, Vals (L.map fun p => V.ref p.1) us → us = (tk L).map fun p => Value.ref p.1
  | [], _, .nil => rfl
  | p :: L, _, .cons r t => by
    cases r
    rw [vals_refs t]
    rfl
/-- set(xs), xs a list or a tuple of tuples -/
def rSetT (K : PySem.W.Frag) (w : World) : List V → Hp → VK → Prop := fun vs H Q => ∃ (l : Addr) (xs : List V) (ds : List PyData), vs = [V.ref l] ∧ (SqL K H l xs ∨ SqT K H l xs) ∧ DpAll K H xs ds ∧ (∀ d ∈ ds, Good d) ∧ ds.length < 76 ∧
  ∀ a L, H a = none → (∀ p ∈ L, p.2 ∈ ds ∧ Dp K H (.ref p.1) p.2) → (∀ d ∈ ds, d ∈ L.map (·.2)) → Q (.ref a) (upd H a (TSetO w a L))
theorem cr_setT (hc : X.calm = true) (hu : X.A.units + 64 < cLine) : CallR X (.type "set") (rSetT X.K X.w) := by
  intro pins s σ H vs us Q I r h
  obtain ⟨l, xs, ds, rfl, hl, hd, hg, hf, q⟩ := h
  obtain ⟨L0, rfl, rfl, hL0⟩ := refs_of hg hd
  rw [Vals.ref1 r]
  have hn : H s.heap.objs.size = none := I.hok.fresh (Nat.le_refl _)
  have hk0 : ∀ p ∈ tk L0, TupK s.heap p.2 p.1 := fun p hp => by
    obtain ⟨z, hz, rfl⟩ := List.mem_map.mp hp
    exact key_at I (hL0 z hz) (hg z.2 (List.mem_map.mpr ⟨z, hz, rfl⟩))
  have few : (tk L0).length < 76 := by
    unfold tk
    rw [List.length_map]
    rw [List.length_map] at hf
    exact hf
  have T := fill_tups (P := X.prog) (w := X.w) s.heap.objs.size s.heap (tk L0) hk0 few
  have fin : ∀ (n : Nat), n = (tk L0).length → ∀ (h' : Heap) (tk' : Nat), (∃ L es ep t, TSet X.prog X.w h' s.heap.objs.size L es ep t ∧ GotN (tk L0) n L) → (∀ b o, s.heap.get? b = some o → h'.get? b = some o) → EP X pins σ Q (.ref s.heap.objs.size) { s with heap := h', toks := tk' } := by
    intro n en h' tk' ⟨L, es, ep, t, R, g⟩ k
    subst en
    have back : ∀ M : List (Addr × NK), (∀ p ∈ M, p ∈ tk L0) → ∃ M0 : List (Addr × PyData), M = tk M0 ∧ ∀ p ∈ M0, p ∈ L0 := by
      intro M
      induction M with
      | nil => exact fun _ => ⟨[], rfl, fun p hp => nomatch hp⟩
      | cons m M ih =>
        intro hm
        obtain ⟨M0, e, h0⟩ := ih fun p hp => hm p (List.mem_cons_of_mem _ hp)
        obtain ⟨z, hz, ez⟩ := List.mem_map.mp (hm m List.mem_cons_self)
        refine ⟨z :: M0, by rw [e, ← ez]; rfl, fun p hp => ?_⟩
        rcases List.mem_cons.mp hp with e' | hp
        · rw [e']
          exact hz
        · exact h0 p hp
    obtain ⟨M, rfl, hM⟩ := back L fun p hp => List.mem_of_mem_take (g.sub p hp)
    have new : ObjOk X.prog X.w (upd H s.heap.objs.size (TSetO X.w s.heap.objs.size M)) h' s.heap.objs.size (TSetO X.w s.heap.objs.size M) := by
      obtain ⟨o, ho, ho2⟩ := R.ob
      refine ⟨⟨es, ep, t, ⟨o, ho, ho2⟩, R.en, R.tab, R.nd, R.led, R.room, R.few⟩, ⟨o, ho⟩, fun h1 h2 ⟨es', ep', t', ⟨o', e1, e2⟩, z⟩ kk => ⟨es', ep', t', ⟨o', kk o' e1, e2⟩, z⟩⟩
    refine ⟨.ref s.heap.objs.size, upd H s.heap.objs.size (TSetO X.w s.heap.objs.size M), I.laid (t' := tk') k (Nat.le_refl _) new, rfl, q _ M hn (fun p hp => ⟨List.mem_map.mpr ⟨p, hM p hp, rfl⟩, hL0 p (hM p hp)⟩) fun d hd => ?_⟩
    obtain ⟨z, hz, rfl⟩ := List.mem_map.mp hd
    have := g.all (z.1, toK z.2) (by rw [List.take_length]; exact List.mem_map.mpr ⟨z, hz, rfl⟩)
    obtain ⟨y, hy, ey⟩ := List.mem_map.mp this
    obtain ⟨y0, hy0, e0⟩ := List.mem_map.mp hy
    have e3 : toK y0.2 = toK z.2 := by
      have e := ey
      rw [← e0] at e
      exact e
    have e4 : y0.2 = z.2 := toK_inj (hg _ (List.mem_map.mpr ⟨y0, hM y0 hy0, rfl⟩)).ok (hg _ (List.mem_map.mpr ⟨z, hz, rfl⟩)).ok e3
    exact List.mem_map.mpr ⟨y0, hy0, e4⟩
  have vlen : ∀ {its : List Value}, its = (tk L0).map (fun p => Value.ref p.1) → its.toArray.size = (tk L0).length := fun e => by
    rw [e, List.size_toArray, List.length_map]
  rcases hl with hl | hl
  · obtain ⟨its, rv, pl, hz⟩ := I.list hl
    have ev := vals_refs rv
    exact call_fill_list (I.ok.hd hc) pl.isList (by rw [show its.toArray.toList = its by simp, ev]; exact T) (by omega) fun h' tk' G k => fin _ (vlen ev) h' tk' G k
  · obtain ⟨its, rv, pl, hz⟩ := I.tuple hl
    have ev := vals_refs rv
    obtain ⟨o, e1, e2, n, e3⟩ := pl
    exact call_fill_tuple (I.ok.hd hc) ⟨o, e1, e2, n, e3⟩ (by rw [show its.toArray.toList = its by simp, ev]; exact T) (by omega) fun h' tk' G k => fin _ (vlen ev) h' tk' G k
theorem tset_get (I : Inv X pins σ H s) {a : Addr} {L : List (Addr × PyData)} (ha : H a = some (TSetO X.w a L)) (hL : ∀ p ∈ L, Good p.2 ∧ Dp X.K H (.ref p.1) p.2) : ∃ es ep t, TSet X.prog X.w s.heap a (tk L) es ep t := by
  obtain ⟨es, ep, t, h1, h2, h3, h4, h5, h6, h7⟩ := (I.hok a _ ha).1
  refine ⟨es, ep, t, h1, h2, h3, h4, fun p hp => ?_, h5, h6, h7⟩
  obtain ⟨z, hz, rfl⟩ := List.mem_map.mp hp
  exact key_at I (hL z hz).2 (hL z hz).1
open PySem.W in
/-- values that stand for data, as values of the layer -/
theorem each_vals {K : PySem.W.Frag} {H : Hp} : ∀ {us : List Value} {ds : List PyData}, EachIs (fun u d => ∃ x, RelV x u ∧ Dp K H x d) us ds → ∃ ys, Vals ys us ∧ DpAll K H ys ds
  | _, _, .nil => ⟨[], .nil, .nil⟩
  | _, _, .cons ⟨x, r, h⟩ t => by
    obtain ⟨ys, v, h'⟩ := each_vals t
    exact ⟨x :: ys, .cons r v, .cons h h'⟩
open PySem.W in
theorem each_map' {α γ δ : Type} {R : γ → δ → Prop} (f : α → γ) (g : α → δ) : ∀ {l : List α}, (∀ a ∈ l, R (f a) (g a)) → EachIs R (l.map f) (l.map g)
  | [], _ => .nil
  | a :: l, h => .cons (h a List.mem_cons_self) (each_map' f g fun b hb => h b (List.mem_cons_of_mem _ hb))
/-- in rising order, as Python's < says -/
abbrev Rising (ds : List PyData) : Prop := ds.Pairwise fun a b => PySem.W.dataLe false id a b = true
/-- sorted(a set of tuples) -/
def rSortT (K : PySem.W.Frag) (w : World) : List V → Hp → VK → Prop := fun vs H Q => ∃ (a : Addr) (L : List (Addr × PyData)), vs = [V.ref a] ∧ H a = some (TSetO w a L) ∧ (∀ p ∈ L, Good p.2 ∧ Dp K H (.ref p.1) p.2) ∧ PySem.W.AllAlike (L.map (·.2)) ∧
  ∀ (ys : List V) (ds : List PyData) (p : Addr), ds.Perm (L.map (·.2)) → ds.Nodup → ds.length < 76 → Rising ds → DpAll K H ys ds → H p = none → Q (.ref p) (upd H p (.lst ys))
theorem cr_sortT (hc : X.calm = true) (hu : X.A.units + 64 < cLine) : CallR X (.builtin "sorted") (rSortT X.K X.w) := by
  intro pins s σ H vs us Q I r h
  obtain ⟨a, L, rfl, ha, hL, hal, q⟩ := h
  obtain ⟨es, ep, t, R⟩ := tset_get I ha hL
  rw [Vals.ref1 r]
  obtain ⟨o, ho, hex, hd⟩ := R.ob
  have hvals : es.toList.map (·.2) = L.map fun p => Value.ref p.1 := by
    rw [R.en]
    unfold ents tk
    rw [List.map_map, List.map_map]
    rfl
  have few : L.length < 76 := by
    have := R.few
    unfold tk at this
    rw [List.length_map] at this
    exact this
  have e1 : PySem.W.EachIs (fun u d => ∃ x, RelV x u ∧ Dp X.K H x d) (es.toList.map (·.2)) (L.map (·.2)) := by
    rw [hvals]
    exact each_map' _ _ fun p hp => ⟨.ref p.1, rfl, (hL p hp).2⟩
  have e2 : PySem.W.EachIs (fun v d => ∃ as, Reads s.heap v (id d) as ∧ ∀ c ∈ as, c < s.heap.objs.size) (es.toList.map (·.2)) (L.map (·.2)) := by
    rw [hvals]
    refine each_map' _ _ fun p hp => ?_
    obtain ⟨as, rd⟩ := Dp.reads I p.2 (.ref p.1) (.ref p.1) (hL p hp).2 rfl
    refine ⟨as, rd, ?_⟩
    rw [(isK_of p.2 s.heap _ as (hL p hp).1.ok rd).2]
    exact fun c hc => nomatch hc
  have hm : ∀ d ∈ (L.map (·.2)).map id, Good d := fun d hd => by
    rw [List.map_id] at hd
    obtain ⟨p, hp, rfl⟩ := List.mem_map.mp hd
    exact (hL p hp).1
  refine sorted_coll (enc := id) (I.ok.hd hc) ⟨o, ho, hex.1, hd⟩ R.fits (by have := size_of_ents R.en; unfold tk at this; rw [List.length_map] at this; unfold scanBound; omega) R.tab.ris R.led e1 e2 (by rw [List.map_id]; exact hal) (.inl fun d hd => (hm d hd).tu) (fun d hd => ?_) fun s' p out c ds k g os hp hg ho' pm sr => ?_
  · have z := (hm d (by rw [List.map_id]; exact hd)).dp
    show X.A.units + 3 + d.depth < cLine
    omega
  · obtain ⟨ys, hv, hd'⟩ := each_vals ho'
    have hn : H p = none := I.hok.fresh hp
    have hl : ds.length = L.length := by rw [pm.length_eq, List.length_map]
    have hlen : ys.length ≤ sizeLine := by
      rw [dpAll_len hd', sizeLine_eq]
      omega
    have nd : ds.Nodup := by
      refine pm.nodup_iff.mpr ?_
      have z := R.nd
      unfold tk at z
      rw [List.map_map] at z
      have z' : (L.map fun p => toK p.2).Nodup := z
      have y : ((L.map (·.2)).map toK).Nodup := by
        rw [List.map_map]
        exact z'
      exact nodup_of_map y
    have J : Inv X pins σ (upd H p (.lst ys)) { s with heap := s'.heap, gens := s'.gens, drawn := s'.drawn, toks := s'.toks } :=
      I.call (ch := []) (Un.laid k hp hn) (I.hok.laid k hp ⟨hlen, out.toList, c, hv, hg⟩) (by rw [g]; exact I.bare) (fun _ z => nomatch z)
    have e : s' = { s with heap := s'.heap, gens := s'.gens, drawn := s'.drawn, toks := s'.toks } := by
      cases s'
      cases s
      cases os
      rfl
    rw [e]
    exact ⟨.ref p, _, J, rfl, q ys ds p pm nd (by omega) sr hd' hn⟩
/-- set(xs), xs a list or a tuple of texts -/
def rSetX (K : PySem.W.Frag) (P : Program) (w : World) : List V → Hp → VK → Prop := fun vs H Q => ∃ (l : Addr) (zs : List Str), vs = [V.ref l] ∧ (SqL K H l (zs.map V.str) ∨ SqT K H l (zs.map V.str)) ∧ zs.length < 1000 ∧
  ∀ a ms, H a = none → ms.Nodup → (∀ z, z ∈ ms ↔ z ∈ zs) → ms.length ≤ zs.length → Q (.ref a) (upd H a (XSetO P w a ms))
theorem vals_texts : ∀ {zs : List Str} {us : List Value}, Vals (zs.map V.str) us → PySem.W.EachIs (fun v z => ∃ u, v = Value.str z u) us zs
  | [], _, .nil => .nil
  | _ :: _, _, .cons r t => .cons r (vals_texts t)
theorem texts_vals {zs : List Str} {us : List Value} (h : PySem.W.EachIs (fun v z => ∃ u, v = Value.str z u) us zs) : Vals (zs.map V.str) us := by
  induction h with
  | nil => exact .nil
  | cons h _ ih => exact .cons h ih
theorem cr_setX (hc : X.calm = true) (hu : X.A.units + 64 < cLine) : CallR X (.type "set") (rSetX X.K X.prog X.w) := by
  intro pins s σ H vs us Q I r h
  obtain ⟨l, zs, rfl, hl, few, q⟩ := h
  rw [Vals.ref1 r]
  have hn : H s.heap.objs.size = none := I.hok.fresh (Nat.le_refl _)
  have fin : ∀ (n : Nat), n = zs.length → ∀ (h' : Heap) (tk' : Nat), (∃ ms es ep t, XSet X.prog X.w h' s.heap.objs.size ms es ep t ∧ (∀ z, z ∈ ms ↔ z ∈ zs.take n) ∧ ms.length ≤ n) → (∀ b o, s.heap.get? b = some o → h'.get? b = some o) → EP X pins σ Q (.ref s.heap.objs.size) { s with heap := h', toks := tk' } := by
    intro n en h' tk' ⟨ms, es, ep, t, R, g, hl⟩ k
    subst en
    have new : ObjOk X.prog X.w (upd H s.heap.objs.size (XSetO X.prog X.w s.heap.objs.size ms)) h' s.heap.objs.size (XSetO X.prog X.w s.heap.objs.size ms) :=
      ⟨⟨es, ep, t, R⟩, ⟨_, R.ob⟩, fun h1 h2 ⟨es', ep', t', R'⟩ kk => ⟨es', ep', t', R'.moved kk⟩⟩
    exact ⟨.ref s.heap.objs.size, _, I.laid (t' := tk') k (Nat.le_refl _) new, rfl, q _ ms hn R.nd (fun z => by rw [g z, List.take_length]) hl⟩
  have sb : scanBound = 4096 := rfl
  rcases hl with hl | hl
  · obtain ⟨its, rv, pl, hz⟩ := I.list hl
    have ev := vals_texts rv
    have T := fill_texts (P := X.prog) (w := X.w) s.heap.objs.size s.heap zs ev (by omega)
    exact call_fill_list (I.ok.hd hc) pl.isList (by rw [show its.toArray.toList = its by simp]; exact T) (by omega) fun h' tk' G k => fin its.toArray.size (by rw [List.size_toArray]; exact ev.length) h' tk' G k
  · obtain ⟨its, rv, pl, hz⟩ := I.tuple hl
    have ev := vals_texts rv
    have T := fill_texts (P := X.prog) (w := X.w) s.heap.objs.size s.heap zs ev (by omega)
    obtain ⟨o, e1, e2, n, e3⟩ := pl
    exact call_fill_tuple (I.ok.hd hc) ⟨o, e1, e2, n, e3⟩ (by rw [show its.toArray.toList = its by simp]; exact T) (by omega) fun h' tk' G k => fin its.toArray.size (by rw [List.size_toArray]; exact ev.length) h' tk' G k
abbrev RisingX (zs : List Str) : Prop := zs.Pairwise fun a b => decide (a.cps.toList ≤ b.cps.toList) = true
open PySem.W in
theorem each_iff {es : List (Int × Value)} : ∀ {ms : List Str}, (∀ e ∈ es, ∃ k u, e.2 = Value.str k u) → ∃ zs, EachIs (fun v z => ∃ u, v = Value.str z u) (es.map (·.2)) zs := by
  induction es with
  | nil => exact fun _ => ⟨[], .nil⟩
  | cons e es ih =>
    intro ms h
    obtain ⟨k, u, ek⟩ := h e List.mem_cons_self
    obtain ⟨zs, hz⟩ := ih (ms := ms) fun e' he => h e' (List.mem_cons_of_mem _ he)
    exact ⟨k :: zs, .cons ⟨u, ek⟩ hz⟩
/-- sorted(a set of texts) -/
def rSortX (P : Program) (w : World) : List V → Hp → VK → Prop := fun vs H Q => ∃ (a : Addr) (ms : List Str), vs = [V.ref a] ∧ H a = some (XSetO P w a ms) ∧ ms.length < 1000 ∧
  ∀ (zs : List Str) (p : Addr), (∀ z, z ∈ zs ↔ z ∈ ms) → zs.Nodup → zs.length ≤ ms.length → RisingX zs → H p = none → Q (.ref p) (upd H p (.lst (zs.map V.str)))
theorem nodup_len_le : ∀ {l m : List Str}, l.Nodup → (∀ z ∈ l, z ∈ m) → l.length ≤ m.length
  | [], _, _, _ => Nat.zero_le _
  | x :: l, m, hn, hs => by
    obtain ⟨h1, h2⟩ := List.nodup_cons.mp hn
    have hx : x ∈ m := hs x List.mem_cons_self
    have ih := nodup_len_le (l := l) (m := m.erase x) h2 fun y hy => (List.mem_erase_of_ne (show y ≠ x from fun e => h1 (by rw [← e]; exact hy))).2 (hs y (List.mem_cons_of_mem _ hy))
    rw [List.length_erase_of_mem hx] at ih
    have := List.length_pos_of_mem hx
    rw [List.length_cons]
    omega
theorem nodup_of_len : ∀ {l m : List Str}, m.Nodup → (∀ z ∈ m, z ∈ l) → l.length ≤ m.length → l.Nodup
  | [], _, _, _, _ => List.nodup_nil
  | x :: l, m, hm, hs, hl => by
    have hxl : x ∉ l := fun hx => by
      have z := nodup_len_le (l := m) (m := l) hm fun z hz => (List.mem_cons.mp (hs z hz)).elim (fun e => by rw [e]; exact hx) id
      rw [List.length_cons] at hl
      omega
    refine List.nodup_cons.mpr ⟨hxl, nodup_of_len (m := m.erase x) (hm.erase x) (fun z hz => ?_) ?_⟩
    · have hz' := List.mem_of_mem_erase hz
      rcases List.mem_cons.mp (hs z hz') with e | h
      · rw [e] at hz
        exact absurd hz (List.Nodup.not_mem_erase hm)
      · exact h
    · by_cases hx : x ∈ m
      · rw [List.length_erase_of_mem hx]
        rw [List.length_cons] at hl
        omega
      · rw [List.erase_of_not_mem hx]
        rw [List.length_cons] at hl
        omega
theorem cr_sortX (hc : X.calm = true) (hu : X.A.units + 64 < cLine) : CallR X (.builtin "sorted") (rSortX X.prog X.w) := by
  intro pins s σ H vs us Q I r h
  obtain ⟨a, ms, rfl, ha, hlt, q⟩ := h
  obtain ⟨es, ep, t, R⟩ := (I.hok a _ ha).1
  rw [Vals.ref1 r]
  have hel := R.ok.el
  have hsz : es.size = ms.length := R.ok.sz
  obtain ⟨zs, hz⟩ := each_iff (es := es.toList) (ms := ms) fun e he => by
    obtain ⟨⟨k, hk, _⟩, _⟩ := hel e he
    obtain ⟨u, hu⟩ := Value.isStrOf_shape (x := k) (v := e.2) hk
    exact ⟨k, u, hu⟩
  have e1 : PySem.W.EachIs (fun u z => RelV (.str z) u) (es.toList.map (·.2)) zs := hz
  have e2 : PySem.W.EachIs (fun v z => ∃ as, Reads s.heap v (PyData.str z) as ∧ ∀ c ∈ as, c < s.heap.objs.size) (es.toList.map (·.2)) zs := hz.mono fun v z ⟨u, e⟩ => ⟨[], by rw [e]; exact .str z u, fun c hc => nomatch hc⟩
  have mem : ∀ z, z ∈ zs ↔ z ∈ ms := fun z => by
    rw [R.ok.mem z]
    constructor
    · intro hm
      obtain ⟨i, hi, ei⟩ := List.getElem_of_mem hm
      have hi2 : i < (es.toList.map (·.2)).length := by rw [hz.length]; exact hi
      have pz : ((es.toList.map (·.2))[i], zs[i]) ∈ (es.toList.map (·.2)).zip zs := List.mem_of_getElem? (i := i) (by rw [List.getElem?_zip_eq_some]; exact ⟨List.getElem?_eq_getElem hi2, List.getElem?_eq_getElem hi⟩)
      obtain ⟨u, hu⟩ := hz.zip _ pz
      have hin := List.getElem_mem hi2
      rw [show (es.toList.map (·.2))[i] = Value.str zs[i] u from hu, ei] at hin
      obtain ⟨e, he, ee⟩ := List.mem_map.mp hin
      exact ⟨e, he, by rw [ee]; exact is_str z u⟩
    · rintro ⟨e, he, hk⟩
      obtain ⟨z', hz', u, hu⟩ := hz.left e.2 (List.mem_map.mpr ⟨e, he, rfl⟩)
      rw [hu] at hk
      have : z = z' := (strKind X.prog X.w).inj (.str z' u) z z' hk (is_str z' u)
      rw [this]
      exact hz'
  have zl : zs.length = ms.length := by rw [← hz.length, List.length_map, Array.length_toList, hsz]
  refine sorted_coll (enc := fun z : Str => PyData.str z) (I.ok.hd hc) ⟨_, R.ob, rfl, rfl⟩ R.ok.fit (by show es.size < scanBound; unfold scanBound; omega) R.ris R.led e1 e2 (PySem.W.AllAlike.of fun b b' => by simp [PySem.W.alike]) (.inr (PySem.W.Sortable.others fun b => ⟨(fun z => nomatch z), (fun xs z => nomatch z)⟩)) (fun d hd => ?_) fun s' p out c zs' k g os hp hg ho' pm sr => ?_
  · show X.A.units + 3 + (PyData.str d).depth < cLine
    simp only [PyData.depth]
    omega
  · have hn : H p = none := I.hok.fresh hp
    have hv : Vals (zs'.map V.str) out.toList := texts_vals ho'
    have hl : zs'.length = ms.length := by rw [pm.length_eq, zl]
    have hlen : (zs'.map V.str).length ≤ sizeLine := by
      rw [List.length_map, sizeLine_eq]
      omega
    have J : Inv X pins σ (upd H p (.lst (zs'.map V.str))) { s with heap := s'.heap, gens := s'.gens, drawn := s'.drawn, toks := s'.toks } :=
      I.call (ch := []) (Un.laid k hp hn) (I.hok.laid k hp ⟨hlen, out.toList, c, hv, hg⟩) (by rw [g]; exact I.bare) (fun _ z => nomatch z)
    have e : s' = { s with heap := s'.heap, gens := s'.gens, drawn := s'.drawn, toks := s'.toks } := by
      cases s'
      cases s
      cases os
      rfl
    rw [e]
    rw [PySem.W.dataLe_str fun z : Str => z] at sr
    have mem' : ∀ z, z ∈ zs' ↔ z ∈ ms := fun z => by rw [pm.mem_iff]; exact mem z
    exact ⟨.ref p, _, J, rfl, q zs' p mem' (nodup_of_len R.nd (fun z hz => (mem' z).mpr hz) (Nat.le_of_eq hl)) (Nat.le_of_eq hl) sr hn⟩
/-- sorted(a list of tuples) -/
def rSortL (K : PySem.W.Frag) : List V → Hp → VK → Prop := fun vs H Q => ∃ (a : Addr) (xs : List V) (ds : List PyData), vs = [V.ref a] ∧ SqL K H a xs ∧ DpAll K H xs ds ∧ (∀ d ∈ ds, Good d) ∧ PySem.W.AllAlike ds ∧
  ∀ (ys : List V) (es : List PyData) (p : Addr), es.Perm ds → Rising es → DpAll K H ys es → H p = none → Q (.ref p) (upd H p (.lst ys))
theorem cr_sortL (hu : X.A.units + 64 < cLine) : CallR X (.builtin "sorted") (rSortL X.K) := by
  intro pins s σ H vs us Q I r h
  obtain ⟨a, xs, ds, rfl, ha, hd, hg, hal, q⟩ := h
  rw [Vals.ref1 r]
  obtain ⟨its, rv, pl, hz⟩ := I.list ha
  have both : ∀ {xs : List V} {ds : List PyData} {its : List Value}, Vals xs its → DpAll X.K H xs ds → (∀ d ∈ ds, Good d) → PySem.W.EachIs (fun u d => (∃ x, RelV x u ∧ Dp X.K H x d) ∧ ∃ as, Reads s.heap u (id d) as) its ds := by
    intro xs ds its rv
    induction rv generalizing ds with
    | nil =>
      intro hd _
      cases hd
      exact .nil
    | cons r _ ih =>
      intro hd hg
      cases hd with
      | cons h1 h2 => exact .cons ⟨⟨_, r, h1⟩, Dp.reads I _ _ _ h1 r⟩ (ih h2 fun d hd => hg d (List.mem_cons_of_mem _ hd))
  have e0 := both rv hd hg
  have il : its.length = ds.length := e0.length
  have sl := sizeLine_eq
  have xl := rv.length
  have er' : PySem.W.EachIs (fun v d => ∃ as, Reads (PySem.W.sortingHeap (PySem.W.copyHeap s.heap its) (s.heap.objs.size + 1) its) v (id d) as) its ds := e0.mono fun _ _ z => by
    obtain ⟨_, as, rd⟩ := z
    exact ⟨as, PyProof.Rows.Reads.keeps (fun _ _ => PySem.W.sorting_copy_old) rd⟩
  have can : PySem.W.SortsAt X.prog X.w X.A.in1.in1 { s with heap := PySem.W.sortingHeap (PySem.W.copyHeap s.heap its) (s.heap.objs.size + 1) its } (PySem.W.dataKind (PySem.W.sortingHeap (PySem.W.copyHeap s.heap its) (s.heap.objs.size + 1) its) ds) its :=
    SortsAt.tups (s := { s with heap := PySem.W.sortingHeap (PySem.W.copyHeap s.heap its) (s.heap.objs.size + 1) its }) er' hal (fun d hd => (hg d hd).tu) fun d hd => by
      have z := (hg d hd).dp
      simp only [Around.in1_units]
      omega
  refine PySem.W.sorted_vals pl.isList can (by omega) ?_
  have eo : PySem.W.EachIs (fun u d => ∃ x, RelV x u ∧ Dp X.K H x d) (PySem.W.sortVals (PySem.W.dataKind (PySem.W.sortingHeap (PySem.W.copyHeap s.heap its) (s.heap.objs.size + 1) its) ds) false its its) (ds.mergeSort (PySem.W.dataLe false id)) := by
    have z := PySem.W.sortVals_data (h' := PySem.W.sortingHeap (PySem.W.copyHeap s.heap its) (s.heap.objs.size + 1) its) (enc := id) false (e0.mono fun _ _ z => z.1) er' (by rw [List.map_id]; exact hal)
    rw [List.map_id] at z
    exact z
  obtain ⟨ys, hv, hd'⟩ := each_vals eo
  have sf := sort_facts id ds
  generalize hout : PySem.W.sortVals (PySem.W.dataKind (PySem.W.sortingHeap (PySem.W.copyHeap s.heap its) (s.heap.objs.size + 1) its) ds) false its its = out at eo hv
  have hn : H (s.heap.objs.size + 1) = none := I.hok.fresh (Nat.le_succ _)
  obtain ⟨c, hcc⟩ := sortedAll_at s.heap its out.toArray
  have hlen : ys.length ≤ sizeLine := by
    rw [dpAll_len hd', sf.1.length_eq]
    omega
  exact ⟨.ref (s.heap.objs.size + 1), upd H (s.heap.objs.size + 1) (.lst ys), I.laid (t' := s.toks) (fun b o e => sortedAll_old e) (Nat.le_succ _) ⟨hlen, out, c, hv, hcc⟩, rfl, q ys _ _ sf.1 sf.2 hd' hn⟩
end
end Rw
namespace Rw
open PySem PySem.Spec PyProof.Rows L2
/-! ### dicts whose keys are tuples of texts and of such tuples -/
abbrev Ent := PyData × Addr × V
def RelE (p : Ent) (q : NK × Addr × Value) : Prop := toK p.1 = q.1 ∧ p.2.1 = q.2.1 ∧ RelV p.2.2 q.2.2
def NDO (P : Program) (w : World) (d : Addr) (kvs : List Ent) : HO := .ext fun h => kvs.length ≤ 100000 ∧ (d == sysModules) = false ∧ ∃ xs : List (NK × Addr × Value), Paired RelE kvs xs ∧
  ∃ o es ep, h.get? d = some o ∧ o.ExactDict ∧ o.data = .dict es ep ∧ es.toList = xs.map (entryOfKey (nestedKind P w)) ∧ (xs.map (·.1)).Nodup
/-- the entries' keys stand -/
abbrev KeysOk (K : PySem.W.Frag) (H : Hp) (kvs : List Ent) : Prop := ∀ p ∈ kvs, Good p.1 ∧ Dp K H (.ref p.2.1) p.1
theorem KeysOk.stay {K : PySem.W.Frag} {H H' : Hp} {kvs : List Ent} (h : KeysOk K H kvs) (e : Stay H H') : KeysOk K H' kvs := fun p hp => ⟨(h p hp).1, e.dp _ _ (h p hp).1.ok (h p hp).2⟩
theorem paired_mem {α β : Type} {F : α → β → Prop} : ∀ {l : List α} {m : List β}, Paired F l m → ∀ y ∈ m, ∃ x ∈ l, F x y
  | _, _, .nil, y, h => nomatch h
  | _, _, .cons r t, y, h => by
    rcases List.mem_cons.mp h with e | h
    · subst e
      exact ⟨_, List.mem_cons_self, r⟩
    · obtain ⟨x, hx, hr⟩ := paired_mem t y h
      exact ⟨x, List.mem_cons_of_mem _ hx, hr⟩
theorem paired_snoc {α β : Type} {F : α → β → Prop} {x : α} {y : β} (r : F x y) : ∀ {l : List α} {m : List β}, Paired F l m → Paired F (l ++ [x]) (m ++ [y])
  | _, _, .nil => .cons r .nil
  | _, _, .cons q t => .cons q (paired_snoc r t)
/-- what a look-up finds -/
theorem nd_look {kvs : List Ent} {xs : List (NK × Addr × Value)} (p : Paired RelE kvs xs) (hk : ∀ p ∈ kvs, Good p.1) {k : PyData} (g : Good k) :
    (∀ q, atKey xs (toK k) = some q → ∃ z ∈ kvs, z.1 = k ∧ RelV z.2.2 q.2) ∧ (atKey xs (toK k) = none → ∀ z ∈ kvs, z.1 ≠ k) := by
  induction p with
  | nil => exact ⟨fun q h => by simp [atKey] at h, fun _ z hz => nomatch hz⟩
  | @cons a b as bs r t ih =>
    obtain ⟨r1, r2, r3⟩ := r
    obtain ⟨i1, i2⟩ := ih fun p hp => hk p (List.mem_cons_of_mem _ hp)
    by_cases e : b.1 = toK k
    · have ek : a.1 = k := toK_inj (hk a List.mem_cons_self).ok g.ok (r1.trans e)
      have ea : atKey (b :: bs) (toK k) = some b.2 := by simp [atKey, e]
      refine ⟨fun q h => ?_, fun h => ?_⟩
      · rw [ea] at h
        cases h
        exact ⟨a, List.mem_cons_self, ek, r3⟩
      · rw [ea] at h
        cases h
    · have ea : atKey (b :: bs) (toK k) = atKey bs (toK k) := by simp [atKey, e]
      have ne : a.1 ≠ k := fun z => e (by rw [← r1, z])
      refine ⟨fun q h => ?_, fun h z hz => ?_⟩
      · rw [ea] at h
        obtain ⟨z, hz, h1⟩ := i1 q h
        exact ⟨z, List.mem_cons_of_mem _ hz, h1⟩
      · rw [ea] at h
        rcases List.mem_cons.mp hz with e' | hz
        · rw [e']
          exact ne
        · exact i2 h z hz
section
variable {X : Cx} {pins : List (Addr × Obj)} {σ : L2.St} {H : Hp} {s : Shared} {d : Addr} {kvs : List Ent} {E : Value → Shared → Prop}
theorem nd_get (I : Inv X pins σ H s) (hd : H d = some (NDO X.prog X.w d kvs)) (hk : KeysOk X.K H kvs) : kvs.length ≤ 100000 ∧ (d == sysModules) = false ∧ ∃ xs, Paired RelE kvs xs ∧ s.heap.DictOfH (nestedKind X.prog X.w) d xs := by
  obtain ⟨hz, hs, xs, p, o, es, ep, h1, h2, h3, h4, h5⟩ := (I.hok d _ hd).1
  refine ⟨hz, hs, xs, p, o, es, ep, h1, h2, h3, h4, fun x hx => ?_, h5⟩
  obtain ⟨q, hq, r1, r2, _⟩ := paired_mem p x hx
  have := key_at I (hk q hq).2 (hk q hq).1
  rw [r1, r2] at this
  exact this
theorem nd_new {kvs : List Ent} {xs : List (NK × Addr × Value)} {h' : Heap} {H' : Hp} (hz : kvs.length ≤ 100000) (hs : (d == sysModules) = false) (p : Paired RelE kvs xs) (m : h'.DictOfH (nestedKind X.prog X.w) d xs) : ObjOk X.prog X.w H' h' d (NDO X.prog X.w d kvs) := by
  obtain ⟨o, es, ep, h1, h2, h3, h4, _, h5⟩ := m
  refine ⟨⟨hz, hs, xs, p, o, es, ep, h1, h2, h3, h4, h5⟩, ⟨o, h1⟩, fun a b ⟨z1, z2, xs', p', o', es', ep', k1, k2⟩ kk => ⟨z1, z2, xs', p', o', es', ep', kk o' k1, k2⟩⟩
/-- k in d, k not in d -/
def rInN (K : PySem.W.Frag) (P : Program) (w : World) (neg : Bool) : R2 := fun x y H Q => ∃ (a d : Addr) (kvs : List Ent) (k : PyData), x = .ref a ∧ y = .ref d ∧ H d = some (NDO P w d kvs) ∧ KeysOk K H kvs ∧ Good k ∧ Dp K H (.ref a) k ∧
  ∀ b : Bool, (b = true ↔ k ∈ kvs.map (·.1)) → Q (.bl (if neg then !b else b)) H
theorem nd_isSome {xs : List (NK × Addr × Value)} (p : Paired RelE kvs xs) (hk : ∀ p ∈ kvs, Good p.1) {k : PyData} (g : Good k) : (atKey xs (toK k)).isSome = true ↔ k ∈ kvs.map (·.1) := by
  obtain ⟨l1, l2⟩ := nd_look p hk g
  cases e : atKey xs (toK k) with
  | none => exact ⟨(fun h => nomatch h), fun h => by
      obtain ⟨z, hz, ez⟩ := List.mem_map.mp h
      exact absurd ez (l2 e z hz)⟩
  | some q => exact ⟨fun _ => by
      obtain ⟨z, hz, h1, _⟩ := l1 q e
      exact List.mem_map.mpr ⟨z, hz, h1⟩, fun _ => rfl⟩
theorem op_inN (hu : X.A.units + 64 < cLine) : OpR X (compareOp .In) (rInN X.K X.prog X.w false) := by
  intro pins s σ H x y v u Q I rx ry h
  obtain ⟨a, d, kvs, k, rfl, rfl, hd, hk, g, da, q⟩ := h
  cases rx
  cases ry
  obtain ⟨hz, hs, xs, p, m⟩ := nd_get I hd hk
  refine wpAny_in_heap (knd := nestedKind X.prog X.w) (by show X.A.units + 1 + 8 < cLine; omega) (key_at I da g) hs m ?_
  exact ⟨.bl _, H, I.tok _, rfl, q _ (nd_isSome p (fun z hz => (hk z hz).1) g)⟩
theorem op_notInN (hu : X.A.units + 64 < cLine) : OpR X (compareOp .NotIn) (rInN X.K X.prog X.w true) := by
  intro pins s σ H x y v u Q I rx ry h
  obtain ⟨a, d, kvs, k, rfl, rfl, hd, hk, g, da, q⟩ := h
  cases rx
  cases ry
  obtain ⟨hz, hs, xs, p, m⟩ := nd_get I hd hk
  refine wpAny_notIn_heap (knd := nestedKind X.prog X.w) (by show X.A.units + 1 + 8 < cLine; omega) (key_at I da g) hs m ?_
  exact ⟨.bl _, H, I.tok _, rfl, q _ (nd_isSome p (fun z hz => (hk z hz).1) g)⟩
/-- d[k], k is there -/
def rGetN (K : PySem.W.Frag) (P : Program) (w : World) : R2 := fun x y H Q => ∃ (a d : Addr) (kvs : List Ent) (k : PyData), x = .ref d ∧ y = .ref a ∧ H d = some (NDO P w d kvs) ∧ KeysOk K H kvs ∧ Good k ∧ Dp K H (.ref a) k ∧ k ∈ kvs.map (·.1) ∧
  ∀ z ∈ kvs, z.1 = k → Q z.2.2 H
theorem pe_getN {o i : Expr} {td ty : TE} {pos : Pos} (hu : X.A.units + 64 < cLine) (hr : PE X o td) (hi : PE X i ty) (hs : NoSl i) : PE X (.Subscript o i pos) (tOp (rGetN X.K X.prog X.w) td ty) := by
  refine ⟨fun pins s σ H Q I h => ?_⟩
  refine subD_of PySem.F.slot_dict_getitem.lookup hs (thn (hr.run pins s σ H _ I h) fun v s1 ⟨x, H1, I1, r1, q1⟩ => thn (hi.run pins s1 σ H1 _ I1 q1) fun u s2 ⟨y, H2, I2, r2, a, d, kvs, k, ex, ey, hd, hk, g, da, hm, q⟩ => ?_)
  subst ex ey
  cases r1
  cases r2
  obtain ⟨hz, hs', xs, p, m⟩ := nd_get I2 hd hk
  obtain ⟨l1, l2⟩ := nd_look p (fun z hz => (hk z hz).1) g
  refine ⟨m.typeIs, ?_⟩
  cases e : atKey xs (toK k) with
  | none =>
    obtain ⟨z, hz, ez⟩ := List.mem_map.mp hm
    exact absurd ez (l2 e z hz)
  | some pv =>
    obtain ⟨z, hz, ez, rz⟩ := l1 pv e
    exact wpAny_getItem_heap (knd := nestedKind X.prog X.w) (by show X.A.units + 1 + 8 < cLine; omega) (key_at I2 da g) m e ⟨z.2.2, H2, I2.tok _, rz, q z hz ez⟩
/-- {} -/
theorem pe_dnewN {pos : Pos} : PE X (.Dict [] [] pos) (fun _ H Q => ∀ p, H p = none → Q (.ref p) (upd H p (NDO X.prog X.w p []))) := ⟨fun pins s σ H Q I h =>
  wpAny_Dict_empty ⟨.ref s.heap.objs.size, _, I.laid (a := s.heap.objs.size) (o := NDO X.prog X.w s.heap.objs.size []) (t' := s.toks) (fun _ _ q => Heap.get?_push_of_some _ q) (Nat.le_refl _)
    (nd_new (X := X) (Nat.zero_le _) (by have := I.big; exact beq_eq_false_iff_ne.mpr (Nat.ne_of_gt this)) .nil (Heap.DictOfH.new _)), rfl, h _ (I.hok.fresh (Nat.le_refl _))⟩⟩
/-- an entry more -/
theorem nd_put {a : Addr} {k : PyData} {x : V} {u : Value} {A : Around} {Q : Unit → Shared → Prop} (hu : A.units + 8 < cLine) (I : Inv X pins σ H s) (hd : H d = some (NDO X.prog X.w d kvs)) (hk : KeysOk X.K H kvs) (g : Good k) (da : Dp X.K H (.ref a) k) (new : k ∉ kvs.map (·.1)) (few : kvs.length < 100000) (r : RelV x u)
    (h : ∀ s', Inv X pins σ (upd H d (NDO X.prog X.w d (kvs ++ [(k, a, x)]))) s' → (∀ b o, b ≠ d → s.heap.get? b = some o → s'.heap.get? b = some o) → Q () s') : wpAny (model X.prog X.w) A (dictSet d (.ref a) u) Q E s := by
  obtain ⟨hz, hs, xs, p, m⟩ := nd_get I hd hk
  have xl : xs.length = kvs.length := (Paired.length p).symm
  have none_ : atKey xs (toK k) = none := by
    cases e : atKey xs (toK k) with
    | none => rfl
    | some q => exact absurd ((nd_isSome p (fun z hz => (hk z hz).1) g).mp (by rw [e]; rfl)) new
  refine wpAny_dictSet_heap (knd := nestedKind X.prog X.w) (hsz := by rw [sizeLine_eq]; omega) hu (key_at I da g) m fun h' m' sb => ?_
  rw [storedH_new none_] at m'
  have ex : ∃ q, h'.get? d = some q := let ⟨q, _, _, hq, _⟩ := m'; ⟨q, hq⟩
  refine h _ (d_write (t' := _) I (by rw [hd]; exact True.intro) sb ex (nd_new (by rw [List.length_append, List.length_singleton]; omega) hs (paired_snoc ⟨rfl, rfl, r⟩ p) m')) fun b o hb e => (sb.2 b hb).trans e
/-- d.setdefault(k, x) -/
def tSetdN (K : PySem.W.Frag) (P : Program) (w : World) (td ty tx : TE) : TE := fun σ H Q => td σ H fun x H1 => ∃ d kvs0, x = .ref d ∧ H1 d = some (NDO P w d kvs0) ∧ ty σ H1 fun y H2 => tx σ H2 fun z H3 => ∃ (a : Addr) (kvs : List Ent) (k : PyData), y = .ref a ∧ H3 d = some (NDO P w d kvs) ∧ KeysOk K H3 kvs ∧
  Good k ∧ Dp K H3 (.ref a) k ∧ kvs.length < 100000 ∧ (∀ e ∈ kvs, e.1 = k → Q e.2.2 H3) ∧ (k ∉ kvs.map (·.1) → Q z (upd H3 d (NDO P w d (kvs ++ [(k, a, z)]))))
theorem pe_setdN {o e f : Expr} {td ty tx : TE} {apos cpos : Pos} (hu : X.A.units + 64 < cLine) (ho : PE X o td) (he : PE X e ty) (hf : PE X f tx) (m : M2 X o "setdefault" apos e f cpos) : PE X (.Call (.Attribute o "setdefault" apos) [e, f] [] cpos) (tSetdN X.K X.prog X.w td ty tx) := by
  refine ⟨fun pins s σ H Q I h => ?_⟩
  refine wpAny_Call_method m.base m.few m.line PySem.F.plainAttrs_dict PySem.F.slot_dict_setdefault PySem.F.type_dict_setdefault (thn (ho.run pins s σ H _ I h) fun u s1 ⟨x, H1, I1, rx, d, kvs0, ex, d0, q1⟩ => ?_)
  subst ex
  obtain rfl : u = Value.ref d := rx
  have ty0 : ∃ o, s1.heap.get? d = some o ∧ o.cls = .type "dict" ∧ o.dict = none := by
    obtain ⟨_, _, xs, _, o, es, ep, h1, h2, _⟩ := (I1.hok d _ d0).1
    exact ⟨o, h1, h2.1, h2.2.1⟩
  obtain ⟨ob, ho1, ho2, ho3⟩ := ty0
  refine ⟨⟨ob, ho1, ho2⟩, fun b eb => ?_, ?_⟩
  · cases eb
    exact ⟨ob, ho1, ho3⟩
  rw [m.trees]
  refine Calls.callWith_builtin rfl (Calls.evalArgs_plain (Calls.spliced_cons (thn (he.run pins s1 σ H1 _ I1 q1) fun iv s2 ⟨y, H2, I2, ry, q2⟩ =>
    Calls.spliced_cons (thn (hf.run pins s2 σ H2 _ I2 q2) fun fv s3 ⟨z, H3, I3, rz, a, kvs, k, ey, hd, hk, g, da, few, q3, q4⟩ => Calls.spliced_nil ?_))))
  subst ey
  obtain rfl : iv = Value.ref a := ry
  obtain ⟨hz, hs, xs, p, mm⟩ := nd_get I3 hd hk
  have xl : xs.length = kvs.length := (Paired.length p).symm
  obtain ⟨l1, l2⟩ := nd_look p (fun z hz => (hk z hz).1) g
  refine call_setdefault_heap (knd := nestedKind X.prog X.w) (hsz := by rw [sizeLine_eq]; omega) (by show X.A.units + 1 + 8 < cLine; omega) (key_at I3 da g) hs mm (fun pv hp => ?_) fun hn h' m' sb => ?_
  · obtain ⟨z', hz', ez, rz'⟩ := l1 pv hp
    exact ⟨z'.2.2, H3, I3.tok _, rz', q3 z' hz' ez⟩
  · rw [storedH_new hn] at m'
    have ex : ∃ q, h'.get? d = some q := let ⟨q, _, _, hq, _⟩ := m'; ⟨q, hq⟩
    refine ⟨z, _, d_write (t' := _) I3 (by rw [hd]; exact True.intro) sb ex (nd_new (by rw [List.length_append, List.length_singleton]; omega) hs (paired_snoc ⟨rfl, rfl, rz⟩ p) m'), rz, q4 fun hm => ?_⟩
    obtain ⟨z', hz', ez⟩ := List.mem_map.mp hm
    exact l2 hn z' hz' ez
end
end Rw
namespace Rw
open PySem PySem.Spec PyProof.Rows L2
/-! ### y = {x: True for x in xs}, xs a list of tuples, no two alike -/
theorem idx_new {ds : List PyData} (hn : ds.Nodup) {i : Nat} {d : PyData} (h : ds[i]? = some d) : d ∉ ds.take i := fun hm => by
  have z := take_snoc h
  have nd : (ds.take (i + 1)).Nodup := List.Nodup.sublist (List.take_sublist _ _) hn
  rw [z] at nd
  obtain ⟨_, _, h3⟩ := List.nodup_append.mp nd
  exact h3 d hm d (List.mem_singleton.mpr rfl) rfl
theorem vals_at : ∀ {xs : List V} {us : List Value} {i : Nat} {u : Value}, Vals xs us → us[i]? = some u → ∃ x, xs[i]? = some x ∧ RelV x u
  | _, _, _, _, .nil, e => by simp at e
  | _, _, 0, _, .cons r _, e => by
    simp at e
    subst e
    exact ⟨_, rfl, r⟩
  | _, _, i + 1, _, .cons _ t, e => by
    obtain ⟨x, h1, h2⟩ := vals_at (i := i) t (by simpa using e)
    exact ⟨x, by simpa using h1, h2⟩
section
variable {X : Cx}
def tSetD (K : PySem.W.Frag) (P : Program) (w : World) (ti : TE) : TE := fun σ H Q => ti σ H fun v H1 => ∃ (l : Addr) (xs : List V) (ds : List PyData), v = .ref l ∧ SqL K H1 l xs ∧ DpAll K H1 xs ds ∧ (∀ d ∈ ds, Good d) ∧ ds.Nodup ∧ ds.length ≤ 1000 ∧
  ∀ D kvs, H1 D = none → kvs.map (·.1) = ds → KeysOk K H1 kvs → Q (.ref D) (upd H1 D (NDO P w D kvs))
theorem ps_setDictTrue {i : Nat} {y x : Str} {py p1 p2 p3 pos spos : Pos} {kk : Nat} {iter : Expr} {scope : Scope} {own : List (Str × Nat)} {ti : TE} (hc : X.calm = true) (hu : X.A.units + 64 < cLine) (hN : X.N.Nodup) (hy : X.N[i]? = some y) (hyl : X.env.scope.names.lookup y = some .local)
    (hsw : swapsWith (.DictComp (.Name x p1) (.Constant (.bool true) kk p2) [⟨.Name x p3, iter, [], 0⟩] scope pos) (some (.Name y py)) spos.line X.env = pure true) (hi : PE X iter ti) (ok : BlkOk X.N X.env.scope scope own)
    (hx : scope.names.lookup x = some .local) (hdeb : (x == ("__debug__" : Str)) = false) (hcell : ∀ z ∈ scope.names, z.2 ≠ .cell) (hs : ∀ x, foldedSetIterable iter X.env x = pure x := by intro _; rfl) :
    PS X (.Assign [.Name y py] (.DictComp (.Name x p1) (.Constant (.bool true) kk p2) [⟨.Name x p3, iter, [], 0⟩] scope pos) spos) (tAsg (tSetD X.K X.prog X.w ti) (gName i)) := by
  refine ⟨fun pins s σ H D I h => ?_⟩
  have h : tSetD X.K X.prog X.w ti σ H (fun x H1 => gName i x σ H1 D.nx) := h
  have hfree : ∀ y ∈ scope.names, y.2 = .free → ∃ c, X.env.cells.lookup y.1 = some c := fun y hy e => by
    rcases ok.free y hy e with k | k
    · exact I.ok.has _ (.inl k)
    · exact I.ok.has _ (.inr k)
  rw [exec_Assign_Name_used _ _ _ _ hsw]
  refine wpAny_bind (wpAny_standAt (wpAny_bind ?_))
  show wpAny _ X.A (do let _ ← comprehension (.DictComp (.Name x p1) (.Constant (.bool true) kk p2) [⟨.Name x p3, iter, [], 0⟩] scope pos) scope X.env _ newDict false (eval iter X.env) (some (assign (.Name y py) X.env))) _ _ s
  have main : wpAny (model X.prog X.w) X.A (eval iter X.env) (fun xv s₁ => wpAny (model X.prog X.w) X.A (pyIter xv)
      (DcGoes X.prog X.w X.A X.xe X.env scope (cloFrom X.env.cells scope.names []) (.Name x p3) [] (.Name x p1) (.Constant (.bool true) kk p2) (some (assign (.Name y py) X.env)) (fun _ s' => SP X pins D .next s')) X.xe s₁) X.xe s := by
    refine thn (hi.run pins s σ H _ I h) fun xv s1 ⟨v, H1, I1, rv, l, xs, ds, ev, hl, hd, hg, hnd, hlen, q⟩ => ?_
    subst ev
    obtain rfl : xv = Value.ref l := rv
    obtain ⟨its, rvs, pl, _⟩ := I1.list hl
    have hl0 : s1.heap.IsList l its.toArray := pl.isList
    have hlt : (l : Nat) < s1.heap.objs.size := by
      obtain ⟨o, ho, _⟩ := hl0
      exact Heap.lt_size ho
    have il : its.length = ds.length := by rw [← rvs.length, dpAll_len hd]
    refine wpAny_pyIter_list hl0 ?_
    refine ⟨s1.heap.objs.size, [s1.heap.objs.size, l], [s1.heap.objs.size], its.toArray.size, _, _, rfl, Goes.list (I1.ok.hd hc) s1.heap.objs.size l (Nat.ne_of_lt hlt) its.toArray, ⟨⟨_, Heap.get?_push_size _ rfl, rfl, rfl⟩, hl0.push _⟩, ?_⟩
    intro D0 C s3 hB hDobj
    obtain ⟨⟨h3, tk3, rfl⟩, old, nD, nC, hDC, hnm⟩ := hB
    have szp : (s1.heap.push { cls := .type "list_iterator", data := .fields #[.ref l, .int 0 0] }).objs.size = s1.heap.objs.size + 1 := Heap.size_push ..
    have nD' : s1.heap.objs.size + 1 ≤ D0 := by
      have q := nD
      rw [szp] at q
      exact q
    have nC' : s1.heap.objs.size + 1 ≤ C := by
      have q := nC
      rw [szp] at q
      exact q
    have sD : s1.heap.objs.size ≤ D0 := Nat.le_trans (Nat.le_succ _) nD'
    have sC : s1.heap.objs.size ≤ C := Nat.le_trans (Nat.le_succ _) nC'
    have neDI : s1.heap.objs.size ≠ D0 := Nat.ne_of_lt nD'
    have neCI : s1.heap.objs.size ≠ C := Nat.ne_of_lt nC'
    have neDl : (l : Nat) ≠ D0 := Nat.ne_of_lt (Nat.lt_of_lt_of_le hlt sD)
    have neCl : (l : Nat) ≠ C := Nat.ne_of_lt (Nat.lt_of_lt_of_le hlt sC)
    have hDn : H1 D0 = none := I1.hok.fresh sD
    have hIn : H1 s1.heap.objs.size = none := I1.hok.fresh (Nat.le_refl _)
    have hCn : H1 C = none := I1.hok.fresh sC
    have all3 : ∀ b o, s1.heap.get? b = some o → h3.get? b = some o := fun b o e => old b o (Heap.get?_push_of_some _ e)
    have kx : (compEnvC scope (cloFrom X.env.cells scope.names []) C X.env).kindOf x = some .local := lookup_relabel_local hx
    have hp : ((compEnvC scope (cloFrom X.env.cells scope.names []) C X.env).scope.kind == .class || ((compEnvC scope (cloFrom X.env.cells scope.names []) C X.env).scope.kind == .module && (compEnvC scope (cloFrom X.env.cells scope.names []) C X.env).locals != (compEnvC scope (cloFrom X.env.cells scope.names []) C X.env).globals)) = false := by
      show (scope.kind == .class || (scope.kind == .module && _)) = false
      rw [ok.kind]
      rfl
    have fpI : ∀ kvs, FpOk X pins (upd H1 D0 (NDO X.prog X.w D0 kvs)) s1.heap.objs.size := fun kvs => I1.fpOk (Nat.le_refl _) (by rw [upd_ne neDI]; exact hIn)
    have fpC : ∀ kvs, FpOk X pins (upd H1 D0 (NDO X.prog X.w D0 kvs)) C := fun kvs => I1.fpOk sC (by rw [upd_ne (fun e => hDC e.symm)]; exact hCn)
    refine ⟨fun i s₁ => ∃ kvs m, Inv X pins σ (upd H1 D0 (NDO X.prog X.w D0 kvs)) s₁ ∧ s₁.heap.Ns C m ∧ kvs.map (·.1) = ds.take i ∧ KeysOk X.K H1 kvs, ?_, ?_, ?_, ?_⟩
    · -- at the start
      refine ⟨[], _, I1.laid (t' := tk3) all3 sD (nd_new (X := X) (Nat.zero_le _) ?_ .nil ?_), hnm, rfl, fun p hp => nomatch hp⟩
      · exact beq_eq_false_iff_ne.mpr (Nat.ne_of_gt (Nat.lt_of_lt_of_le I1.big sD))
      · exact ⟨_, #[], 0, hDobj, ⟨rfl, rfl, rfl⟩, rfl, rfl, (fun _ z => nomatch z), List.nodup_nil⟩
    · -- the iterator turns
      rintro i s₁ h' tk ⟨kvs, m, J, hn, e, ko⟩ kp _
      obtain ⟨f0, f1, f2, f3, f4, f5⟩ := fpI kvs
      exact ⟨kvs, m, J.turned (t' := tk) (fun b o hb q => kp b o (by simpa using hb) q) f0 f1 f3 f4 f5, hn.at' fun o q => kp _ o (by simpa using (fun z => neCI z.symm)) q, e, ko⟩
    · -- one turn
      rintro i v s₁ hi' hv st ⟨kvs, m, J, hn, e, ko⟩
      have hv' : its[i]? = some v := by simpa using hv
      obtain ⟨x0, hx0, rx0⟩ := vals_at rvs hv'
      obtain ⟨d, hd0, dd⟩ := dpAll_at' hd hx0
      have gd := hg d (List.mem_of_getElem? hd0)
      obtain ⟨a, rfl⟩ := gd.ref dd
      obtain rfl : v = Value.ref a := rx0
      refine wpAny_assign_Name (wpAny_storeName_local kx hn (fun h5 n5 s5 => ?_) hp)
      refine wpAny_tests_nil ?_
      show wpAny _ _ _ _ _ _
      obtain ⟨f0, f1, f2, f3, f4, f5⟩ := fpC kvs
      have J5 : Inv X pins σ (upd H1 D0 (NDO X.prog X.w D0 kvs)) { s₁ with heap := h5, toks := s₁.toks + 1 } := J.turned (t' := s₁.toks + 1) (fun b o hb q => (s5.2 b hb).trans q) f0 f1 f3 f4 f5
      rw [eval_Name _ _ _ hdeb]
      refine wpAny_bind (wpAny_standAt (wpAny_loadName_local ok.kind kx n5 (v := .ref a) (if_pos rfl) ?_))
      refine Constant_bool ?_
      have st5 : h5.IsListIter s1.heap.objs.size l (i + 1) ∧ h5.IsList l its.toArray := ⟨st.1.at fun o q => (s5.2 _ neCI).trans q, st.2.at fun o q => (s5.2 _ neCl).trans q⟩
      have sty : Stay H1 (upd H1 D0 (NDO X.prog X.w D0 kvs)) := Stay.new hDn _
      refine nd_put (s := { s₁ with heap := h5, toks := s₁.toks + 1 }) (by omega) J5 upd_same (ko.stay sty) gd (sty.dp _ _ gd.ok dd) (by rw [e]; exact idx_new hnd hd0) ?_ (x := .bl true) rfl fun s' J' kept => ?_
      · have z := congrArg List.length e
        rw [List.length_map, List.length_take] at z
        omega
      · rw [upd_upd] at J'
        refine ⟨⟨_, _, J', n5.at' fun o q => kept _ o (fun z => hDC z.symm) q, ?_, ?_⟩, st5.1.at fun o q => kept _ o neDI q, st5.2.at fun o q => kept _ o neDl q⟩
        · rw [List.map_append, e, take_snoc hd0]
          rfl
        · intro p hp
          rcases List.mem_append.mp hp with hp | hp
          · exact ko p hp
          · rw [List.mem_singleton.mp hp]
            exact ⟨gd, dd⟩
    · -- behind the last
      rintro s₁ ⟨kvs, m, J, hn, e, ko⟩
      have e' : kvs.map (·.1) = ds := by
        rw [e, List.size_toArray, il, List.take_length]
      show wpAny _ X.A (assign (.Name y py) X.env (.ref D0)) _ _ _
      obtain ⟨f0, f1, f2, f3, f4, f5⟩ := fpC kvs
      refine wpAny_assign_Name (store_ok2 (v := V.ref D0) J hN hy (.inl hyl) rfl (fun s2 J2 ⟨a, sb, ha⟩ => ?_) (.inr hyl))
      have haC : C ≠ a := by
        rcases ha with z | z
        · rw [z]
          exact f1
        · exact fun e => f4 y a z e.symm
      exact ⟨m, hn.sameBut sb haC, fun h3' sb3 => ⟨_, _, J2.turned (t' := s2.toks) (fun b o hb q => (sb3.2 b hb).trans q) f0 f1 f3 f4 f5, q D0 kvs hDn e' ko⟩⟩
  refine wpAny_bind (wpAny_mono (comprehension_at (use := some (assign (.Name y py) X.env)) (Q := fun _ s' => SP X pins D .next s') rfl hs (closure_ok hfree) ok.kind (fun z hz e => by rw [ok.uniq z hz, e])
    (wpAny_mono main (fun xv s₁ h₁ => wpAny_mono h₁ (fun it s₂ h₂ => compBlock_dict hcell ok.kind h₂) fun _ _ e => e) fun _ _ e => e)) (fun _ s' hq => wpAny_pure (wpAny_pure hq)) fun _ _ e => e)
end
end Rw
namespace Rw
open PySem PySem.Spec PyProof.Rows L2
/-! ### names, worlds, pairs -/
def letter (c : Nat) : Bool := decide (97 ≤ c) && decide (c ≤ 122)
def notS : Str := ("not" : Str)
def nameB (x : Str) : Bool := x.cps.toList.all letter && decide (1 ≤ x.cps.size) && decide (x.cps.size ≤ 8) && !decide (x = notS)
theorem nameB_iff {x : Str} : nameB x = true ↔ (∀ c ∈ x.cps.toList, letter c = true) ∧ 1 ≤ x.cps.size ∧ x.cps.size ≤ 8 ∧ x ≠ notS := by
  unfold nameB
  simp only [Bool.and_eq_true, List.all_eq_true, decide_eq_true_eq, Bool.not_eq_true', decide_eq_false_iff_not]
  exact ⟨fun ⟨⟨⟨a, b⟩, c⟩, d⟩ => ⟨a, b, c, d⟩, fun ⟨a, b, c, d⟩ => ⟨⟨⟨a, b⟩, c⟩, d⟩⟩
theorem name_strOk {x : Str} (h : nameB x = true) : PyData.strOk x = true := by
  obtain ⟨h1, _⟩ := nameB_iff.mp h
  unfold PyData.strOk
  rw [← Array.all_toList, List.all_eq_true]
  intro c hc
  have := h1 c hc
  unfold letter at this
  simp only [Bool.and_eq_true, decide_eq_true_eq] at this
  exact decide_eq_true (by omega)
abbrev W := List Str
abbrev Pr := W × W
/-- strictly rising -/
abbrev UpX (ns : W) : Prop := ns.Pairwise fun a b => a.cps.toList < b.cps.toList
structure IsW (ns : W) : Prop where
  names : ∀ x ∈ ns, nameB x = true
  up : UpX ns
  few : ns.length ≤ 40
def wd (ns : W) : PyData := .tuple (ns.map .str)
def pd (p : Pr) : PyData := .tuple [wd p.1, wd p.2]
theorem str_inj : ∀ {a b : W}, a.map PyData.str = b.map PyData.str → a = b
  | [], [], _ => rfl
  | [], _ :: _, h => by simp at h
  | _ :: _, [], h => by simp at h
  | x :: a, y :: b, h => by
    simp only [List.map_cons, List.cons.injEq, PyData.str.injEq] at h
    rw [h.1, str_inj h.2]
theorem wd_inj {a b : W} (h : wd a = wd b) : a = b := by
  unfold wd at h
  injection h with h
  exact str_inj h
theorem pd_inj {p q : Pr} (h : pd p = pd q) : p = q := by
  unfold pd at h
  injection h with h
  injection h with h1 h2
  injection h2 with h2 _
  exact Prod.ext (wd_inj h1) (wd_inj h2)
theorem okDs_str : ∀ ns : W, okDs (ns.map .str) = true
  | [] => rfl
  | x :: ns => by
    rw [List.map_cons, okDs, okDs_str ns]
    rfl
theorem depth_str : ∀ ns : W, PyData.depthAll (ns.map .str) = 0
  | [] => by simp [PyData.depthAll]
  | x :: ns => by
    rw [List.map_cons, PyData.depthAll, depth_str ns]
    simp [PyData.depth]
theorem ok_wd (ns : W) : okD (wd ns) = true := by
  unfold wd
  rw [okD]
  exact okDs_str ns
theorem depth_wd (ns : W) : (wd ns).depth = 1 := by
  unfold wd
  rw [PyData.depth, depth_str]
theorem good_wd (ns : W) : Good (wd ns) := ⟨ok_wd ns, by rw [depth_wd]; decide, ⟨_, rfl⟩⟩
theorem ok_pd (p : Pr) : okD (pd p) = true := by
  unfold pd
  rw [okD, okDs, okDs, okDs, ok_wd, ok_wd]
  rfl
theorem depth_pd (p : Pr) : (pd p).depth = 2 := by
  unfold pd
  simp [PyData.depth, PyData.depthAll, depth_wd]
theorem good_pd (p : Pr) : Good (pd p) := ⟨ok_pd p, by rw [depth_pd]; decide, ⟨_, rfl⟩⟩
theorem lay_strs : ∀ {ns : W}, (∀ x ∈ ns, nameB x = true) → PyData.canLayAll0 (ns.map .str) = true
  | [], _ => by simp [PyData.canLayAll0]
  | x :: ns, h => by
    rw [List.map_cons, PyData.canLayAll0, lay_strs fun y hy => h y (List.mem_cons_of_mem _ hy), PyData.canLay0, name_strOk (h x List.mem_cons_self)]
    rfl
theorem lay_wd {ns : W} (h : ∀ x ∈ ns, nameB x = true) : (wd ns).canLay0 = true := by
  unfold wd
  rw [PyData.canLay0]
  exact lay_strs h
theorem shaped_wd {ns : W} (h : IsW ns) : SeqAt.shaped (wd ns) = true := by
  unfold SeqAt.shaped
  rw [lay_wd h.names, depth_wd]
  rfl
theorem lay_pd {p : Pr} (h1 : IsW p.1) (h2 : IsW p.2) : (pd p).canLay0 = true := by
  unfold pd
  rw [PyData.canLay0, PyData.canLayAll0, PyData.canLayAll0, PyData.canLayAll0, lay_wd h1.names, lay_wd h2.names]
  rfl
theorem shaped_pd {p : Pr} (h1 : IsW p.1) (h2 : IsW p.2) : SeqAt.shaped (pd p) = true := by
  unfold SeqAt.shaped
  rw [lay_pd h1 h2, depth_pd]
  rfl
theorem alike_strs : ∀ a b : W, PySem.W.alikeAll (a.map .str) (b.map .str) = true
  | [], _ => by simp [PySem.W.alikeAll]
  | _ :: _, [] => by simp [PySem.W.alikeAll]
  | x :: a, y :: b => by
    rw [List.map_cons, List.map_cons, PySem.W.alikeAll, alike_strs a b]
    simp [PySem.W.alike]
theorem alike_wd (a b : W) : PySem.W.alike (wd a) (wd b) = true := by
  unfold wd
  rw [PySem.W.alike]
  exact alike_strs a b
theorem alike_pd (p q : Pr) : PySem.W.alike (pd p) (pd q) = true := by
  unfold pd
  rw [PySem.W.alike, PySem.W.alikeAll, PySem.W.alikeAll, PySem.W.alikeAll, alike_wd, alike_wd]
  rfl
theorem eqv_strs : ∀ a b : W, PyData.eqvAll (a.map .str) (b.map .str) = decide (a = b)
  | [], [] => by simp [PyData.eqvAll]
  | [], _ :: _ => by simp [PyData.eqvAll]
  | _ :: _, [] => by simp [PyData.eqvAll]
  | x :: a, y :: b => by
    rw [List.map_cons, List.map_cons, PyData.eqvAll, eqv_strs a b, PyData.eqv]
    by_cases h : x = y
    · subst h
      by_cases h2 : a = b <;> simp [h2]
    · simp [h]
theorem eqv_wd (a b : W) : PyData.eqv (wd a) (wd b) = decide (a = b) := by
  unfold wd
  rw [PyData.eqv]
  exact eqv_strs a b
theorem eqv_pd (p q : Pr) : PyData.eqv (pd p) (pd q) = decide (p = q) := by
  unfold pd
  rw [PyData.eqv, PyData.eqvAll, PyData.eqvAll, PyData.eqvAll, eqv_wd, eqv_wd]
  obtain ⟨a, b⟩ := p
  obtain ⟨c, d⟩ := q
  by_cases h1 : a = c
  · by_cases h2 : b = d <;> simp [h1, h2]
  · simp [h1]
/-! ### sorted lists are told by their members -/
theorem toks_ne {d e : PyData} (h : PySem.W.alike d e = true) (he : PyData.eqv d e = false) : PySem.W.keyToks d ≠ PySem.W.keyToks e := fun t => by
  have z := (PySem.W.toks_eqv d e h).2 he [.inl 0] [.inl 1]
  rw [t, PySem.W.lex_pre, lex_irrefl] at z
  exact absurd z (by decide)
theorem lt_or {d e : PyData} (h : PySem.W.alike d e = true) (he : PyData.eqv d e = false) : PySem.W.dataLt d e = true ∨ PySem.W.dataLt e d = true := by
  cases h1 : PySem.W.dataLt d e with
  | true => exact .inl rfl
  | false =>
    cases h2 : PySem.W.dataLt e d with
    | true => exact .inr rfl
    | false => exact absurd (lex_total _ _ h1 h2) (toks_ne h he)
/-- rising and without repetition: told by the members -/
theorem rising_one {α : Type} {enc : α → PyData} (al : ∀ a b, PySem.W.alike (enc a) (enc b) = true) (inj : ∀ a b, PyData.eqv (enc a) (enc b) = true → a = b) :
    ∀ {l m : List α}, Rising (l.map enc) → Rising (m.map enc) → l.Nodup → m.Nodup → (∀ a, a ∈ l ↔ a ∈ m) → l = m
  | [], [], _, _, _, _, _ => rfl
  | [], b :: m, _, _, _, _, h => absurd ((h b).mpr List.mem_cons_self) (List.not_mem_nil)
  | a :: l, [], _, _, _, _, h => absurd ((h a).mp List.mem_cons_self) (List.not_mem_nil)
  | a :: l, b :: m, r1, r2, n1, n2, h => by
    have le_of : ∀ {x y : α} {k : List α}, Rising ((x :: k).map enc) → y ∈ x :: k → y = x ∨ PySem.W.dataLt (enc y) (enc x) = false := by
      intro x y k r hy
      rcases List.mem_cons.mp hy with e | hy
      · exact .inl e
      · right
        have z := (List.pairwise_cons.mp r).1 (enc y) (List.mem_map.mpr ⟨y, hy, rfl⟩)
        have z' : (!PySem.W.dataLt (enc y) (enc x)) = true := z
        simpa using z'
    have e : a = b := by
      have h1 := le_of r1 ((h b).mpr List.mem_cons_self)
      have h2 := le_of r2 ((h a).mp List.mem_cons_self)
      rcases h1 with e | h1
      · exact e.symm
      · rcases h2 with e | h2
        · exact e
        · cases ev : PyData.eqv (enc a) (enc b) with
          | true => exact inj a b ev
          | false =>
            rcases lt_or (al a b) ev with z | z
            · rw [h2] at z
              exact nomatch z
            · rw [h1] at z
              exact nomatch z
    subst e
    obtain ⟨a1, a2⟩ := List.nodup_cons.mp n1
    obtain ⟨b1, b2⟩ := List.nodup_cons.mp n2
    rw [rising_one al inj (List.pairwise_cons.mp r1).2 (List.pairwise_cons.mp r2).2 a2 b2 fun x => ?_]
    constructor
    · intro hx
      rcases List.mem_cons.mp ((h x).mp (List.mem_cons_of_mem _ hx)) with e | z
      · rw [e] at hx
        exact absurd hx a1
      · exact z
    · intro hx
      rcases List.mem_cons.mp ((h x).mpr (List.mem_cons_of_mem _ hx)) with e | z
      · rw [e] at hx
        exact absurd hx b1
      · exact z
theorem pairs_one {R R' : List Pr} (r1 : Rising (R.map pd)) (r2 : Rising (R'.map pd)) (n1 : R.Nodup) (n2 : R'.Nodup) (h : ∀ p, p ∈ R ↔ p ∈ R') : R = R' :=
  rising_one alike_pd (fun p q e => by rw [eqv_pd] at e; exact of_decide_eq_true e) r1 r2 n1 n2 h
theorem worlds_one {R R' : List W} (r1 : Rising (R.map wd)) (r2 : Rising (R'.map wd)) (n1 : R.Nodup) (n2 : R'.Nodup) (h : ∀ p, p ∈ R ↔ p ∈ R') : R = R' :=
  rising_one alike_wd (fun p q e => by rw [eqv_wd] at e; exact of_decide_eq_true e) r1 r2 n1 n2 h
/-- texts: likewise -/
theorem upX_one : ∀ {l m : W}, UpX l → UpX m → (∀ a, a ∈ l ↔ a ∈ m) → l = m
  | [], [], _, _, _ => rfl
  | [], b :: m, _, _, h => absurd ((h b).mpr List.mem_cons_self) (List.not_mem_nil)
  | a :: l, [], _, _, h => absurd ((h a).mp List.mem_cons_self) (List.not_mem_nil)
  | a :: l, b :: m, r1, r2, h => by
    obtain ⟨p1, q1⟩ := List.pairwise_cons.mp r1
    obtain ⟨p2, q2⟩ := List.pairwise_cons.mp r2
    have e : a = b := by
      rcases List.mem_cons.mp ((h a).mp List.mem_cons_self) with e | z
      · exact e
      · rcases List.mem_cons.mp ((h b).mpr List.mem_cons_self) with e | z'
        · exact e.symm
        · exact absurd (p1 b z') (List.lt_asymm (p2 a z))
    subst e
    have na : ∀ {k : W}, (∀ x ∈ k, a.cps.toList < x.cps.toList) → a ∉ k := fun h hm => List.lt_irrefl _ (h a hm)
    rw [upX_one q1 q2 fun x => ?_]
    constructor
    · intro hx
      rcases List.mem_cons.mp ((h x).mp (List.mem_cons_of_mem _ hx)) with e | z
      · rw [e] at hx
        exact absurd hx (na p1)
      · exact z
    · intro hx
      rcases List.mem_cons.mp ((h x).mpr (List.mem_cons_of_mem _ hx)) with e | z
      · rw [e] at hx
        exact absurd hx (na p2)
      · exact z
/-- ≤ and without repetition: strictly rising -/
theorem upX_of {zs : W} (h : RisingX zs) (n : zs.Nodup) : UpX zs := by
  induction zs with
  | nil => exact List.Pairwise.nil
  | cons x zs ih =>
    obtain ⟨p, q⟩ := List.pairwise_cons.mp h
    obtain ⟨n1, n2⟩ := List.nodup_cons.mp n
    refine List.pairwise_cons.mpr ⟨fun y hy => ?_, ih q n2⟩
    have le := of_decide_eq_true (p y hy)
    refine Classical.byContradiction fun c => ?_
    have ge : y.cps.toList ≤ x.cps.toList := List.not_lt.mp c
    have e : x.cps.toList = y.cps.toList := List.le_antisymm le ge
    exact n1 ((PySem.W.str_of_cps e) ▸ hy)
theorem upX_nodup {zs : W} (h : UpX zs) : zs.Nodup := List.Pairwise.imp (fun {a b} h e => by subst e; exact List.lt_irrefl _ h) h
end Rw
namespace Rw
open PySem PySem.Spec PyProof.Rows L2
theorem in_letters {c : Nat} (h : letter c = true) : c ∈ lettersS.cps.toList := by
  have all : ((List.range 123).all fun c => !letter c || decide (c ∈ lettersS.cps.toList)) = true := by decide +kernel
  have z := h
  unfold letter at z
  simp only [Bool.and_eq_true, decide_eq_true_eq] at z
  have q := List.all_eq_true.mp all c (List.mem_range.mpr (by omega))
  rw [h] at q
  simpa using q
/-- a comprehension over a text's signs -/
theorem lc_sgn {x : Str} {g : TG} {tt : TT} {te : TE} {vs : List Nat} {σ : L2.St} {H1 : Hp} {D : Addr} {Qd : Hp → Prop} (Pv : Nat → Hp → Prop) (h0 : Pv 0 (upd H1 D (.lst [])))
    (hs : ∀ i c H, x.cps[i]? = some c → Pv i H → g (.str ⟨#[c]⟩) (wipe σ vs) H fun σ2 H2 => wipe σ2 vs = wipe σ vs ∧ tt σ2 H2 fun b H3 =>
      if b = true then te σ2 H3 fun y H4 => ∃ acc, H4 D = some (.lst acc) ∧ acc.length < sizeLine ∧ Pv (i + 1) (upd H4 D (.lst (acc ++ [y]))) else Pv (i + 1) H3) (hd : ∀ H, Pv x.cps.size H → Qd H) :
    ∃ W : Nat → Nat → Hp → Prop, (∃ m, W 0 m (upd H1 D (.lst []))) ∧ ∀ i m H, W i m H →
      ((Its x).stop i H ∧ Qd H) ∨ ((Its x).go i H ∧ ∃ Nx : Hp → Prop, (∀ H', Nx H' → ∃ m', m' < m ∧ W (i + 1) m' H') ∧ ∀ y H', (Its x).yld i H y H' → g y (wipe σ vs) H' fun σ2 H2 => wipe σ2 vs = wipe σ vs ∧ tt σ2 H2 fun b H3 =>
        if b = true then te σ2 H3 fun y H4 => ∃ acc, H4 D = some (.lst acc) ∧ acc.length < sizeLine ∧ Nx (upd H4 D (.lst (acc ++ [y]))) else Nx H3) := by
  refine ⟨fun i m H => m = x.cps.size - i ∧ i ≤ x.cps.size ∧ Pv i H, ⟨x.cps.size, by simp, Nat.zero_le _, h0⟩, ?_⟩
  rintro i m H ⟨rfl, hi, p⟩
  by_cases hlt : i < x.cps.size
  · refine .inr ⟨hlt, Pv (i + 1), fun H' p' => ⟨x.cps.size - (i + 1), by omega, rfl, hlt, p'⟩, fun y H' yy => ?_⟩
    obtain ⟨rfl, c, hc, rfl⟩ := yy
    exact hs i c _ hc p
  · have e : i = x.cps.size := by omega
    subst e
    exact .inl ⟨Nat.le_refl _, hd H p⟩
theorem small_line {n : Nat} (h : n ≤ 10000) : n ≤ sizeLine := by
  rw [sizeLine_eq]
  omega
theorem small_line' {n : Nat} (h : n ≤ 10000) : n < sizeLine := by
  rw [sizeLine_eq]
  omega
theorem map_at {α β : Type} {l : List α} {f : α → β} {i : Nat} {y : β} (h : (l.map f)[i]? = some y) : ∃ x, l[i]? = some x ∧ y = f x := by
  rw [List.getElem?_map] at h
  cases e : l[i]? with
  | none => rw [e] at h; simp at h
  | some x =>
    rw [e] at h
    exact ⟨x, rfl, (Option.some.inj h).symm⟩
theorem same_put {H H1 : Hp} {D : Addr} {o : HO} (sm : Same H H1) (hD : H D = none) : Same H (upd H1 D o) := fun b u e => by
  rw [upd_ne (ne_of_none e hD)]
  exact sm b u e
theorem dps_str {K : PySem.W.Frag} {H : Hp} : ∀ {ns : W} {xs : List V}, DpAll K H xs (ns.map .str) → xs = ns.map V.str
  | [], _, h => by cases h; rfl
  | x :: ns, _, h => by
    cases h with
    | cons h1 h2 =>
      cases h1
      rw [dps_str h2]
      rfl
theorem dps_strs {K : PySem.W.Frag} {H : Hp} : ∀ ns : W, DpAll K H (ns.map V.str) (ns.map .str)
  | [] => .nil
  | x :: ns => .cons (.str x) (dps_strs ns)
theorem of_wd {K : PySem.W.Frag} {H : Hp} {x : V} {ns : W} (h : Dp K H x (wd ns)) : ∃ a, x = .ref a ∧ SqT K H a (ns.map V.str) := by
  unfold wd at h
  cases h with
  | tup h1 h2 =>
    rw [dps_str h2] at h1
    exact ⟨_, rfl, h1⟩
theorem to_wd {K : PySem.W.Frag} {H : Hp} {a : Addr} {ns : W} (h : SqT K H a (ns.map V.str)) : Dp K H (.ref a) (wd ns) := .tup h (dps_strs ns)
theorem Stay.wd {K : PySem.W.Frag} {H H' : Hp} {x : V} {ns : W} (e : Stay H H') (h : Dp K H x (Rw.wd ns)) : Dp K H' x (Rw.wd ns) := e.dp _ _ (ok_wd ns) h
theorem tyx_tup {K : PySem.W.Frag} {H : Hp} {a : Addr} {xs : List V} (h : SqT K H a xs) : TyX K H (.ref a) (.type "tuple") := by
  rcases h with (h | ⟨o, h⟩) | ⟨o, its, n, h1, h2, _⟩
  · exact .base (.tup h)
  · exact .fTuple h
  · exact .kTuple h1 h2
/-- all of ms are in ns -/
def sub (ms ns : W) : Bool := ms.all fun z => decide (z ∈ ns)
theorem inV_str (z : Str) : ∀ ns : W, inV (.str z) (ns.map V.str) = decide (z ∈ ns)
  | [] => by simp [inV]
  | x :: ns => by
    have ih := inV_str z ns
    unfold inV at ih ⊢
    rw [List.map_cons, List.any_cons, ih]
    show ((x == z) || decide (z ∈ ns)) = decide (z ∈ x :: ns)
    by_cases h : x = z
    · subst h
      simp
    · have h' : z ≠ x := fun e => h e.symm
      simp [h, h']
theorem flat_strs (ns : W) : (ns.map V.str).all flatV = true := by
  rw [List.all_map, List.all_eq_true]
  exact fun _ _ => rfl
/-- the first that is told -/
theorem first_at {α β : Type} {f : α → Option β} {y : β} : ∀ {l : List α} {i : Nat} {p : α}, (∀ q ∈ l.take i, f q = none) → l[i]? = some p → f p = some y → l.findSome? f = some y
  | [], _, _, _, h, _ => by simp at h
  | a :: l, 0, p, _, h, e => by
    simp at h
    subst h
    rw [List.findSome?_cons, e]
  | a :: l, i + 1, p, h0, h, e => by
    rw [List.findSome?_cons, h0 a (by simp)]
    exact first_at (i := i) (fun q hq => h0 q (by rw [List.take_succ_cons]; exact List.mem_cons_of_mem _ hq)) (by simpa using h) e
theorem first_none {α β : Type} {f : α → Option β} {l : List α} (h : ∀ q ∈ l, f q = none) : l.findSome? f = none := List.findSome?_eq_none_iff.mpr h
theorem none_snoc {α β : Type} {f : α → Option β} {l : List α} {i : Nat} {p : α} (h0 : ∀ q ∈ l.take i, f q = none) (h : l[i]? = some p) (e : f p = none) : ∀ q ∈ l.take (i + 1), f q = none := fun q hq => by
  rw [take_snoc h] at hq
  rcases List.mem_append.mp hq with hq | hq
  · exact h0 q hq
  · rw [List.mem_singleton.mp hq]
    exact e
theorem filt_t {α : Type} {p : α → Bool} {l : List α} {i : Nat} {z : α} (hz : l[i]? = some z) (e : p z = true) : (l.take (i + 1)).filter p = (l.take i).filter p ++ [z] := by
  rw [take_snoc hz, List.filter_append]
  simp [e]
theorem filt_f {α : Type} {p : α → Bool} {l : List α} {i : Nat} {z : α} (hz : l[i]? = some z) (e : p z = false) : (l.take (i + 1)).filter p = (l.take i).filter p := by
  rw [take_snoc hz, List.filter_append]
  simp [e]
theorem okDs_wd (L : List W) : okDs (L.map wd) = true := okDs_all fun d hd => by
  obtain ⟨q, _, rfl⟩ := List.mem_map.mp hd
  exact ok_wd q
theorem none_back {H0 H : Hp} (h : Same H0 H) {o : Addr} (n : H o = none) : H0 o = none := by
  cases e : H0 o with
  | none => rfl
  | some u =>
    rw [h _ _ e] at n
    cases n
theorem map_inj_nodup {α β : Type} {f : α → β} : ∀ {l : List α}, (l.map f).Nodup → ∀ a ∈ l, ∀ b ∈ l, f a = f b → a = b
  | [], _, a, h, _, _, _ => nomatch h
  | x :: l, hn, a, ha, b, hb, e => by
    rw [List.map_cons] at hn
    obtain ⟨h1, h2⟩ := List.nodup_cons.mp hn
    rcases List.mem_cons.mp ha with ea | ha
    · rcases List.mem_cons.mp hb with eb | hb
      · rw [ea, eb]
      · exact absurd (List.mem_map.mpr ⟨b, hb, by rw [← e, ea]⟩) h1
    · rcases List.mem_cons.mp hb with eb | hb
      · exact absurd (List.mem_map.mpr ⟨a, ha, by rw [e, eb]⟩) h1
      · exact map_inj_nodup h2 a ha b hb e
theorem sw_trueD {key val : Expr} {gs : List Comprehension} {scope : Scope} {pos py : Pos} {y : Str} {l : Nat} {env : Env} (hk : env.scope.kind = .function) (hy : env.scope.names.lookup y = some .local) (hl : (py.line == pos.line) = true)
    (ha : (scope.names.any fun (n, k) => n == y && (k == .local || k == .cell)) = false) : swapsWith (.DictComp key val gs scope pos) (some (.Name y py)) l env = pure true :=
  (show swapsWith (.DictComp key val gs scope pos) (some (.Name y py)) l env = swapsWith (.ListComp key gs scope pos) (some (.Name y py)) l env from rfl).trans (sw_true hk hy hl ha)
theorem op_powB {X : Cx} : OpR X (binaryOp .Pow) (rI (fun i j => 0 ≤ j ∧ (Builtin.Int.intBits i : Int) * j ≤ 2 ^ 27) fun i j => .int (i ^ j.toNat)) := opI fun _ _ _ _ _ _ _ hc q => pow_int hc.1 hc.2 q
theorem b64 {i : Int} (h0 : 0 ≤ i) (h1 : i < 2147483647) : -(2 ^ 64) < i ∧ i < 2 ^ 64 := ⟨by omega, by omega⟩
/-- a purse: three numbers -/
def Pur (H : Hp) (p : Addr) (c : Int) : Prop := ∃ a b e : Int, H p = some (.lst [.int a, .int b, .int e]) ∧ 0 ≤ a ∧ 0 ≤ b ∧ b < 2147483647 ∧ 0 ≤ e ∧ e ≤ c
def subsR : W → List W
  | [] => [[]]
  | x :: r => subsR r ++ (subsR r).map fun t => t ++ [x]
def subs (ns : W) : List W := subsR ns.reverse
theorem mem_subsR : ∀ {r t : W}, t ∈ subsR r ↔ t.Sublist r.reverse
  | [], t => by
    rw [subsR, List.mem_singleton, List.reverse_nil, List.sublist_nil]
  | x :: r, t => by
    rw [subsR, List.mem_append, List.mem_map, List.reverse_cons, List.sublist_append_iff]
    constructor
    · rintro (h | ⟨s, hs, rfl⟩)
      · exact ⟨t, [], by simp, mem_subsR.mp h, by simp⟩
      · exact ⟨s, [x], rfl, mem_subsR.mp hs, List.Sublist.refl _⟩
    · rintro ⟨a, b, rfl, ha, hb⟩
      cases hb with
      | cons _ h =>
        left
        rw [List.sublist_nil.mp h, List.append_nil]
        exact mem_subsR.mpr ha
      | cons_cons _ h =>
        right
        exact ⟨a, mem_subsR.mpr ha, by rw [List.sublist_nil.mp h]⟩
theorem mem_subs {ns t : W} : t ∈ subs ns ↔ t.Sublist ns := by
  unfold subs
  rw [mem_subsR, List.reverse_reverse]
theorem subsR_nodup : ∀ {r : W}, r.Nodup → (subsR r).Nodup
  | [], _ => by simp [subsR]
  | x :: r, h => by
    obtain ⟨h1, h2⟩ := List.nodup_cons.mp h
    have ih := subsR_nodup h2
    rw [subsR]
    refine List.nodup_append.mpr ⟨ih, ?_, fun a ha b hb e => ?_⟩
    · exact List.Pairwise.map _ (fun a b (hab : a ≠ b) (e : a ++ [x] = b ++ [x]) => hab (List.append_cancel_right e)) ih
    · subst e
      obtain ⟨s, hs, rfl⟩ := List.mem_map.mp hb
      have z := (mem_subsR.mp ha).subset (List.mem_append_right s (List.mem_singleton.mpr rfl))
      exact h1 (List.mem_reverse.mp z)
theorem subs_nodup {ns : W} (h : ns.Nodup) : (subs ns).Nodup := subsR_nodup (List.pairwise_reverse.mpr (h.imp fun hne e => hne e.symm))
theorem subsR_len : ∀ r : W, (subsR r).length = 2 ^ r.length
  | [] => rfl
  | x :: r => by
    rw [subsR, List.length_append, List.length_map, subsR_len r, List.length_cons, Nat.pow_succ]
    omega
theorem subs_len (ns : W) : (subs ns).length = 2 ^ ns.length := by
  unfold subs
  rw [subsR_len, List.length_reverse]
theorem subs_snoc (ns : W) (x : Str) : subs (ns ++ [x]) = subs ns ++ (subs ns).map fun t => t ++ [x] := by
  unfold subs
  rw [List.reverse_append, List.reverse_singleton]
  rfl
theorem sub_mem {a b : W} (h : sub a b = true) : ∀ x ∈ a, x ∈ b := fun x hx => by
  unfold sub at h
  exact of_decide_eq_true (List.all_eq_true.mp h x hx)
theorem sub_of {a b : W} (h : ∀ x ∈ a, x ∈ b) : sub a b = true := by
  unfold sub
  exact List.all_eq_true.mpr fun x hx => decide_eq_true (h x hx)
/-- the parts of a world are the worlds within it -/
theorem parts_iff {ns t : W} (h : IsW ns) : t ∈ subs ns ↔ IsW t ∧ sub t ns = true := by
  rw [mem_subs]
  constructor
  · intro s
    exact ⟨⟨fun x hx => h.names x (s.subset hx), h.up.sublist s, Nat.le_trans s.length_le h.few⟩, sub_of fun x hx => s.subset hx⟩
  · rintro ⟨hw, hs⟩
    have e : ns.filter (fun x => decide (x ∈ t)) = t := upX_one (h.up.sublist List.filter_sublist) hw.up fun a => by
      rw [List.mem_filter, decide_eq_true_iff]
      exact ⟨fun z => z.2, fun z => ⟨sub_mem hs a z, z⟩⟩
    rw [← e]
    exact List.filter_sublist
/-- the list of worlds at l -/
def WL (K : PySem.W.Frag) (H : Hp) (l : Addr) (S : List W) : Prop := ∃ ys, H l = some (.lst ys) ∧ DpAll K H ys (S.map wd)
theorem WL.same {K : PySem.W.Frag} {H H' : Hp} {l : Addr} {R : List W} (h : WL K H l R) (e : Same H H') : WL K H' l R := by
  obtain ⟨xs, h1, h2⟩ := h
  exact ⟨xs, e _ _ h1, (Stay.same e).dpAll _ _ (okDs_wd R) h2⟩
theorem all_wd : ∀ {ds : List PyData}, (∀ d ∈ ds, ∃ p, d = wd p) → ∃ R : List W, ds = R.map wd
  | [], _ => ⟨[], rfl⟩
  | d :: ds, h => by
    obtain ⟨p, rfl⟩ := h d List.mem_cons_self
    obtain ⟨R, rfl⟩ := all_wd fun e he => h e (List.mem_cons_of_mem _ he)
    exact ⟨p :: R, rfl⟩
theorem perm_of_map {α β : Type} {f : α → β} (inj : ∀ a b, f a = f b → a = b) : ∀ {l m : List α}, (l.map f).Perm (m.map f) → l.Perm m := by
  intro l m h
  classical
  refine List.perm_iff_count.mpr fun a => ?_
  have z := List.perm_iff_count.mp h (f a)
  have c : ∀ k : List α, List.count (f a) (k.map f) = List.count a k := fun k => by
    induction k with
    | nil => rfl
    | cons x k ih =>
      rw [List.map_cons, List.count_cons, List.count_cons, ih]
      by_cases e : x = a
      · subst e
        simp
      · have e' : f x ≠ f a := fun z => e (inj _ _ z)
        simp [e, e']
  rw [c, c] at z
  exact z
theorem shaped_strs {ns : W} (h : ∀ x ∈ ns, nameB x = true) : SeqAt.shaped (.list (ns.map .str)) = true := by
  unfold SeqAt.shaped
  rw [PyData.canLay0, lay_strs h, PyData.depth, depth_str]
  rfl
theorem first_map {α β γ : Type} {f : β → Option γ} {g : α → β} : ∀ {l : List α}, (l.map g).findSome? f = l.findSome? fun a => f (g a)
  | [] => rfl
  | a :: l => by
    rw [List.map_cons, List.findSome?_cons, List.findSome?_cons, first_map (l := l)]
theorem first_filter {α γ : Type} {f : α → Option γ} {p : α → Bool} : ∀ {l : List α}, (l.filter p).findSome? f = l.findSome? fun a => if p a = true then f a else none
  | [] => rfl
  | a :: l => by
    rw [List.findSome?_cons, ← first_filter (l := l)]
    by_cases h : p a = true
    · rw [List.filter_cons_of_pos h, List.findSome?_cons, if_pos h]
    · rw [List.filter_cons_of_neg h, if_neg h]
theorem first_congr {α γ : Type} {f g : α → Option γ} {l : List α} (h : ∀ a ∈ l, f a = g a) : l.findSome? f = l.findSome? g := by
  induction l with
  | nil => rfl
  | cons a l ih =>
    rw [List.findSome?_cons, List.findSome?_cons, h a List.mem_cons_self, ih fun b hb => h b (List.mem_cons_of_mem _ hb)]
theorem sub_self (t : W) : sub t t = true := sub_of fun _ h => h
theorem sub_trans {a b c : W} (h : sub a b = true) (h2 : sub b c = true) : sub a c = true := sub_of fun x hx => sub_mem h2 x (sub_mem h x hx)
theorem room65 {k : Nat} {A : Around} (hr : Room k A) : A.units + 65 < cLine := by
  have := hr.un
  omega
theorem len_le {α : Type} [DecidableEq α] : ∀ {l m : List α}, l.Nodup → (∀ z ∈ l, z ∈ m) → l.length ≤ m.length
  | [], _, _, _ => Nat.zero_le _
  | x :: l, m, hn, hs => by
    obtain ⟨h1, h2⟩ := List.nodup_cons.mp hn
    have hx : x ∈ m := hs x List.mem_cons_self
    have ih := len_le (l := l) (m := m.erase x) h2 fun y hy => (List.mem_erase_of_ne (show y ≠ x from fun e => h1 (by rw [← e]; exact hy))).2 (hs y (List.mem_cons_of_mem _ hy))
    rw [List.length_erase_of_mem hx] at ih
    have := List.length_pos_of_mem hx
    rw [List.length_cons]
    omega
theorem prod_len {α β : Type} (m : List β) : ∀ l : List α, (l.flatMap fun a => m.map fun b => (a, b)).length = l.length * m.length
  | [] => by simp
  | a :: l => by
    rw [List.flatMap_cons, List.length_append, prod_len m l, List.length_map, List.length_cons, Nat.succ_mul]
    omega
theorem prod_mem {α β : Type} {l : List α} {m : List β} {a : α} {b : β} (ha : a ∈ l) (hb : b ∈ m) : (a, b) ∈ l.flatMap fun a => m.map fun b => (a, b) :=
  List.mem_flatMap.mpr ⟨a, ha, List.mem_map.mpr ⟨b, hb, rfl⟩⟩
def meet (ns ms : W) : W := ns.filter fun z => decide (z ∈ ms)
theorem isW_meet {a b : W} (h : IsW a) : IsW (meet a b) := ⟨fun x hx => h.names x (List.mem_filter.mp hx).1, h.up.sublist List.filter_sublist, Nat.le_trans (List.length_filter_le _ _) h.few⟩
theorem nodup_snoc {α : Type} {L : List α} {p : α} (n : L.Nodup) (h : p ∉ L) : (L ++ [p]).Nodup := List.nodup_append.mpr ⟨n, by simp, fun a ha b hb e => by
  rw [List.mem_singleton] at hb
  subst hb
  exact h (e ▸ ha)⟩
def Bar (p : Addr) (H H' : Hp) : Prop := ∀ b u, b ≠ p → H b = some u → H' b = some u
theorem Bar.same {p : Addr} {H H' : Hp} (h : Same H H') : Bar p H H' := fun b u _ e => h b u e
theorem Bar.trans {p : Addr} {H H1 H2 : Hp} (a : Bar p H H1) (b : Bar p H1 H2) : Bar p H H2 := fun c u n e => b c u n (a c u n e)
theorem Bar.draw {p : Addr} {H : Hp} {o : HO} : Bar p H (upd H p o) := fun b u n e => by
  rw [upd_ne n]
  exact e
theorem Bar.put {p l : Addr} {H H' : Hp} (h : Bar p H H') (n : H l = none) {o : HO} : Bar p H (upd H' l o) := fun b u nb e => by
  rw [upd_ne (ne_of_none e n)]
  exact h b u nb e
theorem Pur.mut {H : Hp} {p : Addr} {c : Int} (h : Pur H p c) : Mut (H p) := by
  obtain ⟨a, b, e, h, _⟩ := h
  rw [h]
  exact True.intro
theorem Pur.some {H : Hp} {p : Addr} {c : Int} (h : Pur H p c) {q : Addr} (n : H q = none) : q ≠ p := fun e => by
  obtain ⟨a, b, e', h, _⟩ := h
  rw [e, h] at n
  cases n
theorem Pur.same {H H' : Hp} {p : Addr} {c : Int} (h : Pur H p c) (e : Same H H') : Pur H' p c := by
  obtain ⟨a, b, e', h, g⟩ := h
  exact ⟨a, b, e', e _ _ h, g⟩
theorem Pur.put {H : Hp} {p l : Addr} {c : Int} (h : Pur H p c) (n : l ≠ p) {o : HO} : Pur (upd H l o) p c := by
  obtain ⟨a, b, e', h, g⟩ := h
  refine ⟨a, b, e', ?_, g⟩
  rw [upd_ne n.symm]
  exact h
theorem Pur.le {H : Hp} {p : Addr} {c d : Int} (h : Pur H p c) (l : c ≤ d) : Pur H p d := by
  obtain ⟨a, b, e', h, g1, g2, g3, g4, g5⟩ := h
  exact ⟨a, b, e', h, g1, g2, g3, g4, Int.le_trans g5 l⟩
theorem Bar.stay {p : Addr} {H H' : Hp} (h : Bar p H H') (m : Mut (H p)) : Stay H H' := fun b xs r => by
  have ne : b ≠ p := fun z => by
    subst z
    rcases r with r | ⟨u, r⟩
    · rw [r] at m; exact m
    · rw [r] at m; exact m
  rcases r with r | ⟨o, r⟩
  · exact .inl (h _ _ ne r)
  · exact .inr ⟨o, h _ _ ne r⟩
theorem idx_new' {α : Type} {ds : List α} (hn : ds.Nodup) {i : Nat} {d : α} (h : ds[i]? = some d) : d ∉ ds.take i := fun hm => by
  have z := take_snoc h
  have nd : (ds.take (i + 1)).Nodup := List.Nodup.sublist (List.take_sublist _ _) hn
  rw [z] at nd
  obtain ⟨_, _, h3⟩ := List.nodup_append.mp nd
  exact h3 d hm d (List.mem_singleton.mpr rfl) rfl
theorem evalArgs_kw0 {M : Model} {A : Around} {E : Value → Shared → Prop} {s : Shared} {f : Value} {kwl : List (Option Str × Sem Value)} {Q : Args → Shared → Prop} (hall : (kwl.all fun x => x.1.isSome) = true)
    (h : wpAny M A (evalAll (kwl.map fun x => x.2)) (fun ks s₂ => Q { pos := [], kw := (kwl.filterMap fun x => x.1).zip ks } s₂) E s) : wpAny M A (evalArgs f true [] kwl) Q E s := by
  unfold evalArgs
  refine wpAny_bind (Calls.spliced_nil ?_)
  refine wpAny_bind (wpAny_pure ?_)
  refine wpAny_holding ?_
  rw [if_pos hall]
  refine wpAny_bind (wpAny_mono h (fun ks s2 q => ?_) fun _ _ e => e)
  exact wpAny_bind (wpAny_pure (wpAny_pure q))
theorem pe_callK0 {X : Cx} {CX : CXT} {k : Nat} {f : Addr} {fd : FuncData} {ps ks : List Str} {sp : Sp} {E : XK} {x : Str} {p pos : Pos} {kws : List Keyword} {tk : TA} {g : List Value → List Value → List Value} {gV : List V → List V → List V}
    (F : FnOk X.prog X.w X.K X.mg X.base CX k f fd ps sp) (hr : Room k X.A) (hg : Gl X x) (hm : X.mg x = some (.ref f)) (hk : PySem.W.keepIn X.K (.ref f) = true) (hb : KBn X.K fd ps 0 ks g gV) (hx : Passes CX X E) (hkw : PK X kws tk)
    (hall : ((backToKw pos (keywordEach kws X.env)).all fun x => x.1.isSome) = true) (hks : (backToKw pos (keywordEach kws X.env)).filterMap (fun x => x.1) = ks) (hdb : (x == ("__debug__" : Str)) = false)
    (hpl : ((([] : List (Bool × Sem Value)).any fun x => x.1) || (backToKw pos (keywordEach kws X.env)).any fun x => x.1.isNone) = false) (hst : backTo pos (starEach [] X.env) = []) :
    PE X (.Call (.Name x p) [] kws pos) (fun σ H Q => tk σ H fun zs H1 => zs.length = ks.length ∧ sp (gV [] zs) H1 Q E) := by
  refine ⟨fun pins s σ H Q I h => wpAny_Call_Name_kw (ld_glob I hg hm ?_ hdb)⟩
  rw [hst]
  refine PySem.W.callWith_of hpl (PySem.W.keeps_K hk) (evalArgs_kw0 hall (thn (hkw.run pos pins s σ H (fun zs H1 => zs.length = ks.length ∧ sp (gV [] zs) H1 Q E) I h) fun ws s2 ⟨zs, H2, I2, rz, l2, q2⟩ => ⟨Inv.kIn I2, ?_⟩))
  rw [hks]
  exact run_fnN F hr hb hx I2 .nil rz rfl l2 q2
def tMid (t u : TS) : TS := fun D σ H => ∃ I : L2.St → Hp → Prop, t { nx := I, rt := D.rt, bk := D.bk, ct := D.ct } σ H ∧ ∀ σ' H', I σ' H' → u D σ' H'
/-- the first statement up to a mark of one's own, then the rest from it -/
theorem pss_mid {X : Cx} {st : Stmt} {rest : List Stmt} {t u : TS} (h1 : PS X st t) (h2 : PSs X rest u) : PSs X (st :: rest) (tMid t u) := by
  refine ⟨fun pins s σ H D I ⟨J, a, b⟩ => ?_⟩
  refine wpAny_execs_cons (thn (h1.run pins s σ H _ I a) fun f s1 q => ?_)
  cases f with
  | next =>
    obtain ⟨σ', H', I', q⟩ := q
    exact h2.run pins s1 σ' H' D I' (b σ' H' q)
  | brk => exact q
  | cont => exact q
  | ret v => exact q
/-- a def with defaults, called by names -/
theorem kbn_def {K : PySem.W.Frag} {x qual : Str} {params : Arguments} {body : List Stmt} {scope : Scope} {dvs : List V} {kws : List (Str × V)} {f : Addr} {fd : FuncData} {ps : List Str} (F : FunD K x qual params body scope dvs kws f fd) (hd : dvs ≠ []) (n : Nat) (ks : List Str) (g : List Value → List Value → List Value → List Value) (gV : List V → List V → List V)
    (h : ∀ (T : Addr) (kV doc pm : Value) (an : Option Addr) (cdv ct : Value) (us its ws : List Value), us.length = n → its.length = dvs.length → ws.length = ks.length → ∃ k, bindArgs (PySem.W.fnOf x qual params body scope (.ref T) kV doc pm an cdv ct) { pos := us, kw := ks.zip ws } = seqItems? (.ref T) >>= k ∧ k (some its.toArray) = pure (ps.zip (g us its ws)))
    (rel : ∀ {vs : List V} {us its : List Value} {zs : List V} {ws : List Value}, Vals vs us → Vals dvs its → Vals zs ws → Vals (gV vs zs) (g us its ws)) : ∃ its, Vals dvs its ∧ KBn K fd ps n ks (fun us ws => g us its ws) gV := by
  obtain ⟨oc, od, dV, kV, doc, pm, an, cdv, ct, osl, rfl, lk, hcd, hD, hK⟩ := F.ex
  rcases hD with ⟨e, _⟩ | ⟨_, T, o, its, m, rfl, lT, oT, rT⟩
  · exact absurd e hd
  · refine ⟨its, rT, ⟨fun s us ws X l1 l2 => ?_, fun a b => rel a rT b⟩⟩
    intro M A E Q q
    obtain ⟨k, e1, e2⟩ := h T kV doc pm an cdv ct us its ws l1 rT.length.symm l2
    rw [e1]
    refine wpAny_bind (wpAny_seqItems (X T o lT) oT ?_)
    rw [e2]
    exact wpAny_pure q
theorem shaped_of {d : PyData} (h : d.canLay0 = true) (n : d.depth ≤ 64) : SeqAt.shaped d = true := by
  unfold SeqAt.shaped
  rw [h, decide_eq_true n]
  rfl
theorem eqv_self {d : PyData} (h : SeqAt.shaped d = true) : PyData.eqv d d = true := by
  unfold SeqAt.shaped at h
  rw [Bool.and_eq_true] at h
  exact SeqAt.eqv_refl d h.1
theorem dpAll_drop {K : PySem.W.Frag} {H : Hp} : ∀ {xs : List V} {ds : List PyData} (n : Nat), DpAll K H xs ds → DpAll K H (xs.drop n) (ds.drop n)
  | _, _, 0, h => h
  | _, _, _ + 1, .nil => .nil
  | _, _, n + 1, .cons _ t => dpAll_drop n t
theorem dpAll_take {K : PySem.W.Frag} {H : Hp} : ∀ {xs : List V} {ds : List PyData} (n : Nat), DpAll K H xs ds → DpAll K H (xs.take n) (ds.take n)
  | _, _, 0, _ => by
    rw [List.take_zero, List.take_zero]
    exact .nil
  | _, _, _ + 1, .nil => .nil
  | _, _, n + 1, .cons h t => .cons h (dpAll_take n t)
theorem dpAll_rev {K : PySem.W.Frag} {H : Hp} : ∀ {xs : List V} {ds : List PyData}, DpAll K H xs ds → DpAll K H xs.reverse ds.reverse
  | _, _, .nil => .nil
  | _, _, .cons h t => by
    rw [List.reverse_cons, List.reverse_cons]
    exact dpAll_app (dpAll_rev t) (.cons h .nil)
theorem dpAll_erase {K : PySem.W.Frag} {H : Hp} : ∀ {xs : List V} {ds : List PyData} (n : Nat), DpAll K H xs ds → DpAll K H (xs.eraseIdx n) (ds.eraseIdx n)
  | _, _, 0, .cons _ t => t
  | _, _, _ + 1, .cons h t => .cons h (dpAll_erase _ t)
  | _, _, _, .nil => .nil
theorem map_erase {α β : Type} (f : α → β) : ∀ (l : List α) (n : Nat), (l.map f).eraseIdx n = (l.eraseIdx n).map f
  | [], _ => rfl
  | _ :: _, 0 => rfl
  | a :: l, n + 1 => congrArg (f a :: ·) (map_erase f l n)
theorem none_bar {p l : Addr} {H H' : Hp} {c : Int} (b : Bar p H H') (pu : Pur H' p c) (n : H' l = none) : H l = none := by
  have ne := pu.some n
  cases e : H l with
  | none => rfl
  | some u =>
    rw [b l u ne e] at n
    cases n
theorem vals_app : ∀ {xs ys : List V} {us ws : List Value}, Vals xs us → Vals ys ws → Vals (xs ++ ys) (us ++ ws)
  | _, _, _, _, .nil, h => h
  | _, _, _, _, .cons r t, h => .cons r (vals_app t h)
theorem fun_of {K : PySem.W.Frag} {x qual : Str} {st : Stmt} {f : Addr} {fd : FuncData} (F : FunD K x qual (defArgs st) (defBody st) (defScope st) [] [] f fd) : Fun K x qual st f fd := by
  obtain ⟨oc, od, dV, kV, doc, pm, an, cdv, ct, osl, e, lk, hcd, hD, hK⟩ := F.ex
  rcases hD with ⟨_, rfl⟩ | ⟨h, _⟩
  · exact ⟨⟨oc, od, kV, doc, pm, an, cdv, ct, osl, e, lk, hcd⟩, F.kp⟩
  · exact absurd rfl h
end Rw
namespace Rw
open PySem PySem.Spec PyProof.Rows L2
/-! ### enumerate of a tuple -/
theorem meets_enumT (l : Addr) (items : Array Value) : Meets (Builtin.«enumerate.__new__» { pos := [Value.type "enumerate", Value.ref l] }) fun _ R s =>
    s.heap.IsTuple l items ∧ R (Except.ok (Flow.ret (Value.ref (s.heap.push { cls := Value.type "tuple_iterator", data := Data.fields #[Value.ref l, Value.int 0 0] }).objs.size)))
        { heap := (s.heap.push { cls := Value.type "tuple_iterator", data := Data.fields #[Value.ref l, Value.int 0 0] }).push
              { cls := Value.type "enumerate", data := Data.fields #[Value.none, Value.bool false, Value.ref s.heap.objs.size, rawInt 0, Value.none, Value.none] },
          gens := s.gens, drawn := s.drawn, toks := s.toks, os := s.os } := by
  refine Meets.of_wp fun prog w A R s h => ?_
  obtain ⟨hl, h⟩ := h
  have hsub := sub_enumerate
  unfold Builtin.«enumerate.__new__»
  refine wpAny_bind ?_
  unfold Builtin.SmallTypes.newClass
  refine wpAny_bind (wpAny_pure (wpAny_ite_false rfl (wpAny_bind (wpAny_of_eq hsub (wpAny_ite_false rfl (wpAny_pure (wpAny_ite_true rfl (wpAny_bind ?_))))))))
  unfold Builtin.SmallTypes.calledThroughType
  refine wpAny_bind (wpAny_stack_any fun st => wpAny_pure ?_)
  have fin : wpAny (model prog w) A.in1 (do
      let it ← pyIter (.ref l)
      let r ← Builtin.SmallTypes.newRecord (.type "enumerate") (Builtin.SmallTypes.ownedTupleFields ++ [it, rawInt 0, Value.none, Value.none])
      ret r) (fun fin s' => ∃ v, fin = Fin.done (Flow.ret v) ∧ R (Except.ok (Flow.ret v)) s') (fun e s' => R (Except.error e) s') s := by
    refine wpAny_bind (wpAny_pyIter_tuple hl ?_)
    refine wpAny_bind ?_
    unfold Builtin.SmallTypes.newRecord
    refine wpAny_bind (wpAny_alloc ?_)
    refine wpAny_pure ?_
    exact wpAny_pure ⟨_, rfl, h⟩
  split
  · generalize (_ == Value.type "enumerate") = b
    cases b
    · refine wpAny_ite_false rfl (wpAny_bind (wpAny_of_eq (a := (Value.ref l, none)) rfl fin))
    · refine wpAny_ite_true rfl (wpAny_bind (wpAny_of_eq (a := (Value.ref l, none)) rfl fin))
  · refine wpAny_ite_false rfl (wpAny_bind (wpAny_of_eq (a := (Value.ref l, none)) rfl fin))
theorem call_enumT {prog : Program} {w : World} {A : Around} {E : Value → Shared → Prop} {s : Shared} {l : Addr} {items : Array Value} {Q : Value → Shared → Prop} (hT : s.heap.IsTuple l items)
    (h : ∀ h' : Heap, IsEnum h' (s.heap.objs.size + 1) s.heap.objs.size 0 Value.none → h'.IsTupleIter s.heap.objs.size l 0 → h'.objs.size = s.heap.objs.size + 2 → (∀ (b : Addr) (o : Obj), s.heap.get? b = some o → h'.get? b = some o) →
      Q (.ref (s.heap.objs.size + 1)) { heap := h', gens := s.gens, drawn := s.drawn, toks := s.toks, os := s.os }) : wpAny (model prog w) A (call (.type "enumerate") [.ref l]) Q E s := by
  refine callType_new F.called_enumerate (by decide) (F.typeCall_enumerate_1 (.ref l)) (F.newCall_enumerate_1 (.ref l)) (fun obj => F.args_object_init_2 obj (.ref l)) F.entry_enumerate_new (meets_enumT l items) ⟨hT, ?_⟩
  have hz := Heap.size_push s.heap { cls := .type "tuple_iterator", data := .fields #[.ref l, .int 0 0] }
  show _ ∧ _
  rw [hz]
  have he := Heap.get?_push_size (s.heap.push { cls := .type "tuple_iterator", data := .fields #[.ref l, .int 0 0] }) (o := { cls := .type "enumerate", data := .fields #[.none, .bool false, .ref s.heap.objs.size, rawInt 0, .none, .none] }) rfl
  rw [hz] at he
  refine ⟨⟨_, he, rfl⟩, h _ he ⟨_, Heap.get?_push_of_some _ (Heap.get?_push_size s.heap rfl), rfl, rfl⟩ ?_ fun b o e => Heap.get?_push_of_some _ (Heap.get?_push_of_some _ e)⟩
  rw [Heap.size_push, hz]
/-- enumerate of a tuple: what it gives -/
def Ietup (K : PySem.W.Frag) (a : Addr) : It where
  go := fun i H => ∃ xs x, SqT K H a xs ∧ xs[i]? = some x
  yld := fun i H v H' => ∃ T x, v = .ref T ∧ H T = none ∧ H' = upd H T (.tup [.int (i : Int), x]) ∧ ∀ xs, SqT K H a xs → xs[i]? = some x
  stop := fun i H => ∃ xs, SqT K H a xs ∧ xs.length = i
theorem tup_enum_ne {h : Heap} {a e it : Addr} {items : Array Value} {i : Int} {old : Value} (ht : h.IsTuple a items) (he : IsEnum h e it i old) : e ≠ a := fun z => by
  obtain ⟨o, h1, h2, _⟩ := ht
  rw [← z, he] at h1
  cases h1
  exact absurd (show Value.type "enumerate" = Value.type "tuple" from h2) (by decide)
theorem tup_iter_ne {h : Heap} {a it l : Addr} {items : Array Value} {i : Nat} (ht : h.IsTuple a items) (he : h.IsTupleIter it l i) : a ≠ it := fun z => by
  obtain ⟨o, h1, h2, _⟩ := ht
  obtain ⟨o', h3, h4, _⟩ := he
  rw [z, h3] at h1
  cases h1
  rw [h4] at h2
  exact absurd h2 (by decide)
theorem turn_enumT {P : Program} {w : World} {K : PySem.W.Frag} {elts : List Expr} {kk : Nat} {tpos : Pos} (a e it : Addr) : Turn P w K (.Tuple elts kk tpos) (Ietup K a) [e, it] e (fun i h => (∃ old, IsEnum h e it (i : Int) old) ∧ h.IsTupleIter it a i ∧ e ≠ it) := by
  refine ⟨by simp, fun i h st b hb => ?_, fun i h h' st k => ?_, fun X hP hw hK hc i pins s σ H E I hf st hg => ?_, fun X hP hw hK hc i pins s σ H E I hf st hg => ?_, fun A i s Q E st h => ?_⟩
  · obtain ⟨⟨old, he⟩, ⟨o, ho, hcl, hd⟩, _⟩ := st
    rcases List.mem_cons.mp hb with z | hb
    · subst z
      exact ⟨_, he, fun v q => nomatch q⟩
    · rw [List.mem_singleton.mp hb]
      refine ⟨o, ho, fun v q => ?_⟩
      rw [hd] at q
      cases q
  · obtain ⟨⟨old, he⟩, hi, hne⟩ := st
    exact ⟨⟨old, k e (by simp) _ he⟩, hi.at fun o q => k it (by simp) o q, hne⟩
  · subst hP hw hK
    obtain ⟨⟨old, he⟩, hit, hne⟩ := st
    obtain ⟨xs, x, hq, hx⟩ := hg
    obtain ⟨its, rv, p, hz⟩ := I.tuple hq
    have ht : s.heap.IsTuple a its.toArray := p
    have ea := tup_enum_ne ht he
    have ai := tup_iter_ne ht hit
    have hl := rv.length
    have hin : i < its.toArray.size := by
      rw [List.size_toArray, ← hl]
      exact (List.getElem?_eq_some_iff.mp hx).1
    refine wpAny_pyNext_enum_itemD (Draws.tuple (A := X.A.in1) (I.ok.hd hc) it a ai its.toArray) he ⟨hit, ht⟩ hin hne (by simp [hne, ea]) fun u h' tk hu ho st' hT hsz hk => ⟨.ref s.heap.objs.size, rfl, ?_⟩
    refine wpAny_letOwnedTupleGo_enum ho fun h'' he' sb => ?_
    have hel : e < s.heap.objs.size := Heap.lt_size he
    have hil : it < s.heap.objs.size := by
      obtain ⟨o, ho, _⟩ := hit
      exact Heap.lt_size ho
    have hT2 : h''.get? s.heap.objs.size = _ := (sb.2 s.heap.objs.size (Nat.ne_of_gt hel)).trans hT
    have hu' : its[i]? = some u := by simpa using hu
    obtain ⟨x', hx', ru⟩ := vals_at rv hu'
    have exx : x' = x := Option.some.inj (hx'.symm.trans hx)
    subst exx
    have new : ObjOk X.prog X.w (upd H s.heap.objs.size (.tup [.int (i : Int), x'])) h'' s.heap.objs.size (.tup [.int (i : Int), x']) :=
      ⟨by show 2 ≤ sizeLine; decide, [.int (i : Int) tk, u], .cons ⟨tk, rfl⟩ (.cons ru .nil), ⟨_, hT2, rfl, 0, rfl⟩⟩
    have kept : ∀ (b : Addr) (o : Obj), b ∉ [e, it] → s.heap.get? b = some o → h''.get? b = some o := fun b o hb q => by
      have n1 : b ≠ e := fun z => hb (by simp [z])
      have n2 : b ≠ it := fun z => hb (by simp [z])
      exact (sb.2 b n1).trans (hk b o n1 n2 q)
    have I1 := I.turnedNew (t' := tk + 1) kept hf (Nat.le_refl _) new
    refine ⟨.ref s.heap.objs.size, _, I1, rfl, ⟨s.heap.objs.size, x', rfl, I.hok.fresh (Nat.le_refl _), rfl, fun ys hy => ?_⟩, ⟨⟨u, ?_⟩, st'.1.at fun o q => (sb.2 it hne.symm).trans q, hne⟩, fun b hb => ?_⟩
    · obtain ⟨its2, rv2, p2, _⟩ := I.tuple hy
      have ht2 : s.heap.IsTuple a its2.toArray := p2
      have ei : its2.toArray = its.toArray := by
        obtain ⟨o, a1, a2, n, a3⟩ := ht
        obtain ⟨o', b1, b2, n', b3⟩ := ht2
        rw [a1] at b1
        cases b1
        rw [a3] at b3
        cases b3
        rfl
      have ei' : its2 = its := by
        have := congrArg Array.toList ei
        simpa using this
      subst ei'
      obtain ⟨y, hy1, ry⟩ := vals_at rv2 hu'
      rw [RelV.inj ru ry]
      exact hy1
    · have e1 : ((i : Int) + 1) = ((i + 1 : Nat) : Int) := rfl
      rw [← e1]
      exact he'
    · have hb' : b < s.heap.objs.size := by
        rcases List.mem_cons.mp hb with z | hb
        · rw [z]
          exact hel
        · rw [List.mem_singleton.mp hb]
          exact hil
      rw [upd_ne (Nat.ne_of_lt hb')]
      exact (hf b hb).1
  · subst hP hw hK
    obtain ⟨⟨old, he⟩, hit, hne⟩ := st
    obtain ⟨xs, hq, hx⟩ := hg
    obtain ⟨its, rv, p, hz⟩ := I.tuple hq
    have ht : s.heap.IsTuple a its.toArray := p
    have ai := tup_iter_ne ht hit
    obtain ⟨f0, f1, f2, f3, f4, f5⟩ := hf it (by simp)
    have sz : its.toArray.size = i := by rw [List.size_toArray, ← rv.length, hx]
    refine wpAny_pyNext_enum_endD (Draws.tuple (A := X.A.in1) (I.ok.hd hc) it a ai its.toArray) he ⟨by rw [sz]; exact hit, ht⟩ fun h' eb => ⟨rfl, I.turned (fun b o hb q => eb b o hb q) f0 f1 f3 f4 f5⟩
  · obtain ⟨⟨_, he⟩, _⟩ := st
    exact wpAny_pyIter_enum he h
def iEnumT (K : PySem.W.Frag) (ta : TA) : TI := fun σ H R => ta σ H fun vs H1 => ∃ a xs, vs = [.ref a] ∧ SqT K H1 a xs ∧ R (Ietup K a) H1
theorem pi_enumT {X : Cx} {e : Expr} {ta : TA} {p pos tpos : Pos} {elts : List Expr} {kk : Nat} (hg : Gl X "enumerate") (hm : X.mg "enumerate" = none) (ha : PA X [e] ta) (hs : starEach [e] X.env = [(false, eval e X.env)] := by rfl) : PI X (.Tuple elts kk tpos) (.Call (.Name "enumerate" p) [e] [] pos) (iEnumT X.K ta) := by
  refine ⟨fun pins s σ H R I h => Call_ (ld_blt I hg hm boot_enumerate (PyProof.Rows.callWith_type1 (thn (ha.run pos pins s σ H _ I h) fun us s1 ⟨vs, H1, I1, r1, a, xs, ex, hq, q⟩ => ?_) hs rfl) (by decide) (by decide)) rfl⟩
  subst ex
  rw [Vals.ref1 r1]
  obtain ⟨its, rv, p', hz⟩ := I1.tuple hq
  refine call_enumT p' fun h' he hit hsz hk => ?_
  refine wpAny_pyIter_enum he ?_
  have I2 := I1.kept (t' := s1.toks) hk
  refine ⟨s1.heap.objs.size + 1, [s1.heap.objs.size + 1, s1.heap.objs.size], _, Ietup X.K a, H1, rfl, I2, turn_enumT a (s1.heap.objs.size + 1) s1.heap.objs.size, ⟨⟨_, he⟩, hit, Nat.succ_ne_self _⟩, fun b hb => ?_, q⟩
  rcases List.mem_cons.mp hb with z | hb
  · subst z
    exact I1.fpOk (Nat.le_succ _) (I1.hok.fresh (Nat.le_succ _))
  · rw [List.mem_singleton.mp hb]
    exact I1.fpOk (Nat.le_refl _) (I1.hok.fresh (Nat.le_refl _))
end Rw
namespace Rw
open PySem PySem.Spec PyProof.Rows L2
/-! ### walks over enumerate(tuple); instances made of starred arguments -/
theorem for_enumT {K : PySem.W.Frag} {a : Addr} {xs : List V} {g : TG} {tb : TS} {D : Ends} {σ : L2.St} {H : Hp} (Pv : Nat → L2.St → Hp → Prop) (h0 : Pv 0 σ H) (hl : ∀ i σ H, i ≤ xs.length → Pv i σ H → SqT K H a xs)
    (hs : ∀ i x σ H T, xs[i]? = some x → Pv i σ H → H T = none → g (.ref T) σ (upd H T (.tup [.int (i : Int), x])) fun σ2 H2 => tb { nx := Pv (i + 1), rt := D.rt, bk := D.nx, ct := Pv (i + 1) } σ2 H2) (hd : ∀ σ H, Pv xs.length σ H → D.nx σ H) :
    ∃ W : Nat → Nat → L2.St → Hp → Prop, (∃ m, W 0 m σ H) ∧ ∀ i m σ H, W i m σ H → ((Ietup K a).stop i H ∧ D.nx σ H) ∨ ((Ietup K a).go i H ∧ ∃ N : L2.St → Hp → Prop, (∀ σ' H', N σ' H' → ∃ m', m' < m ∧ W (i + 1) m' σ' H') ∧
      ∀ x H', (Ietup K a).yld i H x H' → g x σ H' fun σ2 H2 => tb { nx := N, rt := D.rt, bk := D.nx, ct := N } σ2 H2) := by
  refine ⟨fun i m σ H => m = xs.length - i ∧ i ≤ xs.length ∧ Pv i σ H, ⟨xs.length, by simp, Nat.zero_le _, h0⟩, ?_⟩
  rintro i m σ H ⟨rfl, hi, p⟩
  have hS := hl i σ H hi p
  by_cases hlt : i < xs.length
  · refine .inr ⟨⟨xs, xs[i], hS, List.getElem?_eq_getElem hlt⟩, Pv (i + 1), fun σ' H' p' => ⟨xs.length - (i + 1), by omega, rfl, hlt, p'⟩, fun y H' yy => ?_⟩
    obtain ⟨T, x, rfl, hT, rfl, hx⟩ := yy
    exact hs i x σ H T (hx xs hS) p hT
  · have e : i = xs.length := by omega
    subst e
    exact .inl ⟨⟨xs, hS, rfl⟩, hd σ H p⟩
def tMakeS (K : PySem.W.Frag) (C : Addr) (sp : Sp) (E : XK) (te : TE) : TE := fun σ H Q => te σ H fun y H1 => ∃ a xs, y = V.ref a ∧ (SqT K H1 a xs ∨ SqL K H1 a xs) ∧ ∀ x dx, H1 x = none → H1 dx = none → dx ≠ x → sp (V.ref x :: xs) (upd (upd H1 dx (.own x)) x (.ins C dx [])) (fun v H2 => v = .non ∧ Q (.ref x) H2) E
/-- C(*e), C a class of the module -/
theorem pe_makeS {X : Cx} {CX : CXT} {k : Nat} {f C : Addr} {sp : Sp} {E : XK} {x : Str} {e : Expr} {te : TE} {p sp_ pos : Pos} (M : Mk X.K C f) (F : FnR X.prog X.w X.K X.mg X.base CX k f sp) (hr : Room (k + 1) X.A) (hg : Gl X x) (hm : X.mg x = some (.ref C)) (hx : Passes CX X E) (he : PE X e te)
    (hd : (x == ("__debug__" : Str)) = false := by rfl) (hst : starEach [e.Starred sp_] X.env = [(true, eval e X.env)] := by rfl) : PE X (.Call (.Name x p) [.Starred e sp_] [] pos) (tMakeS X.K C sp E te) :=
  ⟨fun pins s σ H Q I h => wpAny_Call_Name_kw (ld_glob I hg hm (PySem.W.callWith_S I.ok.mod.kin M.kp (thn (he.run pins s σ H _ I h) fun v s1 ⟨y, H1, I1, ry, a, xs, ey, hxs, q⟩ => by
    subst ey
    obtain rfl : v = Value.ref a := ry
    exact StX.star_any I1 hxs fun us s2 I2 rv => ⟨Inv.kIn I2, StX.run_makeR M F hr hx I2 rv q⟩) hst) hd)⟩
/-- cls(*e), cls a local name that holds the class -/
theorem pe_makeSL {X : Cx} {CX : CXT} {k i : Nat} {f C : Addr} {sp : Sp} {E : XK} {x : Str} {e : Expr} {te : TE} {p sp_ pos : Pos} (M : Mk X.K C f) (F : FnR X.prog X.w X.K X.mg X.base CX k f sp) (hr : Room (k + 1) X.A) (hN : X.N[i]? = some x) (hv : Vis X.env.scope x) (hx : Passes CX X E) (he : PE X e te)
    (hd : (x == ("__debug__" : Str)) = false := by rfl) (hcd : (x == ("__classdict__" : Str)) = false := by rfl) (hst : starEach [e.Starred sp_] X.env = [(true, eval e X.env)] := by rfl) :
    PE X (.Call (.Name x p) [.Starred e sp_] [] pos) (fun σ H Q => σ[i]? = some (some (.ref C)) ∧ tMakeS X.K C sp E te σ H Q) := by
  refine ⟨fun pins s σ H Q I ⟨hs, h⟩ => wpAny_Call_Name_kw (thn ((pe_var hN hv hd hcd).run pins s σ H (fun v H1 => v = V.ref C ∧ H1 = H) I ⟨.ref C, hs, rfl, rfl⟩) fun u s1 ⟨v, H0, I1, r1, ev, eH⟩ => ?_)⟩
  subst ev eH
  obtain rfl : u = Value.ref C := r1
  exact PySem.W.callWith_S I1.ok.mod.kin M.kp (thn (he.run pins s1 σ _ _ I1 h) fun v s1 ⟨y, H1, I1, ry, a, xs, ey, hxs, q⟩ => by
    subst ey
    obtain rfl : v = Value.ref a := ry
    exact StX.star_any I1 hxs fun us s2 I2 rv => ⟨Inv.kIn I2, StX.run_makeR M F hr hx I2 rv q⟩) hst
theorem fnr_of {P : Program} {w : World} {K : PySem.W.Frag} {mg : Str → Option Value} {base : Heap} {CX : CXT} {k : Nat} {f : Addr} {fd : FuncData} {ps : List Str} {sp : Sp} (F : FnOk P w K mg base CX k f fd ps sp) (b : Binds K fd ps []) : FnR P w K mg base CX k f sp := fun A outer s H us vs Q E hr e0 r h => by
  have hl := F.len vs H Q E h
  have ul : us.length = ps.length := by rw [← r.length, hl]
  have z := b s us (PySem.W.Frag.In.keeps e0.mod.kin fun b o e => (e0.bs b o e).1) (by rw [List.append_nil]; exact ul)
  rw [List.append_nil] at z
  exact F.run A outer s H _ us vs Q E hr e0 z r h
end Rw
namespace Rw
open PySem PySem.Spec PyProof.Rows L2
/-! ### rules: heads, denied, needs, bars -/
abbrev Rl := W × W × W × W
def parts (r : Rl) : List W := [r.1, r.2.1, r.2.2.1, r.2.2.2]
def rd (r : Rl) : PyData := .tuple ((parts r).map wd)
structure IsR (r : Rl) : Prop where
  h : IsW r.1
  d : IsW r.2.1
  n : IsW r.2.2.1
  b : IsW r.2.2.2
theorem IsR.all {r : Rl} (h : IsR r) : ∀ t ∈ parts r, IsW t := fun t ht => by
  unfold parts at ht
  simp only [List.mem_cons, List.mem_nil_iff, or_false] at ht
  rcases ht with e | e | e | e <;> subst e
  · exact h.h
  · exact h.d
  · exact h.n
  · exact h.b
theorem wds_inj : ∀ {a b : List W}, a.map wd = b.map wd → a = b
  | [], [], _ => rfl
  | [], _ :: _, h => by simp at h
  | _ :: _, [], h => by simp at h
  | x :: a, y :: b, h => by
    simp only [List.map_cons, List.cons.injEq] at h
    rw [wd_inj h.1, wds_inj h.2]
theorem rd_inj {p q : Rl} (h : rd p = rd q) : p = q := by
  unfold rd at h
  injection h with h
  have z := wds_inj h
  unfold parts at z
  simp only [List.cons.injEq, and_true] at z
  obtain ⟨h1, h2, h3, h4⟩ := z
  exact Prod.ext h1 (Prod.ext h2 (Prod.ext h3 h4))
theorem ok_rd (r : Rl) : okD (rd r) = true := by
  unfold rd
  rw [okD]
  exact okDs_wd _
theorem depthAll_wd : ∀ L : List W, PyData.depthAll (L.map wd) ≤ 1
  | [] => by simp [PyData.depthAll]
  | x :: L => by
    have := depthAll_wd L
    rw [List.map_cons, PyData.depthAll, depth_wd]
    omega
theorem depth_rd (r : Rl) : (rd r).depth ≤ 2 := by
  have := depthAll_wd (parts r)
  unfold rd
  rw [PyData.depth]
  omega
theorem good_rd (r : Rl) : Good (rd r) := ⟨ok_rd r, Nat.le_trans (depth_rd r) (by decide), ⟨_, rfl⟩⟩
theorem lay_wds : ∀ {L : List W}, (∀ t ∈ L, IsW t) → PyData.canLayAll0 (L.map wd) = true
  | [], _ => by simp [PyData.canLayAll0]
  | t :: L, h => by
    rw [List.map_cons, PyData.canLayAll0, lay_wds fun y hy => h y (List.mem_cons_of_mem _ hy), lay_wd (h t List.mem_cons_self).names]
    rfl
theorem lay_rd {r : Rl} (h : IsR r) : (rd r).canLay0 = true := by
  unfold rd
  rw [PyData.canLay0]
  exact lay_wds h.all
theorem shaped_rd {r : Rl} (h : IsR r) : SeqAt.shaped (rd r) = true := shaped_of (lay_rd h) (Nat.le_trans (depth_rd r) (by decide))
theorem alike_wds : ∀ a b : List W, PySem.W.alikeAll (a.map wd) (b.map wd) = true
  | [], _ => by simp [PySem.W.alikeAll]
  | _ :: _, [] => by simp [PySem.W.alikeAll]
  | x :: a, y :: b => by
    rw [List.map_cons, List.map_cons, PySem.W.alikeAll, alike_wds a b, alike_wd]
    rfl
theorem alike_rd (p q : Rl) : PySem.W.alike (rd p) (rd q) = true := by
  unfold rd
  rw [PySem.W.alike]
  exact alike_wds _ _
theorem eqv_wds : ∀ a b : List W, PyData.eqvAll (a.map wd) (b.map wd) = decide (a = b)
  | [], [] => by simp [PyData.eqvAll]
  | [], _ :: _ => by simp [PyData.eqvAll]
  | _ :: _, [] => by simp [PyData.eqvAll]
  | x :: a, y :: b => by
    rw [List.map_cons, List.map_cons, PyData.eqvAll, eqv_wds a b, eqv_wd]
    by_cases h : x = y
    · subst h
      by_cases h2 : a = b <;> simp [h2]
    · simp [h]
theorem eqv_rd (p q : Rl) : PyData.eqv (rd p) (rd q) = decide (p = q) := by
  have e : (p = q) ↔ (parts p = parts q) := ⟨fun h => by rw [h], fun h => rd_inj (by unfold rd; rw [h])⟩
  unfold rd
  rw [PyData.eqv, eqv_wds]
  by_cases h : parts p = parts q
  · rw [decide_eq_true h, decide_eq_true (e.mpr h)]
  · rw [decide_eq_false h, decide_eq_false fun z => h (e.mp z)]
theorem rules_one {R R' : List Rl} (r1 : Rising (R.map rd)) (r2 : Rising (R'.map rd)) (n1 : R.Nodup) (n2 : R'.Nodup) (h : ∀ p, p ∈ R ↔ p ∈ R') : R = R' :=
  rising_one alike_rd (fun p q e => by rw [eqv_rd] at e; exact of_decide_eq_true e) r1 r2 n1 n2 h
theorem okDs_rd (R : List Rl) : okDs (R.map rd) = true := okDs_all fun d hd => by
  obtain ⟨p, _, rfl⟩ := List.mem_map.mp hd
  exact ok_rd p
theorem all_rd : ∀ {ds : List PyData}, (∀ d ∈ ds, ∃ p, d = rd p) → ∃ R : List Rl, ds = R.map rd
  | [], _ => ⟨[], rfl⟩
  | d :: ds, h => by
    obtain ⟨p, rfl⟩ := h d List.mem_cons_self
    obtain ⟨R, rfl⟩ := all_rd fun e he => h e (List.mem_cons_of_mem _ he)
    exact ⟨p :: R, rfl⟩
theorem rd_mem {R : List Rl} {p : Rl} : rd p ∈ R.map rd ↔ p ∈ R :=
  ⟨fun h => by obtain ⟨q, hq, e⟩ := List.mem_map.mp h; rw [← rd_inj e]; exact hq, fun h => List.mem_map.mpr ⟨p, h, rfl⟩⟩
theorem Stay.rd {K : PySem.W.Frag} {H H' : Hp} {x : V} {r : Rl} (e : Stay H H') (h : Dp K H x (Rw.rd r)) : Dp K H' x (Rw.rd r) := e.dp _ _ (ok_rd r) h
theorem of_rd {K : PySem.W.Frag} {H : Hp} {x : V} {r : Rl} (h : Dp K H x (rd r)) : ∃ a v1 v2 v3 v4, x = .ref a ∧ SqT K H a [v1, v2, v3, v4] ∧ Dp K H v1 (wd r.1) ∧ Dp K H v2 (wd r.2.1) ∧ Dp K H v3 (wd r.2.2.1) ∧ Dp K H v4 (wd r.2.2.2) := by
  unfold rd parts at h
  cases h with
  | tup h1 h2 =>
    cases h2 with
    | cons a1 t =>
      cases t with
      | cons a2 t =>
        cases t with
        | cons a3 t =>
          cases t with
          | cons a4 t =>
            cases t
            exact ⟨_, _, _, _, _, rfl, h1, a1, a2, a3, a4⟩
theorem to_rd {K : PySem.W.Frag} {H : Hp} {a : Addr} {v1 v2 v3 v4 : V} {r : Rl} (h : SqT K H a [v1, v2, v3, v4]) (h1 : Dp K H v1 (wd r.1)) (h2 : Dp K H v2 (wd r.2.1)) (h3 : Dp K H v3 (wd r.2.2.1)) (h4 : Dp K H v4 (wd r.2.2.2)) : Dp K H (.ref a) (rd r) :=
  .tup h (.cons h1 (.cons h2 (.cons h3 (.cons h4 .nil))))
/-- a sorted list without repetition -/
structure Srt (S L : List Rl) : Prop where
  nd : S.Nodup
  ris : Rising (S.map rd)
  mem : ∀ p, p ∈ S ↔ p ∈ L
theorem Srt.one {S S' L L' : List Rl} (a : Srt S L) (b : Srt S' L') (h : ∀ p, p ∈ L ↔ p ∈ L') : S = S' := rules_one a.ris b.ris a.nd b.nd fun p => (a.mem p).trans ((h p).trans (b.mem p).symm)
/-! ### sorted(set(xs)) of rules -/
section
variable {X : Cx}
/-- set(xs), xs a list or a tuple of rules -/
def rSetR (K : PySem.W.Frag) (w : World) : List V → Hp → VK → Prop := fun vs H Q => ∃ (l : Addr) (xs : List V) (L : List Rl), vs = [.ref l] ∧ (SqL K H l xs ∨ SqT K H l xs) ∧ DpAll K H xs (L.map rd) ∧ L.length < 76 ∧
  ∀ a M, H a = none → (∀ p ∈ M, Good p.2 ∧ Dp K H (.ref p.1) p.2) → (∀ p ∈ M, ∃ r ∈ L, p.2 = rd r) → (∀ r ∈ L, rd r ∈ M.map (·.2)) → Q (.ref a) (upd H a (TSetO w a M))
theorem cr_setR (hc : X.calm = true) (hu : X.A.units + 64 < cLine) : CallR X (.type "set") (rSetR X.K X.w) := fun pins s σ H vs us Q I r ⟨l, xs, L, e, hl, hd, few, q⟩ =>
  cr_setT hc hu pins s σ H vs us Q I r ⟨l, xs, L.map rd, e, hl, hd, (fun d hd => by obtain ⟨p, _, rfl⟩ := List.mem_map.mp hd; exact good_rd p), by rw [List.length_map]; exact few, fun a M ha hM hall => by
    have isP : ∀ e ∈ M, ∃ p ∈ L, e.2 = rd p := fun e he => by
      obtain ⟨p, hp, ep⟩ := List.mem_map.mp (hM e he).1
      exact ⟨p, hp, ep.symm⟩
    refine q a M ha (fun e he => ?_) isP fun r hr => hall _ (List.mem_map.mpr ⟨r, hr, rfl⟩)
    obtain ⟨p, _, ep⟩ := isP e he
    exact ⟨by rw [ep]; exact good_rd p, (hM e he).2⟩⟩
/-- sorted(a set of rules) -/
def rSortR (K : PySem.W.Frag) (w : World) : List V → Hp → VK → Prop := fun vs H Q => ∃ (a : Addr) (M : List (Addr × PyData)) (L : List Rl), vs = [.ref a] ∧ H a = some (TSetO w a M) ∧ (∀ p ∈ M, Good p.2 ∧ Dp K H (.ref p.1) p.2) ∧ (∀ p ∈ M, ∃ r ∈ L, p.2 = rd r) ∧ (∀ r ∈ L, rd r ∈ M.map (·.2)) ∧
  ∀ (ys : List V) (S : List Rl) (p : Addr), Srt S L → S.length < 76 → DpAll K H ys (S.map rd) → H p = none → Q (.ref p) (upd H p (.lst ys))
theorem cr_sortR (hc : X.calm = true) (hu : X.A.units + 64 < cLine) : CallR X (.builtin "sorted") (rSortR X.K X.w) := fun pins s σ H vs us Q I r ⟨a, M, L, e, ha, hM, isP, hall, q⟩ =>
  cr_sortT hc hu pins s σ H vs us Q I r ⟨a, M, e, ha, hM, (fun d hd d' hd' => by
    obtain ⟨e, he, rfl⟩ := List.mem_map.mp hd
    obtain ⟨e', he', rfl⟩ := List.mem_map.mp hd'
    obtain ⟨p, _, ep⟩ := isP e he
    obtain ⟨p', _, ep'⟩ := isP e' he'
    rw [ep, ep']
    exact alike_rd p p'), fun ys ds p perm nd lt ris hys hp' => by
    obtain ⟨S, rfl⟩ := all_rd (ds := ds) fun d hd => by
      obtain ⟨e, he, rfl⟩ := List.mem_map.mp (perm.mem_iff.mp hd)
      obtain ⟨p, _, ep⟩ := isP e he
      exact ⟨p, ep⟩
    rw [List.length_map] at lt
    refine q ys S p ⟨nodup_of_map nd, ris, fun p => ?_⟩ lt hys hp'
    rw [← rd_mem, perm.mem_iff]
    constructor
    · intro hm
      obtain ⟨e, he, ee⟩ := List.mem_map.mp hm
      obtain ⟨p', hp', ep⟩ := isP e he
      rw [← rd_inj (ep.symm.trans ee)]
      exact hp'
    · intro hm
      exact hall _ hm⟩
end
end Rw
namespace Rw
open PySem PySem.Spec PyProof.Rows L2
/-! ### == and != of instances by their class's own __eq__ -/
section
variable {X : Cx}
def rEqP (C : Addr) (sp : Sp) (E : XK) : R2 := fun x y H Q => ∃ a dx fs b dy gs, x = .ref a ∧ y = .ref b ∧ H a = some (.ins C dx fs) ∧ H b = some (.ins C dy gs) ∧ sp [x, y] H Q E
theorem op_eqP {CX : CXT} {C g : Addr} {n : Nat} {sp : Sp} {E : XK} (hs : PySem.W.findIn X.K (.ref C) "__eq__" = some (some (.ref g))) (hf : PySem.W.isFn X.K (.ref g) = true) (F : FnR X.prog X.w X.K X.mg X.base CX n g sp) (hr : Room n X.A) (hx : Passes CX X E) : OpR X (compareOp .Eq) (rEqP C sp E) := by
  intro pins s σ H x y v u Q I rx ry h
  obtain ⟨a, dx, fs, b, dy, gs, rfl, rfl, ha, hb, q⟩ := h
  obtain rfl : v = Value.ref a := rx
  obtain rfl : u = Value.ref b := ry
  obtain ⟨mA, J, _⟩ := ins_get I.hok ha
  obtain ⟨mB, J', _⟩ := ins_get I.hok hb
  obtain ⟨od, J, _⟩ := J.look
  obtain ⟨od', J', _⟩ := J'.look
  obtain ⟨m, hF⟩ := I.fr
  show wpAny _ _ (richCompare .Eq (.ref a) (.ref b)) _ _ _
  refine PySem.W.cmp_K hr.units0 hF I.ok.mod.kin J J'.type (by simp [PySem.W.notFirst]) hs hf ?_
  refine wpAny_mono (wpAny_call (run_fnR F hr hx I (vs := [.ref a, .ref b]) (.cons rfl (.cons rfl .nil)) q)) (fun r s' h => ?_) fun e s' h => h
  obtain ⟨z, H', I', r, q⟩ := h
  exact SlX.cmpback r ⟨z, H', I', r, q⟩
/-- what the class is, for != -/
structure NeC (K : PySem.W.Frag) (C g : Addr) : Prop where
  cls : ∃ nm q N bs hd sn sub ab col dd k0 k1 k2 k3 k5 nid oN es ep, K.lookup C = some (excClassObj nm q C N bs [.type "object"] hd sn sub ab col dd k0 k1 k2 k3 k5 nid) ∧ K.lookup N = some oN ∧ oN.data = .dict es ep ∧ StrKeys es ∧ nsFind es "__eq__" = some (.ref g) ∧ nsFind es "__ne__" = none
  fn : ∃ og, K.lookup g = some og ∧ og.cls = .type "function"
def rNeP (C : Addr) (sp : Sp) (E : XK) : R2 := fun x y H Q => ∃ a dx fs b dy gs, x = .ref a ∧ y = .ref b ∧ H a = some (.ins C dx fs) ∧ H b = some (.ins C dy gs) ∧ sp [x, y] H (fun v H' => ∃ t, v = .bl t ∧ Q (.bl (!t)) H') E
theorem op_neP {CX : CXT} {C g : Addr} {n : Nat} {sp : Sp} {E : XK} (N : NeC X.K C g) (F : FnR X.prog X.w X.K X.mg X.base CX n g sp) (hr : Room (n + 1) X.A) (hx : Passes CX X E) : OpR X (compareOp .NotEq) (rNeP C sp E) := by
  intro pins s σ H x y v u Q I rx ry h
  obtain ⟨a, dx, fs, b, dy, gs, rfl, rfl, ha, hb, q⟩ := h
  obtain rfl : v = Value.ref a := rx
  obtain rfl : u = Value.ref b := ry
  obtain ⟨mA, J, _⟩ := ins_get I.hok ha
  obtain ⟨mB, J', _⟩ := ins_get I.hok hb
  obtain ⟨od, J, _⟩ := J.look
  obtain ⟨od', J', _⟩ := J'.look
  obtain ⟨nm, q1, NN, bs, hd, sn, sub, ab, col, dd, k0, k1, k2, k3, k5, nid, oN, es, ep, c1, c2, c3, c4, c5, c6⟩ := N.cls
  obtain ⟨og, g1, g2⟩ := N.fn
  have kin := I.kIn
  have own : s.heap.OwnEqNoNe a C g "object" [.type "object"] := ⟨_, og, nm, q1, NN, bs, hd, sn, sub, ab, col, dd, k0, k1, k2, k3, k5, nid, _, _, J.at_, J.cls, kin _ _ c1, ⟨oN, es, ep, kin _ _ c2, c3, c4, fun _ => rfl⟩, c5, kin _ _ g1, g2, PySem.F.cmp_object.mro, PySem.F.cmp_object.eq.lookup, c6⟩
  have un := hr.un
  refine compareOp_ne_ownEq PySem.F.cmp_object own J'.at_ J'.cls (by omega) ?_
  have e0 := I.env0
  have e1 : Env0 X.prog X.w X.K X.mg X.base X.A.in1 X.stack s H := ⟨e0.frames, e0.mod, e0.bs, e0.bsz, e0.funs, e0.frf, e0.hok, e0.bare⟩
  refine wpAny_call (codeAny_mono (F X.A.in1 X.stack s H [.ref a, .ref b] [.ref a, .ref b] _ E hr.in1 e1 (.cons rfl (.cons rfl .nil)) q) fun r s' h => ?_)
  cases r with
  | error e => exact hx pins σ H s e s' I h
  | ok f =>
    cases f with
    | ret v =>
      obtain ⟨z, H', I', r, t, rfl, q⟩ := I.after h
      obtain rfl : v = Value.bool t := r
      exact ⟨t, rfl, .bl (!t), H', I', rfl, q⟩
    | _ => exact h.elim
end
end Rw
namespace Rw
open PySem PySem.Spec PyProof.Rows L2
/-! ### an error that was caught and kept -/
/-- an error of the class cls at a, whose own dict is d -/
def ExH (cls : Value) (d : Option Addr) (a : Addr) : HO := .ext fun h => ∃ oe vs, h.get? a = some oe ∧ Zc cls d oe ∧ oe.data = .fields vs
def wKeep (K : PySem.W.Frag) (c : Value) (i j : Nat) (D : Ends) : WX := fun cls d σ H => PySem.W.exmOne K cls c = some true ∧ ∀ a, H a = none → D.nx (((σ.set i (some (.ref a))).set j (some (.ref a))).set i none) (upd H a (ExH cls d a))
/-- an error's object is tracked from now on -/
theorem keep_inv {X : Cx} {pins : List (Addr × Obj)} {σ : L2.St} {H : Hp} {s : Shared} {a : Addr} {oe : Obj} {cls : Value} {d : Option Addr} {vs : Array Value} (I : Inv X pins σ H s) (he : s.heap.get? a = some oe) (hz : Zc cls d oe) (hd : oe.data = .fields vs) (hH : H a = none) (nL : a ≠ X.env.locals)
    (h0 : X.s_0.heap.get? a = none) (hp : ∀ p ∈ X.pn ++ pins, p.1 ≠ a) : Inv X pins σ (upd H a (ExH cls d a)) s := by
  have cell : ∀ x c, X.env.cells.lookup x = some c → c ≠ a := fun x c e z => by
    obtain ⟨v, o, h1, h2⟩ := I.cell x c e
    rw [z, he] at h1
    cases h1
    rw [hd] at h2
    cases h2
  refine ⟨I.ok, I.os, I.bare, ?_, I.loc, I.cell, ?_, fun x c e => ?_, fun p hpm => ?_, fun b o hb => ?_, I.len⟩
  · have u := I.base
    refine ⟨u.keep, u.slot, fun b o e1 e2 e3 => ?_, u.there, fun b xs e => ?_, fun b o w' e => ?_, fun b ps e => ?_⟩
    · have nb : b ≠ a := fun z => by
        rw [z, h0] at e1
        cases e1
      rw [upd_ne nb]
      exact u.free b o e1 e2 e3
    · have z := u.tups b xs e
      rw [upd_ne (ne_of_none z hH)]
      exact z
    · have z := u.frzs b o w' e
      rw [upd_ne (ne_of_none z hH)]
      exact z
    · obtain ⟨more, z⟩ := u.tbls b ps e
      refine ⟨more, ?_⟩
      rw [upd_ne (ne_of_none z hH)]
      exact z
  · rw [upd_ne nL.symm]
    exact I.free
  · rw [upd_ne (cell x c e)]
    exact I.freeC x c e
  · obtain ⟨p1, p2, p3⟩ := I.pin p hpm
    refine ⟨p1, ?_, p3⟩
    rw [upd_ne (hp p hpm)]
    exact p2
  · have new : ObjOk X.prog X.w (upd H a (ExH cls d a)) s.heap a (ExH cls d a) := ⟨⟨oe, vs, he, hz, hd⟩, ⟨oe, he⟩, fun h1 h2 ⟨oe', vs', e1, e2⟩ kk => ⟨oe', vs', kk oe' e1, e2⟩⟩
    by_cases e : b = a
    · subst e
      rw [upd_same] at hb
      cases hb
      exact new
    · rw [upd_ne e] at hb
      have same : ∀ (b' : Addr) (u : HO), H b' = some u → (upd H a (ExH cls d a)) b' = some u := fun b' u h => by
        rw [upd_ne (ne_of_none h hH)]
        exact h
      exact (I.hok b o hb).stay (fun _ _ _ e => e) (fun b' h => same b' _ h) fun b' xs h => same b' _ h
/-- try: body except x as n: y = n (every error of the body is an x) -/
theorem ps_try_keep {X : Cx} {x n y : Str} {c : Value} {i j : Nat} {body : List Stmt} {np pos pos' p1 p2 p3 : Pos} {tb : WX → TS} (hs : X.stack = X.env :: X.outer) (hf : X.env.frame = some X.env.locals) (hN : X.N.Nodup) (hi : X.N[i]? = some n) (hln : X.env.kindOf n = some .local) (hc : Names X x c)
    (hj : X.N[j]? = some y) (hyl : X.env.scope.names.lookup y = some .local) (hnl : X.env.scope.names.lookup n = some .local) (hex : X.ex = []) (hdb : (n == ("__debug__" : Str)) = false) (hcd : (n == ("__classdict__" : Str)) = false) (hsw : swapsWith (.Name n p2) (some (.Name y p1)) p3.line X.env = pure false)
    (hb : ∀ (W : WX) (pn : List (Addr × Obj)) (xe : Value → Shared → Prop), Takes (X.tr pn xe) W → PassesOwn (model X.prog X.w) X.A X.env xe → PSs (X.tr pn xe) body (tb W)) :
    PS X (.Try body [.ExceptHandler (some (.Name x np)) (some n) [.Assign [.Name y p1] (.Name n p2) p3] pos'] [] [] pos) (fun D σ H => tb (wKeep X.K c i j D) D σ H) := by
  refine ⟨fun pins s σ H D I h => ?_⟩
  have ok := I.ok
  have hfr : X.A.frames = some (X.env :: X.outer) := by rw [ok.frames, hs]
  have hloc : L2.Loc X.env.scope n := Or.inl hln
  refine wpAny_Try_except (wpAny_mono ((hb (wKeep X.K c i j D) (X.pn ++ pins) (fun e s₁ => wpAny (model X.prog X.w) X.A (noteFrame e X.env) (fun _ s₂ => wpAny (model X.prog X.w) X.A (setFlight e none) (fun _ s₃ => wpAny (model X.prog X.w) X.A (handleBy e X.env [.ExceptHandler (some (.Name x np)) (some n) [.Assign [.Name y p1] (.Name n p2) p3] pos']) (SP X pins D) X.xe s₃) X.xe s₂) X.xe s₁) ?_ PassesOwn.looking).run [] s σ H D (I.toTry _) h) ?_ fun e s1 he => he)
  · rintro u s' ⟨a, B, sI, pins', σ', H', cls, d, rfl, J', nb, up, sky, na, os, ag, hb1, hyes⟩
    have J := J'.ofTry ok
    have sky' : Sky B (X.env :: X.outer) a (Zc cls d) X.env.locals s'.heap := by
      rw [← hs]
      exact sky
    refine Sky.land Zc.steady hfr hf sky' fun h3 fl3 up3 => ?_
    have J3 := J.landed (s' := { heap := h3, gens := s'.gens, drawn := s'.drawn, toks := s'.toks, os := s'.os }) nb fl3.left (up.trans up3) os ag
    obtain ⟨oe3, vs3, he3, hz3, hd3⟩ := fl3.there
    have notFr : ∀ {h : Heap} {o : Obj} {vs : Array Value}, h.FunFrames B (X.env :: X.outer) → h.get? a = some o → o.data = .fields vs → a ∉ frs (X.env :: X.outer) := fun ff e dd hm => by
      obtain ⟨_, o', e', hnf⟩ := ff.mem hm
      rw [e] at e'
      cases e'
      exact hnf _ dd
    have nfr := notFr fl3.2.2.1 he3 hd3
    have nL : a ≠ X.env.locals := fun z => nfr (List.mem_filterMap.mpr ⟨X.env, List.mem_cons_self, by rw [hf, z]⟩)
    have nF : a ∉ X.fs := fun hm => by
      obtain ⟨e, he, q⟩ := List.mem_filterMap.mp hm
      exact nfr (List.mem_filterMap.mpr ⟨e, List.mem_cons_of_mem _ he, q⟩)
    have Ba : B.get? a = none := fl3.2.1
    have nfr' : a ∉ frs X.stack := by
      rw [hs]
      exact nfr
    have sIa : sI.heap.get? a = none := by
      cases e : sI.heap.get? a with
      | none => rfl
      | some o =>
        rw [nb a o e nfr'] at Ba
        cases Ba
    have h0 : X.s_0.heap.get? a = none := by
      cases e : X.s_0.heap.get? a with
      | none => rfl
      | some o =>
        obtain ⟨o', e'⟩ := J.base.there a o e (by rw [hex]; exact List.not_mem_nil)
        rw [sIa] at e'
        cases e'
    have hp : ∀ p ∈ X.pn ++ pins, p.1 ≠ a := fun p hpm z => by
      have := (J.pin p hpm).1
      rw [z, sIa] at this
      cases this
    have S3 := J3.suite he3 hd3 na nL nF
    have LT : ∀ (A : Around) (Q : Value → Shared → Prop) (E : Value → Shared → Prop) (s : Shared), (∀ b o, h3.get? b = some o → s.heap.get? b = some o) → Q cls s → wpAny (model X.prog X.w) A (typeOf (.ref a)) Q E s := fun A Q E s k q => wpAny_typeOf_ref (k a oe3 he3) (by rw [hz3.1]; exact q)
    refine wpAny_handleBy_cons (codeAny_handlers_test ?_) (by intro z; cases z)
    have LM := PySem.W.exm_one J3.kIn LT hb1
    have test : ∀ {Q : Value → Shared → Prop} {E : Value → Shared → Prop}, Q c { heap := h3, gens := s'.gens, drawn := s'.drawn, toks := s'.toks, os := s'.os } → wpAny (model X.prog X.w) (X.A.mark (some (.ref a))) (eval (.Name x np) X.env) Q E { heap := h3, gens := s'.gens, drawn := s'.drawn, toks := s'.toks, os := s'.os } := fun {Q E} q => by
      obtain ⟨hg, hdbg, hm | ⟨hm, hv, hnn⟩⟩ := hc
      · exact ld_glob (X := X.suite a ((a, oe3) :: (X.pn ++ pins))) S3 hg hm q hdbg
      · exact ld_blt (X := X.suite a ((a, oe3) :: (X.pn ++ pins))) S3 hg hm hv q hnn hdbg
    refine test (PySem.W.Looks.here LM ?_)
    refine codeAny_handlers_suite_as (HandSPX.lands_againZ fl3 fun h4 fl4 up4 => ?_)
    have J4 := J.landed (s' := { heap := h4, gens := s'.gens, drawn := s'.drawn, toks := s'.toks, os := s'.os }) nb fl4.left ((up.trans up3).trans up4) os ag
    obtain ⟨oe4, vs4, he4, hz4, hd4⟩ := fl4.there
    have S4 := J4.suite he4 hd4 na nL nF
    refine store_ok (X := X.suite a ((a, oe4) :: (X.pn ++ pins))) (v := .ref a) S4 hN hi hloc rfl (fun s5 S5 => ?_) (.inr hnl)
    have suite : PSs (X.suite a ((a, oe4) :: (X.pn ++ pins))) [.Assign [.Name y p1] (.Name n p2) p3] _ := pss_one (ps_asg (pe_var (i := i) hi (.inl hnl) hdb hcd) (pg_name (i := j) hN hj (.inl hyl) (.inr hyl)) hsw)
    have il : i < σ'.length := by
      rw [J.len]
      exact (List.getElem?_eq_some_iff.mp hi).1
    refine wpAny_mono (suite.run [] s5 (σ'.set i (some (.ref a))) H' { nx := fun σ6 H6 => σ6 = (σ'.set i (some (.ref a))).set j (some (.ref a)) ∧ H6 = H', rt := fun _ _ => False } S5 ⟨.ref a, by rw [List.getElem?_set_self il], rfl, rfl⟩) (fun f s6 hsp => ?_) fun e s' z => z.elim
    cases f with
    | next =>
      obtain ⟨σ6, H6, S6, rfl, rfl⟩ := hsp
      have he6 := (S6.pin (a, oe4) (List.mem_append_left _ List.mem_cons_self)).1
      have K6 := keep_inv (Inv.unsuite S6 ok) he6 hz4 hd4 na nL h0 hp
      exact gone_ok K6 hN hi hln fun s7 J7 => ⟨_, _, J7, hyes a na⟩
    | brk =>
      obtain ⟨_, _, _, z⟩ := hsp
      exact z.elim
    | cont =>
      obtain ⟨_, _, _, z⟩ := hsp
      exact z.elim
    | ret v =>
      obtain ⟨_, _, _, _, _, z⟩ := hsp
      exact z.elim
  · intro f s1 hsp
    cases f with
    | next =>
      obtain ⟨σ', H', J', q⟩ := hsp
      exact wpAny_execs_nil ⟨σ', H', J'.ofTry ok, q⟩
    | brk =>
      obtain ⟨σ', H', J', q⟩ := hsp
      exact ⟨σ', H', J'.ofTry ok, q⟩
    | cont =>
      obtain ⟨σ', H', J', q⟩ := hsp
      exact ⟨σ', H', J'.ofTry ok, q⟩
    | ret v =>
      obtain ⟨v', σ', H', J', r, q⟩ := hsp
      exact ⟨v', σ', H', J'.ofTry ok, r, q⟩
end Rw
namespace Rw
open PySem PySem.Spec PyProof.Rows L2
/-! ### what is asked of a kept error -/
open PySem.W in
theorem kin_classD {prog : Program} {w : World} {A : Around} {E : Value → Shared → Prop} {s : Shared} {K : PySem.W.Frag} {x D : Addr} {ox od : Obj} {Q : Option Value → Shared → Prop} (hga : PySem.W.findIn K (.ref D) "__getattribute__" = some (some (.builtin "BaseException.__getattribute__"))) (hgt : PySem.W.findIn K (.ref D) "__getattr__" = some none)
    (hsub : PySem.W.subIn K (.ref D) (.type "BaseException") = some true) (hdct : PySem.W.hasDictIn K D = true) (ha : PySem.W.findIn K (.ref D) "__class__" = some (some (.builtin "object.__class__"))) (hn : PySem.W.specialIn K (.builtin "object.__class__") "__get__" = some (some (.builtin "getset_descriptor.__get__"))) (htk : PySem.W.takesIn K (.builtin "object.__class__") = some true) (hm : PySem.W.mroIn K D (.type "object") = some true)
    (X : K.In s.heap) (I : PySem.W.InstAt s.heap x ox D (some od)) (h : Q (some (.ref D)) { heap := s.heap, gens := s.gens, drawn := s.drawn, toks := s.toks + 1, os := s.os }) : wpAny (model prog w) A (getAttr? (.ref x) "__class__") Q E s := by
  have hf := PySem.W.findObj_data (K := K) (C := D) (od := od) (by obtain ⟨cd, hc, _⟩ := PySem.W.any_some hdct; rw [hc]; rfl) ha hn htk
  obtain ⟨hp, g, d, t, os⟩ := s
  have L0 := PySem.W.InstAt.type (M := model prog w) I
  have L1 := PySem.W.looks_findIn (M := model prog w) X hga
  have L2 := PySem.W.looks_findIn (M := model prog w) X hgt
  have L3 := PySem.W.looks_find (M := model prog w) X I hf
  have sub : PySem.W.Looks (model prog w) hp (typeOf (.ref x) >>= fun t => isSubtype t (.type "BaseException")) true := PySem.W.Looks.andThen L0 (PySem.W.looks_subIn X hsub)
  unfold getAttr?
  refine wpAny_bind (wpAny_mkText (wpAny_bind (wpAny_attempt (wpAny_holding ?_))))
  refine wpAny_bind (PySem.W.Looks.at L0 (wpAny_bind (PySem.W.Looks.at L1 ?_)))
  have c1 : (onTheHeap (Value.ref D) && (Value.builtin "BaseException.__getattribute__" == Value.builtin "object.__getattribute__")) = false := by
    rw [show (Value.builtin "BaseException.__getattribute__" == Value.builtin "object.__getattribute__") = false by decide]
    rfl
  show wpAny _ _ (if (onTheHeap (Value.ref D) && (Value.builtin "BaseException.__getattribute__" == Value.builtin "object.__getattribute__")) = true then _ else _) _ _ _
  rw [c1, if_neg Bool.false_ne_true]
  unfold getAttrByItsOwn
  refine wpAny_bind ?_
  unfold hookBefore
  rw [if_pos (show onTheHeap (Value.ref D) = true from rfl)]
  refine PySem.W.Looks.at L2 (wpAny_bind (wpAny_attempt (wpAny_holding ?_)))
  unfold callGetattribute
  rw [if_neg (show ¬ ((false && onTheHeap (Value.builtin "BaseException.__getattribute__")) = true) from Bool.false_ne_true)]
  unfold boundAndCalled
  rw [F.excAttr_ValueError.ga.bind (Value.ref x)]
  refine wpAny_bind (wpAny_pure ?_)
  show wpAny _ _ (call (Value.builtin "BaseException.__getattribute__") [.ref x, .str "__class__" t]) _ _ _
  refine wpAny_call ?_
  refine codeAny_call_builtin (id := "BaseException.__getattribute__") (b := Builtin.«object.__getattribute__») F.excAttr_ValueError.ga.plain F.entry_bexc_ga ?_
  refine PySem.W.check_slot (i := "BaseException.__getattribute__") (owner := "BaseException") (n := "__getattribute__") (self := .ref x) (rest := [.str "__class__" t]) (kw := []) PySem.W.kin_classE._proof_2 PySem.W.kin_classE._proof_3 sub (F.args_bexc_ga (.ref x) (.str "__class__" t)) ?_
  unfold Builtin.«object.__getattribute__»
  refine wpAny_bind ?_
  refine wpAny_of_eq (a := (Value.ref x, [Value.str "__class__" t])) rfl ?_
  refine wpAny_bind (wpAny_pure (wpAny_bind (PySem.W.Looks.at L0 (wpAny_bind (PySem.W.Looks.at L3 ?_)))))
  unfold Builtin.ObjectAttr.bindTo
  refine wpAny_bind (wpAny_holding (wpAny_call (PySem.W.class_get X I hm (wpAny_pure ?_))))
  show wpAny (model prog w) A (handedOut (.ref D)) _ _ _
  rw [PySem.W.handedOut_of rfl]
  exact wpAny_pure (wpAny_pure h)
theorem cls_at {K : PySem.W.Frag} {D : Addr} (h : PySem.W.hasDictIn K D = true) : ∃ o cd, K.lookup D = some o ∧ o.data = .cls cd := by
  obtain ⟨cd, hc, _⟩ := PySem.W.any_some h
  unfold PySem.W.clsIn at hc
  split at hc
  · rename_i heq
    exact ⟨_, _, heq, rfl⟩
  · cases hc
theorem kitx_excD {K : PySem.W.Frag} {x D : Addr} {ox od : Obj} (C : ExcC K D) : PySem.W.KitX K (.ref x) (.ref D) (fun h => PySem.W.InstAt h x ox D (some od)) := by
  obtain ⟨⟨cl, dc, da, sl⟩, cd, ho, hd⟩ := cls_at C.hd
  refine ⟨fun M h X I => PySem.W.InstAt.type I, fun M h X _ => ?_, fun h tp dd its n sl' X htp => ?_, fun X I k => kin_classD C.hg C.hk C.hs C.hd C.ha C.hn C.ht C.hm X I k⟩
  · subst hd
    intro A' Q' E' s' k q
    exact wpAny_bind (wpAny_loadPart (k D _ (X D _ ho)) (wpAny_pure q))
  · refine Bool.eq_false_iff.mpr fun q => ?_
    have e := Value.ref.inj (beq_iff_eq.mp q)
    subst e
    have z := (X D _ ho).symm.trans htp
    cases z
    cases hd
/-- isinstance(caught, C): None, or a kept error -/
def rIsH (K : PySem.W.Frag) : List V → Hp → VK → Prop := fun xs H Q => ∃ (x c : V) (u : Value), xs = [x, c] ∧ (∀ v, RelV c v → v = u) ∧
  ((x = .non ∧ ∃ b, PySem.W.kitOne K (.type "NoneType") u = some b ∧ Q (.bl b) H) ∨
   (∃ (a D dd : Addr) (fs : List (Str × V)) (b : Bool), x = .ref a ∧ H a = some (ExH (.ref D) (some dd) a) ∧ H dd = some (.xd fs) ∧ ExcC K D ∧ PySem.W.kitOne K (.ref D) u = some b ∧ Q (.bl b) H))
theorem call_isH {X : Cx} : CallR X (.builtin "isinstance") (rIsH X.K) := by
  intro pins s σ H xs us Q I r h
  obtain ⟨x, c, u, rfl, hu, h⟩ := h
  cases r with
  | cons r1 r2 =>
    cases r2 with
    | cons r2 r3 =>
      cases r3
      obtain rfl := hu _ r2
      rcases h with ⟨rfl, b, hk, q⟩ | ⟨a, D, dd, fs, b, rfl, ha, hd, C, hk, q⟩
      · cases r1
        exact PySem.W.kia_one PySem.W.kitx_none I.kIn trivial hk (fun z => nomatch z) fun tk => ⟨.bl b, H, I.tok _, rfl, q⟩
      · obtain ⟨oe, vs, hget, hz, hdat⟩ := (I.hok a _ ha).1
        obtain ⟨mA, hns, hr⟩ := I.hok dd _ hd
        obtain ⟨od, ho, hl⟩ := lookIn_ns hns
        have J : PySem.W.InstAt s.heap a oe D (some od) := ⟨hget, hz.1, by unfold PySem.W.notCls; rw [hdat] <;> rfl, by rw [hz.2]; exact ho⟩
        rw [show _ = Value.ref a from r1]
        exact PySem.W.kia_one (kitx_excD C) I.kIn J hk (fun z => nomatch z) fun tk => ⟨.bl b, H, I.tok _, rfl, q⟩
/-- caught.n -/
def tFldH (C : Addr) (n : Str) (te : TE) : TE := fun σ H Q => te σ H fun x H1 => ∃ (a dd : Addr) (fs : List (Str × V)) (v : V), x = .ref a ∧ H1 a = some (ExH (.ref C) (some dd) a) ∧ H1 dd = some (.xd fs) ∧ fs.lookup n = some v ∧ Q v H1
theorem pe_fldH {X : Cx} {C : Addr} {e : Expr} {te : TE} {pos : Pos} {n : Str} (T : XfC X.K C) (hno : PySem.W.findIn X.K (.ref C) n = some none) (he : PE X e te) (hb : attributeBase e n X.env (eval e X.env) = eval e X.env := by rfl) : PE X (.Attribute e n pos) (tFldH C n te) := by
  refine ⟨fun pins s σ H Q I h => attr_of hb (thn (he.run pins s σ H _ I h) fun u s1 ⟨x, H1, I1, rx, a, dd, fs, v, ex, ha, hdd, l, q⟩ => ?_)⟩
  subst ex
  obtain rfl : u = Value.ref a := rx
  obtain ⟨oe, vs, hget, hz, hdat⟩ := (I1.hok a _ ha).1
  obtain ⟨mA, hns, hr⟩ := I1.hok dd _ hdd
  obtain ⟨od, ho, hl⟩ := lookIn_ns hns
  obtain ⟨u, hu, ru⟩ := RelO.some_of (v := v) (o := mA n) (by rw [← l]; exact hr n)
  have J : PySem.W.InstAt s1.heap a oe C (some od) := ⟨hget, hz.1, by unfold PySem.W.notCls; rw [hdat] <;> rfl, by rw [hz.2]; exact ho⟩
  exact HandSPX.exc_get I1.kIn J T.ga T.gg T.exC (PySem.W.findObj_own T.hdC hno rfl (by rw [hl, hu])) (handed_of ru) ⟨v, H1, I1.tok _, ru, q⟩
end Rw
namespace Rw
open PySem PySem.Spec PyProof.Rows L2
/-! ### own errors with one field -/
/-- __init__(self, n): self.n = n -/
def spErr (C : Addr) (n : Str) : Sp := fun vs H Q _ => ∃ (a : Addr) (v : V), vs = [.ref a, v] ∧ H a = some (exo a C none) ∧ ∀ dx, H dx = none → dx ≠ a → Q .non (upd (upd H dx (exd dx [(n, v)])) a (exo a C (some dx)))
/-- C(v) made: what its making asks -/
theorem err_made {C : Addr} {n : Str} {v : V} {H1 : Hp} {Q : XK} (h : ∀ d, H1 d = none → Q (.ref C) (some d) (upd H1 d (.xd [(n, v)]))) : [v].length ≤ 1000 ∧ ∀ a : Addr, H1 a = none → spErr C n (.ref a :: ([v] ++ [])) (upd H1 a (exo a C none))
    (fun u H2 => u = .non ∧ ∃ d fs, H2 a = some (exo a C (some d)) ∧ H2 d = some (exd d fs) ∧ H1 d = none ∧ Q (.ref C) (some d) (upd (del H2 a) d (.xd fs))) (fun _ _ _ => False) := by
  refine ⟨by simp, fun a ha => ⟨a, v, rfl, upd_same, fun dx hdx ne => ?_⟩⟩
  have hd1 : H1 dx = none := by
    rw [upd_ne ne] at hdx
    exact hdx
  refine ⟨rfl, dx, [(n, v)], upd_same, ?_, hd1, ?_⟩
  · rw [upd_ne ne, upd_same]
  · have e : upd (del (upd (upd (upd H1 a (exo a C none)) dx (exd dx [(n, v)])) a (exo a C (some dx))) a) dx (.xd [(n, v)]) = upd H1 dx (.xd [(n, v)]) := by
      funext b
      by_cases h1 : b = dx
      · subst h1
        rw [upd_same, upd_same]
      · rw [upd_ne h1, upd_ne h1]
        by_cases h2 : b = a
        · subst h2
          unfold del
          rw [ha]
          simp
        · unfold del
          rw [if_neg h2, upd_ne h2, upd_ne h1, upd_ne h2]
    rw [e]
    exact h dx hd1
end Rw
namespace Rw
open PySem PySem.Spec PyProof.Rows L2
/-! ### a head that tells of defs anywhere, and more -/
/-! ### what a class is, as a test -/
theorem clsB_ok {K : PySem.W.Frag} {C : Addr} {f : List Value → Addr → Bool → Bool} {nid : String} (h : clsB K C f nid = true) : ∃ nm q N bs bm hd sn sub ab col dd k0 k1 k2 k3 k5, K.lookup C = some (excClassObj nm q C N bs bm hd sn sub ab col dd k0 k1 k2 k3 k5 nid) ∧ f bm N hd = true := by
  unfold clsB at h
  split at h
  · rename_i t dd cd sl e
    rw [Bool.and_eq_true, Bool.and_eq_true, Bool.and_eq_true] at h
    obtain ⟨h1, h2, h3, h4⟩ := h
    obtain ⟨h1, h0⟩ := of_decide_eq_true h1
    have h2 := of_decide_eq_true h2
    split at h4
    · rename_i k0 k1 k2 k3 i k5
      have h4 := of_decide_eq_true h4
      subst h1 h4
      obtain ⟨nm, bs, mro, ns, q, hd, sn, sub, ab, col, del⟩ := cd
      refine ⟨nm, q, ns, bs, mro.tail, hd, sn, sub, ab, col, dd, k0, k1, k2, k3, k5, ?_, h3⟩
      rw [e]
      have h2' : mro = .ref C :: mro.tail := h2
      have h0' : del = false := h0
      subst h0'
      unfold excClassObj
      rw [← h2']
    · exact nomatch h4
  · exact nomatch h
def strKeysB (es : Array DictEntry) : Bool := es.toList.all fun e => match e.key with | .str _ _ => true | _ => false
theorem strKeysB_ok {es : Array DictEntry} (h : strKeysB es = true) : StrKeys es := fun e he => by
  have z := List.all_eq_true.mp h e (Array.mem_toList_iff.mpr he)
  split at z
  · exact ⟨_, _, by assumption⟩
  · exact nomatch z
def nsB (K : PySem.W.Frag) (N g : Addr) : Bool :=
  match K.lookup N with
  | some ⟨_, _, .dict es _, _⟩ => strKeysB es && (decide (nsFind es "__eq__" = some (.ref g)) && decide (nsFind es "__ne__" = none))
  | _ => false
def fnB (K : PySem.W.Frag) (g : Addr) : Bool :=
  match K.lookup g with
  | some o => decide (o.cls = .type "function")
  | none => false
theorem neC_of {K : PySem.W.Frag} {C g : Addr} (h1 : clsB K C (fun bm N _ => decide (bm = [.type "object"]) && nsB K N g) "object.__new__" = true) (h2 : fnB K g = true) : NeC K C g := by
  obtain ⟨nm, q, N, bs, bm, hd, sn, sub, ab, col, dd, k0, k1, k2, k3, k5, e, hf⟩ := clsB_ok h1
  rw [Bool.and_eq_true] at hf
  obtain ⟨f1, f2⟩ := hf
  have f1 := of_decide_eq_true f1
  subst f1
  constructor
  · unfold nsB at f2
    split at f2
    · rename_i oc od es ep os eN
      rw [Bool.and_eq_true, Bool.and_eq_true] at f2
      obtain ⟨g1, g2, g3⟩ := f2
      exact ⟨nm, q, N, bs, hd, sn, sub, ab, col, dd, k0, k1, k2, k3, k5, "object.__new__", _, es, ep, e, eN, rfl, strKeysB_ok g1, of_decide_eq_true g2, of_decide_eq_true g3⟩
    · exact nomatch f2
  · unfold fnB at h2
    split at h2
    · exact ⟨_, by assumption, of_decide_eq_true h2⟩
    · exact nomatch h2
/-- an own error class, by tests -/
theorem oexB_ok {K : PySem.W.Frag} {C : Addr} (h : oexB K C = true) : OexC K C := by
  unfold oexB at h
  rw [Bool.and_eq_true, Bool.and_eq_true, Bool.and_eq_true, Bool.and_eq_true] at h
  obtain ⟨h1, h2, h3, h4, h5⟩ := h
  obtain ⟨nm, q, N, bs, bm, hd, sn, sub, ab, col, dd, k0, k1, k2, k3, k5, e, hf⟩ := clsB_ok h1
  rw [Bool.and_eq_true] at hf
  obtain ⟨f1, f2⟩ := hf
  subst f1
  exact ⟨⟨nm, q, N, bs, bm, sn, sub, ab, col, dd, k0, k1, k2, k3, k5, e, f2⟩, of_decide_eq_true h2, of_decide_eq_true h3, of_decide_eq_true h4, h5⟩
theorem excP_ok {K : PySem.W.Frag} {D : Addr} (h : excP K D) : ExcC K D := by
  obtain ⟨h1, h2, h3, h4, h5, h6, h7, h8⟩ := h
  exact ⟨h1, h2, h3, h4, h5, h6, h7, h8⟩
theorem propP_ok {K : PySem.W.Frag} {C : Addr} {f : Str} (h : propP K C f) (r : recB K (He.ma K C f) "property" = true) : PropOf K C f (He.ma K C f) (He5.wf K C "property" f) := by
  obtain ⟨h1, h2, h3⟩ := h
  refine ⟨h1, h2, h3, ?_⟩
  unfold recB at r
  unfold He5.wf
  split at r
  · rename_i a l e
    rw [e]
    exact ⟨_, rfl⟩
  · exact nomatch r
end Rw
namespace Rw
open PySem PySem.Spec PyProof.Rows L2
/-! ### the text -/
theorem scIsName : FnScope ["thing", "letter"] ["thing"] (defScope sIsName) := ⟨rfl, rfl, rfl, by decide +kernel, rfl, by decide +kernel, by decide +kernel⟩
theorem scIsWorld : FnScope ["thing"] ["thing"] (defScope sIsWorld) := ⟨rfl, rfl, rfl, by decide +kernel, rfl, by decide +kernel, by decide +kernel⟩
theorem scIsRule : FnScope ["thing", "part"] ["thing"] (defScope sIsRule) := ⟨rfl, rfl, rfl, by decide +kernel, rfl, by decide +kernel, by decide +kernel⟩
theorem scAreNames : FnScope ["thing", "item"] ["thing"] (defScope sAreNames) := ⟨rfl, rfl, rfl, by decide +kernel, rfl, by decide +kernel, by decide +kernel⟩
theorem scSetOf : FnScope ["names"] ["names"] (defScope sSetOf) := ⟨rfl, rfl, rfl, by decide +kernel, rfl, by decide +kernel, by decide +kernel⟩
theorem scInit : FnScope ["self", "rules", "place", "row"] ["self", "rules"] (defScope sInit) := ⟨rfl, rfl, rfl, by decide +kernel, rfl, by decide +kernel, by decide +kernel⟩
theorem scOf : FnScope ["cls", "rules"] ["cls", "rules"] (defScope sOf) := ⟨rfl, rfl, rfl, by decide +kernel, rfl, by decide +kernel, by decide +kernel⟩
theorem scRules : FnScope ["self"] ["self"] (defScope sRules) := ⟨rfl, rfl, rfl, by decide +kernel, rfl, by decide +kernel, by decide +kernel⟩
/-- the built-in names that the text does not bind -/
structure Bl (mg : Str → Option Value) : Prop where
  len : mg "len" = none
  isi : mg "isinstance" = none
  all : mg "all" = none
  any : mg "any" = none
  tuple : mg "tuple" = none
  list : mg "list" = none
  sorted : mg "sorted" = none
  set : mg "set" = none
  str : mg "str" = none
  int : mg "int" = none
  max : mg "max" = none
  min : mg "min" = none
  range : mg "range" = none
  enum : mg "enumerate" = none
/-! ### odd values -/
def nameD : PyData → Bool
  | .str x => nameB x
  | _ => false
def oddN : PyData → Prop
  | .str x => x.cps.size ≤ 10000
  | .bool _ => False
  | .dict _ => False
  | _ => True
def tyName : PyData → String
  | .none => "NoneType"
  | .bool _ => "bool"
  | .int _ => "int"
  | .str _ => "str"
  | .list _ => "list"
  | .tuple _ => "tuple"
  | .dict _ => "dict"
theorem tyx_dp {K : PySem.W.Frag} {H : Hp} {x : V} {d : PyData} (h : Dp K H x d) : TyX K H x (.type (tyName d)) := by
  cases h with
  | non => exact .base .non
  | bl b => exact .base (.bl b)
  | int i => exact .base (.int i)
  | str x => exact .base (.str x)
  | lst h1 _ =>
    rcases h1 with (h | ⟨o, h⟩) | ⟨o, its, n, h1, h2, _⟩
    · exact .base (.lst h)
    · exact .base (.frz h)
    · exact .kList h1 h2
  | tup h1 _ => exact tyx_tup h1
section
variable {K : PySem.W.Frag} {H H' : Hp}
mutual
theorem dp_same (e : Same H H') : ∀ (d : PyData) (x : V), Dp K H x d → Dp K H' x d
  | .none, _, h => by cases h; exact .non
  | .bool _, _, h => by cases h; exact .bl _
  | .int _, _, h => by cases h; exact .int _
  | .str _, _, h => by cases h; exact .str _
  | .list ds, _, h => by
    cases h with
    | lst h1 h2 => exact .lst (e.seq h1) (dpAll_same e ds _ h2)
  | .tuple ds, _, h => by
    cases h with
    | tup h1 h2 => exact .tup (same_tup e h1) (dpAll_same e ds _ h2)
  | .dict _, _, h => by cases h
theorem dpAll_same (e : Same H H') : ∀ (ds : List PyData) (xs : List V), DpAll K H xs ds → DpAll K H' xs ds
  | [], _, h => by cases h; exact .nil
  | d :: ds, _, h => by
    cases h with
    | cons h1 h2 => exact .cons (dp_same e d _ h1) (dpAll_same e ds _ h2)
end
end
theorem letter_in {c : Nat} : decide (c ∈ lettersS.cps.toList) = letter c := by
  cases h : letter c with
  | true => exact decide_eq_true (in_letters h)
  | false =>
    refine decide_eq_false fun m => ?_
    have all : (lettersS.cps.toList.all letter) = true := by decide +kernel
    rw [List.all_eq_true.mp all c m] at h
    exact nomatch h
section
variable {P : Program} {w : World} {K : PySem.W.Frag} {mg : Str → Option Value} {base : Heap} {f : Addr} {fd : FuncData} {k : Nat}
/-! ### is_name -/
def spIsName (K : PySem.W.Frag) : Sp := fun vs H Q _ => ∃ (x : V) (d : PyData), vs = [x] ∧ Dp K H x d ∧ oddN d ∧ ∀ H', Same H H' → Q (.bl (nameD d)) H'
theorem ok_isName (F : Fun K "is_name" "is_name" sIsName f fd) (T : Bl mg) (mL : ∃ t, mg "LETTERS" = some (.str lettersS t)) : FnOk P w K mg base CX0 (k + 1) f fd ["thing"] (spIsName K) := by
  refine F.ok scIsName (fun vs H Q E h => ?_) (fun cdv A outer s H vs Q E hr h => ?_)
  · obtain ⟨x, d, rfl, _⟩ := h
    rfl
  obtain ⟨x, d, rfl, hd, odd, q⟩ := h
  obtain ⟨tl, mL⟩ := mL
  refine ⟨_, pss_cons (ps_if (PW.pt (pw_or (pt_not (pt_val (pe_callB call_isi (by rfl) T.isi PyProof.Rows.boot_isinstance (pa_cons (pv 0) (pa_cons (pe_bltn (v := .ty "str") (by rfl) T.str (by decide +kernel) rfl) pa_nil)))))
      (pw_or1 (pt_cmpR op_eq (pv 0) pe_str (nomark _))))) (pss_one (ps_ret pe_bl)) pss_nil)
    (pss_one (ps_ret (pe_and (pe_chain op_le op_le pe_int (pe_callB call_len_str (by rfl) T.len PySem.boot_len (pa_cons (pv 0) pa_nil)) pe_int)
      (pe_one (pe_callB (cr_all rfl) (by rfl) T.all (by decide +kernel) (pa_cons (pe_lc (own := [("letter", 1)]) (g := gName 1) (by rfl) scIsName.nd (pi_str (pv 0)) (blkOk_by (N := ["thing", "letter"]) (sc := defScope sIsName) (by decide +kernel))
        (fun _ _ _ _ _ => pg_name (i := 1) scIsName.nd rfl (Or.inl rfl)) (fun _ _ _ _ _ => pts_nil) (fun _ _ _ _ _ => pe_cmpR op_in_sign (pv 1) (pe_glob (v := .str lettersS) (by rfl) mL ⟨_, rfl⟩) (by rfl))) pa_nil)))))), ?_⟩
  have cases' : (∃ t : String, TyX K H x (.type t) ∧ PySem.W.kitOne K (.type t) (.type "str") = some false ∧ nameD d = false) ∨ ∃ z, d = .str z := by
    have ty := tyx_dp hd
    cases d with
    | none => exact .inl ⟨"NoneType", ty, kit_ty (by decide +kernel), rfl⟩
    | bool _ => exact absurd odd id
    | dict _ => exact absurd odd id
    | int i => exact .inl ⟨"int", ty, kit_ty (by decide +kernel), rfl⟩
    | list ds => exact .inl ⟨"list", ty, kit_ty (by decide +kernel), rfl⟩
    | tuple ds => exact .inl ⟨"tuple", ty, kit_ty (by decide +kernel), rfl⟩
    | str z => exact .inr ⟨z, rfl⟩
  rcases cases' with ⟨t, h1, h2, h3⟩ | ⟨z, rfl⟩
  · refine ⟨x, rfl, x, .ty "str", .type t, .type "str", false, rfl, .ty "str", h1, h2, false, rfl, iteT ?_⟩
    have := q H fun _ _ e => e
    rw [h3] at this
    exact this
  · cases hd
    have few : z.cps.size ≤ 10000 := odd
    refine ⟨.str z, rfl, .str z, .ty "str", .type "str", .type "str", true, rfl, .ty "str", .base (.str z), kit_ty (by decide +kernel), true, rfl, ?_⟩
    refine ⟨.str z, rfl, rfl, _, rfl, ?_⟩
    refine ite2 (fun e => ?_) (fun e => ?_)
    · have ez : z = notS := V.str.inj (of_decide_eq_true e)
      have en : nameB z = false := by
        rw [ez]
        decide +kernel
      have := q H fun _ _ e => e
      rw [show nameD (.str z) = nameB z from rfl, en] at this
      exact this
    · have nz : z ≠ notS := fun h => e (decide_eq_true (by rw [h]; rfl))
      have val : nameB z = (decide (1 ≤ z.cps.size) && (decide (z.cps.size ≤ 8) && z.cps.toList.all letter)) := by
        unfold nameB
        rw [decide_eq_false nz]
        cases z.cps.toList.all letter <;> cases decide (1 ≤ z.cps.size) <;> cases decide (z.cps.size ≤ 8) <;> rfl
      have q' : ∀ H', Same H H' → Q (.bl (decide (1 ≤ z.cps.size) && (decide (z.cps.size ≤ 8) && z.cps.toList.all letter))) H' := fun H' s => by
        have := q H' s
        rw [show nameD (.str z) = nameB z from rfl, val] at this
        exact this
      refine ⟨.str z, rfl, z, rfl, small_line few, 1, z.length, rfl, rfl, decide ((1 : Int) ≤ (z.length : Int)), rfl, ite2 (fun e1 => ?_) (fun e1 => ?_)⟩
      · have h1 : decide (1 ≤ z.cps.size) = true := by
          have := of_decide_eq_true e1
          exact decide_eq_true (by have : (1 : Int) ≤ (z.cps.size : Int) := this; omega)
        rw [h1] at q'
        refine ⟨z.length, 8, rfl, rfl, decide ((z.length : Int) ≤ 8), rfl, ite2 (fun e2 => ?_) (fun e2 => ?_)⟩
        · have h2 : decide (z.cps.size ≤ 8) = true := by
            have := of_decide_eq_true e2
            exact decide_eq_true (by have : (z.cps.size : Int) ≤ 8 := this; omega)
          rw [h2] at q'
          refine ⟨.str z, rfl, z, rfl, fun D hD => ?_⟩
          have s1 : Same H (upd H D (.lst [])) := same_new hD _
          refine lc_sgn (x := z) (fun i H1 => Same H H1 ∧ H1 D = some (.lst ((z.cps.toList.take i).map fun c => V.bl (letter c)))) ⟨s1, upd_same⟩ (fun i c H1 hc hI => ?_) (fun H1 hI => ?_)
          · obtain ⟨sm, hd⟩ := hI
            have hc' : z.cps.toList[i]? = some c := by rw [Array.getElem?_toList]; exact hc
            have il : i < z.cps.size := (Array.getElem?_eq_some_iff.mp hc).1
            refine ⟨rfl, .str ⟨#[c]⟩, rfl, c, lettersS, rfl, rfl, ?_⟩
            rw [letter_in]
            refine ⟨_, hd, small_line' (by rw [List.length_map, List.length_take, Array.length_toList]; omega), same_put sm hD, ?_⟩
            rw [upd_same, take_snoc hc', List.map_append]
            rfl
          · obtain ⟨sm, hd⟩ := hI
            rw [show z.cps.size = z.cps.toList.length by rw [Array.length_toList], List.take_length] at hd
            refine ⟨D, z.cps.toList.map letter, rfl, SqL.of (by rw [List.map_map]; exact hd), ?_⟩
            have eq : (z.cps.toList.map letter).all id = z.cps.toList.all letter := by
              rw [List.all_map]
              rfl
            rw [eq]
            exact q' H1 sm
        · have h2 : decide (z.cps.size ≤ 8) = false := decide_eq_false fun h => e2 (decide_eq_true (by show (z.cps.size : Int) ≤ 8; omega))
          rw [h2] at q'
          exact q' H fun _ _ e => e
      · have h1 : decide (1 ≤ z.cps.size) = false := decide_eq_false fun h => e1 (decide_eq_true (by show (1 : Int) ≤ (z.cps.size : Int); omega))
        rw [h1] at q'
        exact ⟨false, rfl, iteF (q' H fun _ _ e => e)⟩
end
end Rw
namespace Rw
open PySem PySem.Spec PyProof.Rows L2
/-! ### worlds of odd values -/
def strOf : PyData → Str
  | .str x => x
  | _ => notS
theorem strs_of : ∀ {ds : List PyData}, ds.all nameD = true → ds = (ds.map strOf).map PyData.str ∧ ∀ x ∈ ds.map strOf, nameB x = true
  | [], _ => ⟨rfl, fun x hx => nomatch hx⟩
  | d :: ds, h => by
    rw [List.all_cons, Bool.and_eq_true] at h
    obtain ⟨h1, h2⟩ := h
    obtain ⟨e, hn⟩ := strs_of h2
    cases d with
    | str x =>
      refine ⟨by rw [List.map_cons, List.map_cons, ← e]; rfl, fun y hy => ?_⟩
      rw [List.map_cons] at hy
      rcases List.mem_cons.mp hy with z | hy
      · rw [z]
        exact h1
      · exact hn y hy
    | _ => exact absurd h1 (by simp [nameD])
instance (ns : W) : Decidable (UpX ns) := inferInstanceAs (Decidable (ns.Pairwise fun a b => a.cps.toList < b.cps.toList))
def worldD : PyData → Bool
  | .tuple ds => ds.all nameD && decide (UpX (ds.map strOf))
  | _ => false
def oddW : PyData → Prop
  | .tuple ds => (∀ d ∈ ds, oddN d) ∧ ds.length ≤ 40
  | .bool _ => False
  | .dict _ => False
  | _ => True
theorem worldD_wd {ns : W} (h : IsW ns) : worldD (wd ns) = true := by
  unfold worldD wd
  have e1 : ((ns.map PyData.str).all nameD) = true := by
    rw [List.all_map, List.all_eq_true]
    exact fun x hx => h.names x hx
  have e2 : (ns.map PyData.str).map strOf = ns := by
    rw [List.map_map]
    exact List.map_id' ns
  show ((ns.map PyData.str).all nameD && decide (UpX ((ns.map PyData.str).map strOf))) = true
  rw [e1, e2, decide_eq_true h.up]
  rfl
theorem worldD_of {d : PyData} (o : oddW d) (h : worldD d = true) : ∃ ns, IsW ns ∧ d = wd ns := by
  cases d with
  | tuple ds =>
    have h' : (ds.all nameD && decide (UpX (ds.map strOf))) = true := h
    rw [Bool.and_eq_true] at h'
    obtain ⟨h1, h2⟩ := h'
    obtain ⟨e, hn⟩ := strs_of h1
    refine ⟨ds.map strOf, ⟨hn, of_decide_eq_true h2, by rw [List.length_map]; exact o.2⟩, ?_⟩
    unfold wd
    rw [← e]
  | _ => exact nomatch h
theorem oddN_name {x : Str} (h : nameB x = true) : oddN (.str x) := by
  obtain ⟨_, _, h3, _⟩ := nameB_iff.mp h
  show x.cps.size ≤ 10000
  omega
theorem oddW_wd {ns : W} (h : IsW ns) : oddW (wd ns) := ⟨fun d hd => by
  obtain ⟨x, hx, rfl⟩ := List.mem_map.mp hd
  exact oddN_name (h.names x hx), by rw [List.length_map]; exact h.few⟩
theorem shaped_names {ns : W} (h : ∀ x ∈ ns, nameB x = true) : SeqAt.shaped (wd ns) = true := shaped_of (lay_wd h) (by rw [depth_wd]; decide)
section
variable {P : Program} {w : World} {K : PySem.W.Frag} {mg : Str → Option Value} {base : Heap} {f : Addr} {fd : FuncData} {k : Nat}
def spAreNames (K : PySem.W.Frag) : Sp := fun vs H Q _ => ∃ (a : Addr) (xs : List V) (ds : List PyData), vs = [.ref a] ∧ SqT K H a xs ∧ DpAll K H xs ds ∧ (∀ d ∈ ds, oddN d) ∧ ds.length ≤ 1000 ∧ ∀ H', Same H H' → Q (.bl (ds.all nameD)) H'
theorem ok_areNames {f1 : Addr} {fd1 : FuncData} (F : Fun K "_are_names" "_are_names" sAreNames f fd) (T : Bl mg) (G : FnOk P w K mg base CX0 k f1 fd1 ["thing"] (spIsName K)) (b1 : Binds K fd1 ["thing"] []) (k1 : PySem.W.keepIn K (.ref f1) = true) (m1 : mg "is_name" = some (.ref f1)) :
    FnOk P w K mg base CX0 (k + 1) f fd ["thing"] (spAreNames K) := by
  refine F.ok scAreNames (fun vs H Q E h => ?_) (fun cdv A outer s H vs Q E hr h => ?_)
  · obtain ⟨a, xs, ds, rfl, _⟩ := h
    rfl
  obtain ⟨a, xs, ds, rfl, hS, hx, odd, few, q⟩ := h
  have xl := dpAll_len hx
  refine ⟨_, pss_one (ps_ret (pe_and (pe_isiTL (pv 0) (by rfl) T.isi (pa_cons (pe_bltn (v := .ty "tuple") (by rfl) T.tuple (by decide +kernel) rfl) (pa_cons (pe_bltn (v := .ty "list") (by rfl) T.list (by decide +kernel) rfl) pa_nil)))
      (pe_one (pe_callB (cr_all rfl) (by rfl) T.all (by decide +kernel) (pa_cons (pe_lc (own := [("item", 1)]) (g := gName 1) (by rfl) scAreNames.nd (pi_tup (pv 0)) (blkOk_by (N := ["thing", "item"]) (sc := defScope sAreNames) (by decide +kernel))
        (fun _ _ _ _ _ => pg_name (i := 1) scAreNames.nd rfl (Or.inl rfl)) (fun _ _ _ _ _ => pts_nil) (fun _ _ _ _ _ => pe_call G hr (by rfl) m1 k1 b1 .nil pass0 (pa_cons (pv 1) pa_nil))) pa_nil))))), ?_⟩
  refine ⟨.ref a, rfl, ⟨a, _, rfl, hS⟩, fun T0 hT => ⟨true, rfl, iteT ?_⟩⟩
  have s0 : Same H (upd H T0 (.tup [.ty "tuple", .ty "list"])) := same_new hT _
  generalize upd H T0 (.tup [.ty "tuple", .ty "list"]) = H0 at s0 ⊢
  refine ⟨.ref a, rfl, a, rfl, ⟨_, same_tup s0 hS⟩, fun D hD => ?_⟩
  have s1 : Same H0 (upd H0 D (.lst [])) := same_new hD _
  refine lc_tup (xs := xs) (fun i H1 => Same H0 H1 ∧ H1 D = some (.lst ((ds.take i).map fun d => V.bl (nameD d)))) ⟨s1, upd_same⟩ (fun i H1 _ hI => same_tup (s0.trans hI.1) hS) (fun i x H1 hxi hI => ?_) (fun H1 hI => ?_)
  · obtain ⟨sm, hd⟩ := hI
    obtain ⟨d, hdi, hxd⟩ := dpAll_at' hx hxi
    have il : i < ds.length := (List.getElem?_eq_some_iff.mp hdi).1
    refine ⟨rfl, x, rfl, x, d, rfl, dp_same (s0.trans sm) _ _ hxd, odd d (List.mem_of_getElem? hdi), fun H2 sm2 => ⟨_, sm2 _ _ hd, small_line' (by rw [List.length_map, List.length_take]; omega), same_put (sm.trans sm2) hD, ?_⟩⟩
    rw [upd_same, take_snoc hdi, List.map_append]
    rfl
  · obtain ⟨sm, hd⟩ := hI
    rw [xl, List.take_length] at hd
    refine ⟨D, ds.map nameD, rfl, SqL.of (by rw [List.map_map]; exact hd), ?_⟩
    have z : (ds.map nameD).all id = ds.all nameD := by
      rw [List.all_map]
      rfl
    rw [z]
    exact q H1 (s0.trans sm)
/-! ### _set_of -/
def spSetOf (K : PySem.W.Frag) : Sp := fun vs H Q _ => ∃ (a : Addr) (ns : W), vs = [.ref a] ∧ (SqL K H a (ns.map V.str) ∨ SqT K H a (ns.map V.str)) ∧ ns.length < 1000 ∧ ∀ (H' : Hp) (p : Addr) (zs : W), Same H H' → H' p = some (.tup (zs.map V.str)) → UpX zs → (∀ z, z ∈ zs ↔ z ∈ ns) → Q (.ref p) H'
theorem ok_setOf (F : Fun K "_set_of" "_set_of" sSetOf f fd) (T : Bl mg) : FnOk P w K mg base CX0 (k + 1) f fd ["names"] (spSetOf K) := by
  refine F.ok scSetOf (fun vs H Q E h => ?_) (fun cdv A outer s H vs Q E hr h => ?_)
  · obtain ⟨a, ns, rfl, _⟩ := h
    rfl
  obtain ⟨a, ns, rfl, hS, few, q⟩ := h
  refine ⟨_, pss_one (ps_ret (pe_callTy call_tuple_of (by rfl) T.tuple (by decide +kernel) (pa_cons (pe_callB (cr_sortX rfl hr.units) (by rfl) T.sorted (by decide +kernel) (pa_cons (pe_callTy (cr_setX rfl hr.units) (by rfl) T.set (by decide +kernel) (pa_cons (pv 0) pa_nil)) pa_nil)) pa_nil))), ?_⟩
  refine ⟨.ref a, rfl, a, ns, rfl, hS, few, fun b ms hb nd hm hl => ?_⟩
  refine ⟨b, ms, rfl, upd_same, by omega, fun zs p hz nz hlz rz hp => ?_⟩
  refine ⟨p, zs.map V.str, rfl, .inl ⟨SqL.of upd_same, fun l hl2 => ?_⟩⟩
  exact q _ l zs ((same_new hb _).trans ((same_new hp _).trans (same_new hl2 _))) upd_same (upX_of rz nz) fun z => (hz z).trans (hm z)
/-! ### is_world -/
def spIsWorld (K : PySem.W.Frag) : Sp := fun vs H Q _ => ∃ (x : V) (d : PyData), vs = [x] ∧ Dp K H x d ∧ oddW d ∧ ∀ H', Same H H' → Q (.bl (worldD d)) H'
theorem ok_isWorld {f1 f2 : Addr} {fd1 fd2 : FuncData} (F : Fun K "is_world" "is_world" sIsWorld f fd) (T : Bl mg) (G1 : FnOk P w K mg base CX0 k f1 fd1 ["thing"] (spAreNames K)) (b1 : Binds K fd1 ["thing"] []) (k1 : PySem.W.keepIn K (.ref f1) = true) (m1 : mg "_are_names" = some (.ref f1))
    (G2 : FnOk P w K mg base CX0 k f2 fd2 ["names"] (spSetOf K)) (b2 : Binds K fd2 ["names"] []) (k2 : PySem.W.keepIn K (.ref f2) = true) (m2 : mg "_set_of" = some (.ref f2)) : FnOk P w K mg base CX0 (k + 1) f fd ["thing"] (spIsWorld K) := by
  refine F.ok scIsWorld (fun vs H Q E h => ?_) (fun cdv A outer s H vs Q E hr h => ?_)
  · obtain ⟨x, d, rfl, _⟩ := h
    rfl
  obtain ⟨x, d, rfl, hx, odd, q⟩ := h
  refine ⟨_, pss_one (ps_ret (pe_and (pe_callB call_isi (by rfl) T.isi PyProof.Rows.boot_isinstance (pa_cons (pv 0) (pa_cons (pe_bltn (v := .ty "tuple") (by rfl) T.tuple (by decide +kernel) rfl) pa_nil)))
    (pe_and (pe_call G1 hr (by rfl) m1 k1 b1 .nil pass0 (pa_cons (pv 0) pa_nil)) (pe_one (pe_cmpR (op_eqD hr.units) (pv 0) (pe_call G2 hr (by rfl) m2 k2 b2 .nil pass0 (pa_cons (pv 0) pa_nil)) (nomark _)))))), ?_⟩
  have cases' : (∃ t : String, TyX K H x (.type t) ∧ PySem.W.kitOne K (.type t) (.type "tuple") = some false ∧ worldD d = false) ∨ ∃ ds, d = .tuple ds := by
    have ty := tyx_dp hx
    cases d with
    | none => exact .inl ⟨"NoneType", ty, kit_ty (by decide +kernel), rfl⟩
    | bool _ => exact absurd odd id
    | dict _ => exact absurd odd id
    | int i => exact .inl ⟨"int", ty, kit_ty (by decide +kernel), rfl⟩
    | list ds => exact .inl ⟨"list", ty, kit_ty (by decide +kernel), rfl⟩
    | str z => exact .inl ⟨"str", ty, kit_ty (by decide +kernel), rfl⟩
    | tuple ds => exact .inr ⟨ds, rfl⟩
  rcases cases' with ⟨t, h1, h2, h3⟩ | ⟨ds, rfl⟩
  · refine ⟨x, rfl, x, .ty "tuple", .type t, .type "tuple", false, rfl, .ty "tuple", h1, h2, false, rfl, iteF ?_⟩
    have := q H fun _ _ e => e
    rw [h3] at this
    exact this
  obtain ⟨o1, o2⟩ := odd
  cases hx with
  | @tup a xs _ hS hxs =>
    refine ⟨.ref a, rfl, .ref a, .ty "tuple", .type "tuple", .type "tuple", true, rfl, .ty "tuple", tyx_tup hS, kit_ty (by decide +kernel), true, rfl, iteT ?_⟩
    refine ⟨.ref a, rfl, a, xs, ds, rfl, hS, hxs, o1, by omega, fun H1 s1 => ⟨_, rfl, ?_⟩⟩
    have val : ∀ b, ds.all nameD = b → worldD (.tuple ds) = (b && decide (UpX (ds.map strOf))) := fun b e => by
      rw [← e]
      rfl
    refine ite2 (fun c => ?_) (fun c => ?_)
    · rw [val _ c] at q
      obtain ⟨e, hn⟩ := strs_of c
      have ex : xs = (ds.map strOf).map V.str := dps_str (K := K) (H := H) (by rw [← e]; exact hxs)
      rw [ex] at hS
      refine ⟨.ref a, rfl, .ref a, rfl, a, ds.map strOf, rfl, .inr (same_tup s1 hS), by rw [List.length_map]; omega, fun H2 p zs s2 hp hu hm => ?_⟩
      have hz : ∀ x ∈ zs, nameB x = true := fun x hx => hn x ((hm x).mp hx)
      refine ⟨wd (ds.map strOf), wd zs, to_wd (same_tup (s1.trans s2) hS), to_wd (SqT.of hp), shaped_names hn, shaped_names hz, ?_⟩
      rw [eqv_wd]
      have ed : decide (ds.map strOf = zs) = decide (UpX (ds.map strOf)) := by
        by_cases u : UpX (ds.map strOf)
        · rw [decide_eq_true u, decide_eq_true (upX_one u hu fun z => (hm z).symm)]
        · rw [decide_eq_false u, decide_eq_false fun z => u (by rw [z]; exact hu)]
      rw [ed]
      exact q H2 (s1.trans s2)
    · rw [val false (by simpa using c)] at q
      exact q H1 s1
/-! ### is_rule -/
def spIsRule (K : PySem.W.Frag) : Sp := fun vs H Q _ => ∃ (x : V) (r : Rl), vs = [x] ∧ Dp K H x (rd r) ∧ IsR r ∧ ∀ H', Same H H' → Q (.bl true) H'
theorem ok_isRule {f1 : Addr} {fd1 : FuncData} (F : Fun K "is_rule" "is_rule" sIsRule f fd) (T : Bl mg) (G1 : FnOk P w K mg base CX0 k f1 fd1 ["thing"] (spIsWorld K)) (b1 : Binds K fd1 ["thing"] []) (k1 : PySem.W.keepIn K (.ref f1) = true) (m1 : mg "is_world" = some (.ref f1)) :
    FnOk P w K mg base CX0 (k + 1) f fd ["thing"] (spIsRule K) := by
  refine F.ok scIsRule (fun vs H Q E h => ?_) (fun cdv A outer s H vs Q E hr h => ?_)
  · obtain ⟨x, r, rfl, _⟩ := h
    rfl
  obtain ⟨x, r, rfl, hx, hr', q⟩ := h
  refine ⟨_, pss_one (ps_ret (pe_and (pe_callB call_isi (by rfl) T.isi PyProof.Rows.boot_isinstance (pa_cons (pv 0) (pa_cons (pe_bltn (v := .ty "tuple") (by rfl) T.tuple (by decide +kernel) rfl) pa_nil)))
    (pe_and (pe_cmpR op_eq (pe_callB call_len_seq (by rfl) T.len PySem.boot_len (pa_cons (pv 0) pa_nil)) pe_int (nomark _)) (pe_one (pe_callB (cr_all rfl) (by rfl) T.all (by decide +kernel) (pa_cons (pe_lc (own := [("part", 1)]) (g := gName 1) (by rfl) scIsRule.nd (pi_tup (pv 0)) (blkOk_by (N := ["thing", "part"]) (sc := defScope sIsRule) (by decide +kernel))
        (fun _ _ _ _ _ => pg_name (i := 1) scIsRule.nd rfl (Or.inl rfl)) (fun _ _ _ _ _ => pts_nil) (fun _ _ _ _ _ => pe_call G1 hr (by rfl) m1 k1 b1 .nil pass0 (pa_cons (pv 1) pa_nil))) pa_nil)))))), ?_⟩
  unfold rd at hx
  cases hx with
  | @tup a xs _ hS hxs =>
    have xl : xs.length = 4 := by
      rw [dpAll_len hxs, List.length_map]
      rfl
    refine ⟨.ref a, rfl, .ref a, .ty "tuple", .type "tuple", .type "tuple", true, rfl, .ty "tuple", tyx_tup hS, kit_ty (by decide +kernel), true, rfl, iteT ?_⟩
    refine ⟨.ref a, rfl, a, xs, rfl, .inr hS, rfl, true, congrArg V.bl (decide_eq_true (by rw [xl]; rfl)), iteT ?_⟩
    refine ⟨.ref a, rfl, a, rfl, ⟨_, hS⟩, fun D hD => ?_⟩
    refine lc_tup (xs := xs) (fun i H1 => Same H H1 ∧ H1 D = some (.lst (List.replicate i (V.bl true)))) ⟨same_new hD _, upd_same⟩ (fun i H1 _ hI => same_tup hI.1 hS) (fun i x H1 hxi hI => ?_) (fun H1 hI => ?_)
    · obtain ⟨sm, hd⟩ := hI
      obtain ⟨d, hdi, hxd⟩ := dpAll_at' hxs hxi
      obtain ⟨t, ht, rfl⟩ := map_at hdi
      have wt := hr'.all t (List.mem_of_getElem? ht)
      have il : i < (parts r).length := (List.getElem?_eq_some_iff.mp ht).1
      have il' : i < 4 := il
      refine ⟨rfl, x, rfl, x, wd t, rfl, (Stay.same sm).wd hxd, oddW_wd wt, fun H2 sm2 => ?_⟩
      rw [worldD_wd wt]
      refine ⟨_, sm2 _ _ hd, small_line' (by rw [List.length_replicate]; omega), same_put (sm.trans sm2) hD, ?_⟩
      rw [upd_same, show List.replicate (i + 1) (V.bl true) = List.replicate i (V.bl true) ++ [V.bl true] from List.replicate_succ']
    · obtain ⟨sm, hd⟩ := hI
      refine ⟨D, List.replicate xs.length true, rfl, SqL.of (by rw [List.map_replicate]; exact hd), ?_⟩
      have z : (List.replicate xs.length true).all id = true := by simp
      rw [z]
      exact q H1 sm
end
end Rw
namespace Rw
open PySem PySem.Spec PyProof.Rows L2
/-! ### programs -/
/-- an instance of the class at C whose rules are S -/
def PgAt (K : PySem.W.Frag) (C : Addr) (H : Hp) (v : V) (S : List Rl) : Prop := ∃ a dx t ys, v = .ref a ∧ H a = some (.ins C dx [(("_rules" : Str), .ref t)]) ∧ SqT K H t ys ∧ DpAll K H ys (S.map rd)
theorem PgAt.same {K : PySem.W.Frag} {C : Addr} {H H' : Hp} {v : V} {S : List Rl} (h : PgAt K C H v S) (e : Same H H') : PgAt K C H' v S := by
  obtain ⟨a, dx, t, ys, h1, h2, h3, h4⟩ := h
  exact ⟨a, dx, t, ys, h1, e _ _ h2, same_tup e h3, dpAll_same e _ _ h4⟩
theorem mut_ins {H : Hp} {p C dx : Addr} {fs : List (Str × V)} (h : H p = some (.ins C dx fs)) : Mut (H p) := by
  rw [h]
  exact True.intro
section
variable {P : Program} {w : World} {K : PySem.W.Frag} {mg : Str → Option Value} {base : Heap} {f : Addr} {fd : FuncData} {k : Nat}
/-- Program.__init__(self, *rules) -/
def spInit (K : PySem.W.Frag) (C : Addr) : Sp := fun vs H Q _ => ∃ (x dx : Addr) (xs : List V) (L : List Rl), vs = .ref x :: xs ∧ H x = some (.ins C dx []) ∧ DpAll K H xs (L.map rd) ∧ (∀ r ∈ L, IsR r) ∧ L.length < 76 ∧
  ∀ H' S, (∀ b u, b ≠ x → H b = some u → H' b = some u) → Srt S L → S.length < 76 → PgAt K C H' (.ref x) S → Q .non H'
theorem ok_init {C f1 : Addr} {fd1 : FuncData} {name qual : Str} {kV doc pm cdv ct oc : Value} {an od : Option Addr} {osl : Array (Option Value)}
    (lk : K.lookup f = some ⟨oc, od, .func (PySem.W.fnOf name qual (defArgs sInit) (defBody sInit) (defScope sInit) .none kV doc pm an cdv ct), osl⟩) (hcd : PySem.W.codeIn K cdv qual = true) (T : Bl mg) (c : Cls K C) (n : NoAttr K C "_rules")
    (G1 : FnOk P w K mg base CX0 k f1 fd1 ["thing"] (spIsRule K)) (b1 : Binds K fd1 ["thing"] []) (k1 : PySem.W.keepIn K (.ref f1) = true) (m1 : mg "is_rule" = some (.ref f1)) : FnR P w K mg base CX0 (k + 1) f (spInit K C) := by
  have main := StX.fn_star (CX := CX0) (P := P) (w := w) (mg := mg) (base := base) (k := k) (N := ["self", "rules", "place", "row"]) (ps := ["self"]) (pv := "rules") (sp := fun vs H Q E => ∃ (x p dx : Addr) (xs : List V) (L : List Rl), vs = [.ref x, .ref p] ∧ H x = some (.ins C dx []) ∧ SqT K H p xs ∧ DpAll K H xs (L.map rd) ∧ (∀ r ∈ L, IsR r) ∧ L.length < 76 ∧
      ∀ H' S, (∀ b u, b ≠ x → H b = some u → H' b = some u) → Srt S L → S.length < 76 → PgAt K C H' (.ref x) S → Q .non H') lk hcd scInit StX.cxUp_none (StX.bind_star1 (p1 := "self") (pv := "rules") (B := fun vs => bindArgs (PySem.W.fnOf name qual (defArgs sInit) (defBody sInit) (defScope sInit) .none kV doc pm an cdv ct) { pos := vs }) (fun _ => by first | rfl | with_unfolding_all rfl) (fun _ _ _ => by first | rfl | with_unfolding_all rfl)) (fun A outer s H vs Q E hr h => ?_)
  · intro A outer s H us vs Q E hr e0 r h
    refine main A outer s H us vs Q E hr e0 r ?_
    obtain ⟨x, dx, xs, L, rfl, hx, hxs, hL, few, q⟩ := h
    refine ⟨[.ref x], xs, rfl, rfl, small_line (by rw [dpAll_len hxs, List.length_map]; omega), fun p hp => ?_⟩
    have sp := same_new hp (.tup xs)
    exact ⟨x, p, dx, xs, L, rfl, sp _ _ hx, SqT.of upd_same, dpAll_same sp _ _ hxs, hL, few, fun H' S hb hs hl hg => q H' S (fun b u nb e => hb b u nb (sp _ _ e)) hs hl hg⟩
  obtain ⟨x, p, dx, xs, L, rfl, hx, hp, hxs, hL, few, q⟩ := h
  have xl : xs.length = L.length := by rw [dpAll_len hxs, List.length_map]
  refine ⟨_, PSs.nox (pss_cons (ps_for PassesOwn.never rfl (pi_enumT (by rfl) T.enum (pa_cons (pv 1) pa_nil)) (pg_tup (by rfl) (pgs_cons (pg_name (i := 2) scInit.nd rfl (.inl rfl)) (pgs_cons (pg_name (i := 3) scInit.nd rfl (.inl rfl)) pgs_nil)))
      (pss_one (ps_if (pt_not (pt_val (pe_call G1 hr (by rfl) m1 k1 b1 .nil pass0 (pa_cons (pv 3) pa_nil)))) pss_never pss_nil)))
    (pss_one (ps_fld (pv 0) (pe_callTy call_tuple_of (by rfl) T.tuple (by decide +kernel) (pa_cons (pe_callB (cr_sortR rfl hr.units) (by rfl) T.sorted (by decide +kernel) (pa_cons (pe_callTy (cr_setR rfl hr.units) (by rfl) T.set (by decide +kernel) (pa_cons (pv 1) pa_nil)) pa_nil)) pa_nil)) rfl))), ?_⟩
  refine ⟨.ref p, rfl, p, xs, rfl, hp, for_enumT (xs := xs) (fun i σ H1 => (∃ y2 y3, σ = [some (.ref x), some (.ref p), y2, y3]) ∧ Same H H1) ⟨⟨none, none, rfl⟩, fun _ _ e => e⟩ (fun i σ H1 _ hI => same_tup hI.2 hp) (fun i v σ H1 T0 hv hI hT => ?_) (fun σ H1 hI => ?_)⟩
  · obtain ⟨⟨y2, y3, rfl⟩, sm⟩ := hI
    obtain ⟨d, hd, hvd⟩ := dpAll_at' hxs hv
    obtain ⟨r, hr', rfl⟩ := map_at hd
    have st := same_new hT (.tup [.int (i : Int), v])
    refine ⟨T0, [.int (i : Int), v], rfl, SqT.of upd_same, rfl, .int (i : Int), [v], rfl, v, [], rfl, rfl, ?_⟩
    refine ⟨v, rfl, v, r, rfl, dp_same (sm.trans st) _ _ hvd, hL r (List.mem_of_getElem? hr'), fun H2 s2 => ⟨true, rfl, iteF ⟨⟨_, _, rfl⟩, sm.trans (st.trans s2)⟩⟩⟩
  · obtain ⟨⟨y2, y3, rfl⟩, sm⟩ := hI
    refine ⟨.ref p, rfl, p, xs, L, rfl, .inr (same_tup sm hp), dpAll_same sm _ _ hxs, few, fun a M ha hM isP hall => ?_⟩
    have sa := same_new ha (TSetO w a M)
    refine ⟨a, M, L, rfl, upd_same, (fun e he => ⟨(hM e he).1, (Stay.same sa).dp _ _ (hM e he).1.ok (hM e he).2⟩), isP, hall, fun ys S l hS hSl hys hl => ?_⟩
    have sl := same_new hl (.lst ys)
    refine ⟨l, ys, rfl, .inl ⟨SqL.of upd_same, fun t ht => ?_⟩⟩
    have st := same_new ht (.tup ys)
    have all := sm.trans (sa.trans (sl.trans st))
    refine ⟨.ref x, rfl, x, C, dx, _, rfl, all _ _ hx, c, n, by show 0 < 1000; decide, ?_⟩
    have hx' := all _ _ hx
    have stp := Stay.put (mut_ins hx') (.ins C dx [(("_rules" : Str), .ref t)])
    refine q _ S (fun b u nb e => ?_) hS hSl ⟨x, dx, t, ys, rfl, upd_same, stp.seq (SqT.of upd_same), (Stay.same st |>.trans stp).dpAll _ _ (okDs_rd S) ((Stay.same sl).dpAll _ _ (okDs_rd S) hys)⟩
    rw [upd_ne nb]
    exact all _ _ e
/-- a program made: where the class is called with the rules L -/
theorem made_ok {C : Addr} {H : Hp} {xs : List V} {L : List Rl} {Q : VK} {E : XK} (hx : DpAll K H xs (L.map rd)) (hL : ∀ r ∈ L, IsR r) (few : L.length < 76) (q : ∀ H' v S, Same H H' → Srt S L → S.length < 76 → PgAt K C H' v S → Q v H') :
    ∀ x dx, H x = none → H dx = none → dx ≠ x → spInit K C (.ref x :: xs) (upd (upd H dx (.own x)) x (.ins C dx [])) (fun v H2 => v = .non ∧ Q (.ref x) H2) E := fun x dx hx0 hd0 ne => by
  have s1 := same_new hd0 (.own x)
  have hx1 : (upd H dx (.own x)) x = none := by
    rw [upd_ne ne.symm]
    exact hx0
  have s2 := s1.trans (same_new hx1 (.ins C dx []))
  refine ⟨x, dx, xs, L, rfl, upd_same, (Stay.same s2).dpAll _ _ (okDs_rd L) hx, hL, few, fun H' S hb hS hl hg => ⟨rfl, q H' _ S (fun b u e => ?_) hS hl hg⟩⟩
  exact hb b u (ne_of_none e hx0) (s2 _ _ e)
/-- Program.of(cls, rules) -/
def spOf (K : PySem.W.Frag) (C : Addr) : Sp := fun vs H Q _ => ∃ (l : Addr) (xs : List V) (L : List Rl), vs = [.ref C, .ref l] ∧ (SqT K H l xs ∨ SqL K H l xs) ∧ DpAll K H xs (L.map rd) ∧ (∀ r ∈ L, IsR r) ∧ L.length < 76 ∧ ∀ H' v S, Same H H' → Srt S L → S.length < 76 → PgAt K C H' v S → Q v H'
theorem ok_of {C f1 : Addr} (F : Fun K "of" "Program.of" sOf f fd) (M : Mk K C f1) (G : FnR P w K mg base CX0 k f1 (spInit K C)) : FnOk P w K mg base CX0 (k + 2) f fd ["cls", "rules"] (spOf K C) := by
  refine F.ok scOf (fun vs H Q E h => ?_) (fun cdv A outer s H vs Q E hr h => ?_)
  · obtain ⟨l, xs, L, rfl, _⟩ := h
    rfl
  obtain ⟨l, xs, L, rfl, hS, hx, hL, few, q⟩ := h
  refine ⟨_, pss_one (ps_ret (pe_makeSL (i := 0) M G hr rfl (.inl rfl) pass0 (pv 1))), ?_⟩
  exact ⟨rfl, .ref l, rfl, l, xs, rfl, hS, made_ok hx hL few q⟩
/-- program.rules -/
def spRules (K : PySem.W.Frag) (C : Addr) : Sp := fun vs H Q _ => ∃ (v : V) (S : List Rl), vs = [v] ∧ PgAt K C H v S ∧ ∀ t ys, SqT K H t ys → DpAll K H ys (S.map rd) → Q (.ref t) H
theorem ok_rules {C : Addr} (F : Fun K "rules" "Program.rules" sRules f fd) (c : Cls K C) (n : NoAttr K C "_rules") : FnOk P w K mg base CX0 (k + 1) f fd ["self"] (spRules K C) := by
  refine F.ok scRules (fun vs H Q E h => ?_) (fun cdv A outer s H vs Q E hr h => ?_)
  · obtain ⟨v, S, rfl, _⟩ := h
    rfl
  obtain ⟨v, S, rfl, ⟨a, dx, t, ys, rfl, h1, h2, h3⟩, q⟩ := h
  refine ⟨_, pss_one (ps_ret (pe_fld (pv 0) rfl)), ?_⟩
  exact ⟨.ref a, rfl, a, C, dx, _, .ref t, rfl, h1, c, n, rfl, q t ys h2 h3⟩
end
end Rw
namespace Rw
open PySem PySem.Spec PyProof.Rows L2 PySem.Froz
/-! ### comprehensions of any depth: one level of their loops -/
def turnOf (tg : Expr) (ifs : List Expr) (pos : Pos) (it : Value) (env : Env) (bk : Sem PySem.Fin) (c : Code) : Sem PySem.Fin := do
  standAt pos
  let r ← pyNext it
  match r with
  | none => pure (PySem.Fin.done Flow.next)
  | some v => do
    letOwnedTupleGo tg it v
    assign tg env v
    let ok ← forIn ifs true fun c r => if r = true then do let ok ← PySem.isTrue c env (eval c env); pure (ForInStep.yield ok) else pure (ForInStep.yield r)
    if ok = true then bk else again c
def Le (σ σ' : L2.St) : Prop := σ.length = σ'.length ∧ ∀ (i : Nat) (v : V), σ[i]? = some (some v) → σ'[i]? = some (some v)
theorem Le.refl (σ : L2.St) : Le σ σ := ⟨rfl, fun _ _ e => e⟩
theorem Le.trans {a b c : L2.St} (h : Le a b) (g : Le b c) : Le a c := ⟨h.1.trans g.1, fun i v e => g.2 i v (h.2 i v e)⟩
theorem Le.wipe (σ : L2.St) (vs : List Nat) : Le (wipe σ vs) σ := ⟨wipe_length σ vs, fun i v e => (wipe_some e).1⟩
theorem Le.wipes {σ : L2.St} {vs vs1 : List Nat} (h : ∀ i ∈ vs1, i ∈ vs) : Le (L2.wipe σ vs) (L2.wipe σ vs1) := ⟨(wipe_length σ vs).trans (wipe_length σ vs1).symm, fun i v e => by
  obtain ⟨h1, h2⟩ := wipe_some e
  rw [wipe_out fun z => h2 (h i z)]
  exact h1⟩
theorem loop_lvl {Y : Cx} {elt : Expr} {gens : List Comprehension} {scope : Scope} {ep : Pos} {d : Nat} {tg : Expr} {ifs : List Expr} {pos : Pos} {it : Addr} {acc : Value} {bk : Sem PySem.Fin} {fp : List Addr} {tn : Nat → Heap → Prop} {J : It} {pins : List (Addr × Obj)} {σ0 : L2.St} {g : TG} {tt : TT} {B : L2.St → Hp → (Hp → Prop) → Prop} {C : L2.St → Prop} {R : Result → Shared → Prop} {N : Hp → Prop} {W : Nat → Nat → Hp → Prop}
    (hc : Y.calm = true) (hxe : ∀ e s, ¬ Y.xe e s) (hT : compTurn (.SetComp elt gens scope ep) d (.ref it) acc Y.env = turnOf tg ifs pos (.ref it) Y.env bk (.compLoop (.SetComp elt gens scope ep) d (.ref it) acc Y.env)) (T : Turn Y.prog Y.w Y.K tg J fp it tn) (hg : PG Y tg g) (ht : PTs Y ifs tt)
    (hb : ∀ pl s σ H (Nx : Hp → Prop) (Q : PySem.Fin → Shared → Prop) (E : Value → Shared → Prop), L2.Inv Y (pins ++ pl) σ H s → C σ → B σ H Nx → (∀ σ' H' s', L2.Inv Y (pins ++ pl) σ' H' s' → Le σ0 σ' → Nx H' → Q (.again (.compLoop (.SetComp elt gens scope ep) d (.ref it) acc Y.env)) s') → wpAny (model Y.prog Y.w) Y.A bk Q E s)
    (hC : ∀ σ, C σ → Le σ0 σ)
    (turn : ∀ i m H, W i m H → (J.stop i H ∧ N H) ∨ (J.go i H ∧ ∃ Nx : Hp → Prop, (∀ H', Nx H' → ∃ m', m' < m ∧ W (i + 1) m' H') ∧ ∀ x H', J.yld i H x H' → g x σ0 H' fun σ2 H2 => C σ2 ∧ tt σ2 H2 fun b H3 => if b = true then B σ2 H3 Nx else Nx H3))
    (hR : ∀ s' H', L2.Inv Y pins σ0 H' s' → N H' → R (.ok .next) s') :
    ∀ (n i : Nat) (H : Hp) (s : Shared), L2.Inv Y pins σ0 H s → tn i s.heap → (∀ b ∈ fp, FpOk Y pins H b) → W i n H → codeAny (model Y.prog Y.w) Y.A (.compLoop (.SetComp elt gens scope ep) d (.ref it) acc Y.env) R s := by
  intro n i H s I0 t0 f0 w0
  refine codeAny_loop (c := .compLoop (.SetComp elt gens scope ep) d (.ref it) acc Y.env) rfl (fun n s' => ∃ i H', L2.Inv Y pins σ0 H' s' ∧ tn i s'.heap ∧ (∀ b ∈ fp, FpOk Y pins H' b) ∧ W i n H') (fun n s5 ⟨i, H5, I5, st5, n5, w5⟩ => ?_) n ⟨i, H, I0, t0, f0, w0⟩
  show wpAny (model Y.prog Y.w) Y.A (Sem.onRaise (compTurn (.SetComp elt gens scope ep) d (.ref it) acc Y.env) fun x => do noteFrame x Y.env; theTreesLotGoes x) _ _ s5
  refine wpAny_noted ?_
  rw [hT]
  unfold turnOf
  refine wpAny_bind (wpAny_standAt (wpAny_bind ?_))
  rcases turn i n H5 w5 with ⟨stop, qq⟩ | ⟨go, Nx, hNx, step⟩
  · refine thnF (T.done Y rfl rfl rfl hc i pins s5 σ0 H5 (fun _ _ => False) I5 n5 st5 stop) fun r s6 ⟨hr, I6⟩ => ?_
    subst hr
    exact wpAny_pure (hR s6 H5 I6 qq)
  · refine thnF (T.item Y rfl rfl rfl hc i pins s5 σ0 H5 (fun _ _ => False) I5 n5 st5 go) fun r s6 ⟨u, hr, h6⟩ => ?_
    subst hr
    refine wpAny_bind (thnF h6 fun _ s7 ⟨x, H7, I7, r7, y7, st7, n7⟩ => ?_)
    have fp7 : ∀ b ∈ fp, FpOk Y pins H7 b := fun b hb => ⟨n7 b hb, (n5 b hb).2⟩
    have I7' := Inv.pinned I7 fp7 (T.obj (i + 1) s7.heap st7)
    refine wpAny_bind (wpAny_mono (hg.run (pins ++ pinsAt fp s7.heap) s7 σ0 H7 x u _ I7' r7 (step x H7 y7)) (fun _ s8 ⟨σ8, H8, I8, hw8, q8⟩ => ?_) fun e s z => (hxe e s z).elim)
    have fin : ∀ {s' : Shared} {H' : Hp} {σ' : L2.St}, L2.Inv Y (pins ++ pinsAt fp s7.heap) σ' H' s' → Le σ0 σ' → Nx H' → ∃ m, m < n ∧ ∃ i H', L2.Inv Y pins σ0 H' s' ∧ tn i s'.heap ∧ (∀ b ∈ fp, FpOk Y pins H' b) ∧ W i m H' := fun {s' H' σ'} I' le nx => by
      obtain ⟨m', hm, w'⟩ := hNx H' nx
      have pin' : ∀ b ∈ fp, ∀ o, s7.heap.get? b = some o → s'.heap.get? b = some o ∧ H' b = none := fun b hb o e => by
        have z := I'.pin (b, o) (List.mem_append_right Y.pn (List.mem_append_right pins (mem_pinsAt hb e)))
        exact ⟨z.1, z.2.1⟩
      refine ⟨m', hm, i + 1, H', Inv.weak (Inv.unpinned I') le.1 le.2, T.keep (i + 1) s7.heap s'.heap st7 fun b hb o e => (pin' b hb o e).1, fun b hb => ?_, w'⟩
      obtain ⟨o, e, _⟩ := T.obj (i + 1) s7.heap st7 b hb
      exact ⟨(pin' b hb o e).2, (n5 b hb).2⟩
    refine wpAny_bind (wpAny_mono (ht.run _ s8 σ8 H8 _ I8 q8) (fun b s9 ⟨H9, I9, q9⟩ => ?_) fun e s z => (hxe e s z).elim)
    cases b with
    | false =>
      have q9' : Nx H9 := q9
      exact wpAny_pure ⟨rfl, fin I9 (hC σ8 hw8) q9'⟩
    | true =>
      have q9' : B σ8 H9 Nx := q9
      exact hb (pinsAt fp s7.heap) s9 σ8 H9 Nx _ _ I9 hw8 q9' fun σ' H' s' I' le nx => ⟨rfl, fin I' le nx⟩
/-- the start of a level -/
theorem start_lvl {P : Program} {w : World} {A : Around} {R : Result → Shared → Prop} {s : Shared} {elt : Expr} {gens : List Comprehension} {scope : Scope} {ep : Pos} {d : Nat} {t i : Expr} {ifs : List Expr} {it acc : Value} {env : Env} (hcl : gens[d]? = some ⟨t, i, ifs, 0⟩)
    (h0 : codeAny (model P w) A (.compLoop (.SetComp elt gens scope ep) d it acc env) R s) (h : wpAny (model P w) A (pyIter it) (fun it' s' => codeAny (model P w) A (.compLoop (.SetComp elt gens scope ep) d it' acc env) R s') (notedBy (model P w) A env fun x s' => R (.error x) s') s) :
    codeAny (model P w) A (.compStart (.SetComp elt gens scope ep) d it acc env) R s := by
  refine codeAny_of_tree ?_
  show wpAny (model P w) A (Sem.onRaise (compStart (.SetComp elt gens scope ep) d it acc env) fun x => do noteFrame x env; standAt theWindowsPlace) _ _ s
  refine wpAny_notedAt ?_
  unfold compStart
  rw [show (clausesOf (.SetComp elt gens scope ep))[d]? = some ⟨t, i, ifs, 0⟩ from hcl]
  show wpAny (model P w) A (ask >>= _) _ _ s
  refine wpAny_bind (wpAny_askSetting ?_)
  split
  · exact wpAny_pure ⟨rfl, h0⟩
  · refine wpAny_bind (wpAny_rule ?_)
    refine wpAny_bind (wpAny_standAt (wpAny_bind (wpAny_mono h (fun it' s' h' => wpAny_pure ⟨rfl, h'⟩) fun _ _ z => z)))
/-! ### a set of texts, one more put in -/
theorem addX_ok {X : Cx} {pins : List (Addr × Obj)} {σ : L2.St} {H : Hp} {s : Shared} {E : Value → Shared → Prop} {D : Addr} {ms : List Str} {z : Str} {u : Tok} {Q : Value → Shared → Prop} (I : L2.Inv X pins σ H s) (hD : H D = some (XSetO X.prog X.w D ms)) (room : ms.length + 1 < scanBound)
    (h : ∀ s' ms', ms'.Nodup → (∀ y, y ∈ ms' ↔ y = z ∨ y ∈ ms) → ms'.length ≤ ms.length + 1 → L2.Inv X pins σ (upd H D (XSetO X.prog X.w D ms')) s' → Q .none s') : wpAny (model X.prog X.w) X.A (call (.builtin "set.add") [.ref D, .str z u]) Q E s := by
  obtain ⟨es, ep, t, R⟩ := (I.hok D _ hD).1
  refine wpAny_call_entry PySem.F.slot_set_add ⟨_, R.ob, rfl⟩ PySem.F.entry_set_add ?_ (PySem.F.args_set_add_2 _ _)
  unfold Builtin.«set.add»
  show wpAny _ _ (Builtin.Frozenset.oneOther "add" _ >>= _) _ _ _
  unfold Builtin.Frozenset.oneOther
  refine wpAny_bind (wpAny_bind (wpAny_pure (wpAny_bind (wpAny_pure (wpAny_pure ?_)))))
  unfold setAdd
  refine wpAny_bind (wpAny_holding (wpAny_bind ((strKind X.prog X.w).pyHash (k := z) (is_str _ _) ?_)))
  refine put_text (s := { s with toks := s.toks + 1 }) R room fun b h' ms' es' ep' t' sb R' hm hl' => ?_
  refine wpAny_pure ⟨.none, rfl, h _ ms' R'.nd hm hl' ?_⟩
  exact Inv.write (I.tok (s.toks + 1)) (by rw [hD]; exact True.intro) (Or.inl rfl) (fun b u hb hu => (sb.2 b hb).trans hu) ⟨_, R'.ob⟩ ⟨⟨es', ep', t', R'⟩, ⟨_, R'.ob⟩, fun h1 h2 ⟨a1, a2, a3, a4⟩ kk => ⟨a1, a2, a3, a4.moved kk⟩⟩
/-! ### {e for x in a for y in b for z in c}, of texts -/
def lvlR (wi : TI) (g : TG) (vs : List Nat) (B : L2.St → Hp → (Hp → Prop) → Prop) : L2.St → Hp → (Hp → Prop) → Prop := fun σ H N => wi σ H fun J H1 => ∃ W : Nat → Nat → Hp → Prop, (∃ m, W 0 m H1) ∧
  ∀ i m H, W i m H → (J.stop i H ∧ N H) ∨ (J.go i H ∧ ∃ Nx : Hp → Prop, (∀ H', Nx H' → ∃ m', m' < m ∧ W (i + 1) m' H') ∧ ∀ x H', J.yld i H x H' → g x (wipe σ vs) H' fun σ2 H2 => wipe σ2 vs = wipe σ vs ∧ B σ2 H2 Nx)
def lastR (P : Program) (w : World) (D : Addr) (te : TE) : L2.St → Hp → (Hp → Prop) → Prop := fun σ H N => te σ H fun y H1 => ∃ z ms, y = .str z ∧ H1 D = some (XSetO P w D ms) ∧ ms.length + 1 < scanBound ∧ ∀ ms', ms'.Nodup → (∀ u, u ∈ ms' ↔ u = z ∨ u ∈ ms) → ms'.length ≤ ms.length + 1 → N (upd H1 D (XSetO P w D ms'))
def tSc3 (P : Program) (w : World) (wi0 wi1 wi2 : TI) (g0 g1 g2 : TG) (te : TE) (vs vs1 vs2 : List Nat) : TE := fun σ H Q => wi0 σ H fun J H1 => ∀ D, H1 D = none → ∃ W : Nat → Nat → Hp → Prop, (∃ m, W 0 m (upd H1 D (XSetO P w D []))) ∧
  ∀ i m H, W i m H → (J.stop i H ∧ Q (.ref D) H) ∨ (J.go i H ∧ ∃ Nx : Hp → Prop, (∀ H', Nx H' → ∃ m', m' < m ∧ W (i + 1) m' H') ∧ ∀ x H', J.yld i H x H' → g0 x (wipe σ vs) H' fun σ2 H2 => wipe σ2 vs = wipe σ vs ∧ lvlR wi1 g1 vs1 (lvlR wi2 g2 vs2 (lastR P w D te)) σ2 H2 Nx)
section
variable {elt t0 i0 t1 i1 t2 i2 : Expr} {scope : Scope} {ep : Pos}
abbrev gens3 (t0 i0 t1 i1 t2 i2 : Expr) : List Comprehension := [⟨t0, i0, [], 0⟩, ⟨t1, i1, [], 0⟩, ⟨t2, i2, [], 0⟩]
def bkIn (i1 : Expr) (e : Expr) (d : Nat) (acc : Value) (env : Env) (c : Code) : Sem PySem.Fin := do
  let x ← eval i1 env
  standAt i1.pos
  let x ← foldedSetIterable i1 env x
  let it ← holding [x] (pyIter x)
  let _ ← runOwn (.compStart e (d + 1) it acc env) env
  again c
def bkLast (elt : Expr) (acc : Value) (env : Env) (c : Code) : Sem PySem.Fin := do
  let _ ← (do let v ← eval elt env; standAt elt.pos; let _ ← call (.builtin "set.add") [acc, v]; pure () : Sem Unit)
  again c
theorem turn3_0 (it acc : Value) (env : Env) : compTurn (.SetComp elt (gens3 t0 i0 t1 i1 t2 i2) scope ep) 0 it acc env = turnOf t0 [] i0.pos it env (bkIn i1 (.SetComp elt (gens3 t0 i0 t1 i1 t2 i2) scope ep) 0 acc env (.compLoop (.SetComp elt (gens3 t0 i0 t1 i1 t2 i2) scope ep) 0 it acc env)) (.compLoop (.SetComp elt (gens3 t0 i0 t1 i1 t2 i2) scope ep) 0 it acc env) := rfl
theorem turn3_1 (it acc : Value) (env : Env) : compTurn (.SetComp elt (gens3 t0 i0 t1 i1 t2 i2) scope ep) 1 it acc env = turnOf t1 [] i1.pos it env (bkIn i2 (.SetComp elt (gens3 t0 i0 t1 i1 t2 i2) scope ep) 1 acc env (.compLoop (.SetComp elt (gens3 t0 i0 t1 i1 t2 i2) scope ep) 1 it acc env)) (.compLoop (.SetComp elt (gens3 t0 i0 t1 i1 t2 i2) scope ep) 1 it acc env) := rfl
theorem turn3_2 (it acc : Value) (env : Env) : compTurn (.SetComp elt (gens3 t0 i0 t1 i1 t2 i2) scope ep) 2 it acc env = turnOf t2 [] i2.pos it env (bkLast elt acc env (.compLoop (.SetComp elt (gens3 t0 i0 t1 i1 t2 i2) scope ep) 2 it acc env)) (.compLoop (.SetComp elt (gens3 t0 i0 t1 i1 t2 i2) scope ep) 2 it acc env) := rfl
theorem bk_step {Y : Cx} {elt : Expr} {gens : List Comprehension} {scope : Scope} {ep : Pos} {d : Nat} {tg iter : Expr} {acc : Value} {wi : TI} {g : TG} {vs : List Nat} {B : L2.St → Hp → (Hp → Prop) → Prop} {bkf : Value → Sem PySem.Fin} {D : L2.St → L2.St → Prop}
    (hc : Y.calm = true) (hxe : ∀ e s, ¬ Y.xe e s) (hgen : gens[d + 1]? = some ⟨tg, iter, [], 0⟩) (hs : ∀ x, foldedSetIterable iter Y.env x = pure x) (hi : PI Y tg iter wi) (hg : PG Y tg g)
    (hT : ∀ it, compTurn (.SetComp elt gens scope ep) (d + 1) it acc Y.env = turnOf tg [] iter.pos it Y.env (bkf it) (.compLoop (.SetComp elt gens scope ep) (d + 1) it acc Y.env))
    (hb : ∀ it pl s σ H (Nx : Hp → Prop) (Q : PySem.Fin → Shared → Prop) (E : Value → Shared → Prop), L2.Inv Y pl σ H s → B σ H Nx → (∀ σ' H' s', L2.Inv Y pl σ' H' s' → D σ σ' → Nx H' → Q (.again (.compLoop (.SetComp elt gens scope ep) (d + 1) it acc Y.env)) s') → wpAny (model Y.prog Y.w) Y.A (bkf it) Q E s)
    (hD : ∀ σ σ2 σ', wipe σ2 vs = wipe σ vs → D σ2 σ' → Le (wipe σ vs) σ') :
    ∀ pl s σ H (Nx : Hp → Prop) (Q : PySem.Fin → Shared → Prop) (E : Value → Shared → Prop) (c : Code), L2.Inv Y pl σ H s → lvlR wi g vs B σ H Nx → (∀ H' s', L2.Inv Y pl (wipe σ vs) H' s' → Nx H' → Q (.again c) s') → wpAny (model Y.prog Y.w) Y.A (bkIn iter (.SetComp elt gens scope ep) d acc Y.env c) Q E s := by
  intro pl s σ H Nx Q E c I hL hQ
  unfold bkIn
  refine wpAny_bind (wpAny_mono (hi.run pl s σ H _ I hL) (fun v s1 h1 => ?_) (fun e s z => (hxe e s z).elim))
  refine wpAny_bind (wpAny_standAt ?_)
  rw [hs v]
  refine wpAny_bind (wpAny_pure ?_)
  refine wpAny_bind (wpAny_holding (wpAny_mono h1 (fun itv s2 ⟨it, fp, tn, J, H2, e, I2, T, st2, f2, W, ⟨m, w0⟩, turn⟩ => ?_) (fun e s z => (hxe e s z).elim)))
  subst e
  have I2' : L2.Inv Y pl (wipe σ vs) H2 s2 := Inv.weak I2 (Le.wipe σ vs).1 (Le.wipe σ vs).2
  have loop : ∀ R : Result → Shared → Prop, (∀ s' H', L2.Inv Y pl (wipe σ vs) H' s' → Nx H' → R (.ok .next) s') → codeAny (model Y.prog Y.w) Y.A (.compLoop (.SetComp elt gens scope ep) (d + 1) (.ref it) acc Y.env) R s2 := fun R hR =>
    loop_lvl (Y := Y) (σ0 := wipe σ vs) (C := fun σ2 => wipe σ2 vs = wipe σ vs) (B := B) (tt := tYes) (W := W) (N := Nx) hc hxe (hT (.ref it)) T hg pts_nil
      (fun pl2 s σ2 H Nx2 Q E I hC hB hq => hb (.ref it) (pl ++ pl2) s σ2 H Nx2 Q E I hB fun σ' H' s' I' hd nx => hq σ' H' s' I' (hD σ σ2 σ' hC hd) nx)
      (fun σ2 hC => by have z := Le.wipe σ2 vs; rw [hC] at z; exact z) turn hR m 0 H2 s2 I2' st2 f2 w0
  refine wpAny_bind (wpAny_runOwn (h := none) (start_lvl hgen ?_ ?_))
  · exact loop _ fun s' H' I' nx => wpAny_pure (hQ H' s' I' nx)
  · exact T.self _ 0 s2 _ _ st2 (loop _ fun s' H' I' nx => wpAny_pure (hQ H' s' I' nx))
theorem last_step {Y : Cx} {elt : Expr} {D : Addr} {te : TE} (hxe : ∀ e s, ¬ Y.xe e s) (he : PE Y elt te) :
    ∀ pl s σ H (Nx : Hp → Prop) (Q : PySem.Fin → Shared → Prop) (E : Value → Shared → Prop) (c : Code), L2.Inv Y pl σ H s → lastR Y.prog Y.w D te σ H Nx → (∀ H' s', L2.Inv Y pl σ H' s' → Nx H' → Q (.again c) s') → wpAny (model Y.prog Y.w) Y.A (bkLast elt (.ref D) Y.env c) Q E s := by
  intro pl s σ H Nx Q E c I hL hQ
  unfold bkLast
  refine wpAny_bind (wpAny_bind (wpAny_mono (he.run pl s σ H _ I hL) (fun v s1 ⟨y, H1, I1, ry, z, ms, ey, hD, room, next⟩ => ?_) (fun e s z => (hxe e s z).elim)))
  subst ey
  obtain ⟨u, rfl⟩ := ry
  exact wpAny_bind (wpAny_standAt (wpAny_bind (addX_ok I1 hD room fun s' ms' nd hm hl I' => wpAny_pure (wpAny_pure (hQ _ s' I' (next ms' nd hm hl))))))
/-- a set comprehension of three clauses, of texts -/
theorem pe_sc3 {X : Cx} {own : List (Str × Nat)} {wi0 wi1 wi2 : TI} {g0 g1 g2 : TG} {te : TE} {vs1 vs2 : List Nat} (hc : X.calm = true) (hN : X.N.Nodup) (hi : PI X t0 i0 wi0) (ok : BlkOk X.N X.env.scope scope own) (hv1 : ∀ i ∈ vs1, i ∈ own.map (·.2)) (hv2 : ∀ i ∈ vs2, i ∈ vs1)
    (hg0 : ∀ s H C cl fp, PG (X.blk s H scope (compEnvC scope cl C X.env) fp) t0 g0) (hi1 : ∀ s H C cl fp, PI (X.blk s H scope (compEnvC scope cl C X.env) fp) t1 i1 wi1) (hg1 : ∀ s H C cl fp, PG (X.blk s H scope (compEnvC scope cl C X.env) fp) t1 g1)
    (hi2 : ∀ s H C cl fp, PI (X.blk s H scope (compEnvC scope cl C X.env) fp) t2 i2 wi2) (hg2 : ∀ s H C cl fp, PG (X.blk s H scope (compEnvC scope cl C X.env) fp) t2 g2) (he : ∀ s H C cl fp, PE (X.blk s H scope (compEnvC scope cl C X.env) fp) elt te)
    (hs : ∀ x, foldedSetIterable i0 X.env x = pure x := by intro x; rfl) (hs1 : ∀ env x, foldedSetIterable i1 env x = pure x := by intro env x; rfl) (hs2 : ∀ env x, foldedSetIterable i2 env x = pure x := by intro env x; rfl) :
    PE X (.SetComp elt (gens3 t0 i0 t1 i1 t2 i2) scope ep) (tSc3 X.prog X.w wi0 wi1 wi2 g0 g1 g2 te (own.map (·.2)) vs1 vs2) := by
  refine ⟨fun pins s σ H Q I h => ?_⟩
  rw [PpSet.eval_SetComp]
  have hfree : ∀ y ∈ scope.names, y.2 = NameKind.free → ∃ c, X.env.cells.lookup y.1 = some c := fun y hy e => (ok.free y hy e).elim (fun k => I.ok.has y.1 (.inl k)) fun k => I.ok.has y.1 (.inr k)
  refine wpAny_comprehension_free (g := ⟨t0, i0, [], 0⟩) (gs := [⟨t1, i1, [], 0⟩, ⟨t2, i2, [], 0⟩]) rfl hs (closure_ok hfree) ok.kind (fun y hy e => by rw [ok.uniq y hy, e]) ?_
  refine thn (hi.run pins s σ H _ I h) fun xv s1 hx => thn hx fun itv s2 ⟨it, fp, tn, J, H2, e, I2, T, st2, f2, q⟩ => ?_
  subst e
  refine PpSet.newSet_ok ?_
  refine newEnv_comp ?_
  have hDn := I2.hok.fresh (Nat.le_refl _)
  obtain ⟨W, ⟨m0, w0⟩, turn⟩ := q s2.heap.objs.size hDn
  have ho : (s2.heap.push (newSetObj X.w)).get? s2.heap.objs.size = some (newSetObj X.w) := Heap.get?_push_size s2.heap rfl
  have R0 : XSet X.prog X.w (s2.heap.push (newSetObj X.w)) s2.heap.objs.size [] #[] 0 (.fresh 0 0 (!X.w.params.followText "set-order")) := ⟨ho, TxOk.nil rfl, List.nodup_nil, List.Pairwise.nil, led_new X.w⟩
  have new : ObjOk X.prog X.w (upd H2 s2.heap.objs.size (XSetO X.prog X.w s2.heap.objs.size [])) (s2.heap.push (newSetObj X.w)) s2.heap.objs.size (XSetO X.prog X.w s2.heap.objs.size []) :=
    ⟨⟨_, _, _, R0⟩, ⟨_, ho⟩, fun h1 h2 ⟨a1, a2, a3, a4⟩ kk => ⟨a1, a2, a3, a4.moved kk⟩⟩
  have I3 : L2.Inv X pins σ (upd H2 s2.heap.objs.size (XSetO X.prog X.w s2.heap.objs.size [])) { s2 with heap := s2.heap.push (newSetObj X.w) } := I2.laid (t' := s2.toks) (fun b o e => Heap.get?_push_of_some _ e) (Nat.le_refl _) new
  have sz : ∀ b ∈ fp, b < s2.heap.objs.size := fun b hb => by
    obtain ⟨o, e, _⟩ := T.obj 0 s2.heap st2 b hb
    exact Heap.lt_size e
  have f3 : ∀ b ∈ fp, FpOk X pins (upd H2 s2.heap.objs.size (XSetO X.prog X.w s2.heap.objs.size [])) b ∧ b < (s2.heap.push (newSetObj X.w)).objs.size := fun b hb => by
    have hlt := sz b hb
    refine ⟨⟨?_, (f2 b hb).2⟩, ?_⟩
    · rw [upd_ne (Nat.ne_of_lt hlt)]
      exact (f2 b hb).1
    · rw [Heap.size_push]
      exact Nat.lt_succ_of_lt hlt
  have I4 := block_start I3 ok hN f3
  have st4 : tn 0 (pushCells ((s2.heap.push (newSetObj X.w)).push { cls := .type "dict", data := .dict #[] }) scope.names) := T.keep 0 s2.heap _ st2 fun b hb o e => pushCells_keeps scope.names _ b o (Heap.get?_push_of_some _ (Heap.get?_push_of_some _ e))
  let s3 : Shared := { s2 with heap := s2.heap.push (newSetObj X.w) }
  let H3 : Hp := upd H2 s2.heap.objs.size (XSetO X.prog X.w s2.heap.objs.size [])
  let cl := cellsFrom (s3.heap.objs.size + 1) scope.names (cloFrom X.env.cells scope.names [])
  let Y : Cx := X.blk s3 H3 scope (compEnvC scope cl s3.heap.objs.size X.env) fp
  have hxe : ∀ e s, ¬ Y.xe e s := fun _ _ z => z
  have stat : ∀ {σ' H' s'}, L2.Inv Y [] σ' H' s' → (∀ b ∈ fp, H' b = none) → ∀ b ∈ fp, FpOk Y [] H' b := fun {σ' H' s'} I' hn b hb => ⟨hn b hb, (I'.ok.exf b hb).1, I'.ok.exfs b hb, .inl hb, fun x c e => (I'.ok.exf b hb).2 x c e, fun p hp => by
    have z : p ∈ ([] : List (Addr × Obj)) := hp
    exact nomatch z⟩
  have last := last_step (Y := Y) (D := s2.heap.objs.size) hxe (he s3 H3 s3.heap.objs.size cl fp)
  have mid := bk_step (Y := Y) (scope := scope) (ep := ep) (d := 1) (acc := .ref s2.heap.objs.size) (vs := vs2) (D := fun σ σ' => σ' = σ) hc hxe (gens := gens3 t0 i0 t1 i1 t2 i2) rfl (hs2 _) (hi2 s3 H3 s3.heap.objs.size cl fp) (hg2 s3 H3 s3.heap.objs.size cl fp) (fun it => turn3_2 it _ _)
    (fun it pl s σ H Nx Q E I hB hq => last pl s σ H Nx Q E _ I hB fun H' s' I' nx => hq σ H' s' I' rfl nx) (fun σ σ2 σ' hw hd => by subst hd; rw [← hw]; exact Le.wipe _ _)
  have top := bk_step (Y := Y) (scope := scope) (ep := ep) (d := 0) (acc := .ref s2.heap.objs.size) (vs := vs1) (D := fun σ σ' => σ' = wipe σ vs2) hc hxe (gens := gens3 t0 i0 t1 i1 t2 i2) rfl (hs1 _) (hi1 s3 H3 s3.heap.objs.size cl fp) (hg1 s3 H3 s3.heap.objs.size cl fp) (fun it => turn3_1 it _ _)
    (fun it pl s σ H Nx Q E I hB hq => mid pl s σ H Nx Q E _ I hB fun H' s' I' nx => hq _ H' s' I' rfl nx) (fun σ σ2 σ' hw hd => by subst hd; rw [← hw]; exact Le.wipes hv2)
  have loop : ∀ R : Result → Shared → Prop, (∀ s' H', L2.Inv Y [] (wipe σ (own.map (·.2))) H' s' → Q (.ref s2.heap.objs.size) H' → R (.ok .next) s') → codeAny (model Y.prog Y.w) Y.A (.compLoop (.SetComp elt (gens3 t0 i0 t1 i1 t2 i2) scope ep) 0 (.ref it) (.ref s2.heap.objs.size) Y.env) R _ := fun R hR =>
    loop_lvl (Y := Y) (σ0 := wipe σ (own.map (·.2))) (pins := []) (C := fun σ2 => wipe σ2 (own.map (·.2)) = wipe σ (own.map (·.2))) (B := lvlR wi1 g1 vs1 (lvlR wi2 g2 vs2 (lastR Y.prog Y.w s2.heap.objs.size te))) (tt := tYes) (W := W) (N := fun H' => Q (.ref s2.heap.objs.size) H') hc hxe (turn3_0 _ _ _) T (hg0 s3 H3 s3.heap.objs.size cl fp) pts_nil
      (fun pl2 s σ2 H Nx2 Q E I hC hB hq => top pl2 s σ2 H Nx2 Q E _ I hB fun H' s' I' nx => hq _ H' s' I' (by rw [← hC]; exact Le.wipes hv1) nx)
      (fun σ2 hC => by have z := Le.wipe σ2 (own.map (·.2)); rw [hC] at z; exact z) turn hR m0 0 H3 _ I4 st4 (stat I4 fun b hb => (f3 b hb).1.1) w0
  have fin : ∀ s6 H5, L2.Inv Y [] (wipe σ (own.map (·.2))) H5 s6 → Q (.ref s2.heap.objs.size) H5 → compPost (model X.prog X.w) X.A X.xe none (EP X pins σ Q) (.ref s2.heap.objs.size) s3.heap.objs.size (.ok .next) s6 := fun s6 H5 I6 qq => by
    have I7 : L2.Inv X pins σ H5 s6 := Inv.call' I3 I6.os I6.base I6.hok I6.bare fun b hb => ⟨(f3 b hb).1.2.2.2.1, (f3 b hb).1.2.1, (f3 b hb).1.2.2.2.2.1, (f3 b hb).1.2.2.2.2.2⟩
    have nC : H5 s3.heap.objs.size = none := I6.free
    obtain ⟨m, hn, _⟩ := I6.loc
    obtain ⟨k0, k1, k2, k3, k4, k5⟩ := Inv.fpOk I3 (Nat.le_refl _) nC
    exact ⟨m, hn, fun h'' sb => ⟨.ref s2.heap.objs.size, H5, Inv.turned I7 (fun b o hb e => (sb.2 b hb).trans e) k0 k1 k3 k4 k5, rfl, qq⟩⟩
  refine start_lvl (d := 0) (t := t0) (i := i0) (ifs := []) rfl ?_ ?_
  · exact loop _ fin
  · exact T.self _ 0 _ _ _ st4 (loop _ fin)
end
end Rw
namespace Rw
open PySem PySem.Spec PyProof.Rows L2
/-! ### Program.names -/
theorem scNames : FnScope ["self", "row", "part", "name"] ["self"] (defScope sNames) := ⟨rfl, rfl, rfl, by decide +kernel, rfl, by decide +kernel, by decide +kernel⟩
/-- a walk over a tuple, the heap followed, as one level of a comprehension reads it -/
theorem lvl_tup {K : PySem.W.Frag} {a : Addr} {xs : List V} {H0 : Hp} {Qd : Hp → Prop} {B : V → Hp → (Hp → Prop) → Prop} (Pv : Nat → Hp → Prop) (h0 : Pv 0 H0) (hl : ∀ i H, i ≤ xs.length → Pv i H → SqT K H a xs) (hs : ∀ i x H, xs[i]? = some x → Pv i H → B x H (Pv (i + 1))) (hd : ∀ H, Pv xs.length H → Qd H) :
    ∃ W : Nat → Nat → Hp → Prop, (∃ m, W 0 m H0) ∧ ∀ i m H, W i m H → ((Itt K a).stop i H ∧ Qd H) ∨ ((Itt K a).go i H ∧ ∃ Nx : Hp → Prop, (∀ H', Nx H' → ∃ m', m' < m ∧ W (i + 1) m' H') ∧ ∀ x H', (Itt K a).yld i H x H' → B x H' Nx) := by
  refine ⟨fun i m H => m = xs.length - i ∧ i ≤ xs.length ∧ Pv i H, ⟨xs.length, by simp, Nat.zero_le _, h0⟩, ?_⟩
  rintro i m H ⟨rfl, hi, p⟩
  have hS := hl i H hi p
  by_cases hlt : i < xs.length
  · refine .inr ⟨⟨xs, xs[i], hS, List.getElem?_eq_getElem hlt⟩, Pv (i + 1), fun H' p' => ⟨xs.length - (i + 1), by omega, rfl, hlt, p'⟩, fun y H' yy => ?_⟩
    obtain ⟨rfl, fv⟩ := yy
    exact hs i y _ (fv xs hS) p
  · have e : i = xs.length := by omega
    subst e
    exact .inl ⟨⟨xs, hS, Nat.le_refl _⟩, hd H p⟩
/-- the names of a rule, of rules -/
def ownN (r : Rl) : W := (parts r).flatMap id
def namesL (S : List Rl) : W := S.flatMap ownN
theorem ownN_len {r : Rl} (h : IsR r) : (ownN r).length ≤ 160 := by
  unfold ownN parts
  simp only [List.flatMap_cons, List.flatMap_nil, List.length_append, List.length_nil, id]
  have := h.h.few
  have := h.d.few
  have := h.n.few
  have := h.b.few
  omega
section
variable {P : Program} {w : World} {K : PySem.W.Frag} {mg : Str → Option Value} {base : Heap} {f : Addr} {fd : FuncData} {k : Nat}
/-- the sorted names of a program whose names are among few -/
def spNames (K : PySem.W.Frag) (C : Addr) : Sp := fun vs H Q _ => ∃ (v : V) (S : List Rl) (bd : W), vs = [v] ∧ PgAt K C H v S ∧ (∀ r ∈ S, IsR r) ∧ (∀ z ∈ namesL S, z ∈ bd) ∧ bd.length ≤ 40 ∧ ∀ H' t (ns : W), Same H H' → SqT K H' t (ns.map V.str) → IsW ns → (∀ z, z ∈ ns ↔ z ∈ namesL S) → Q (.ref t) H'
theorem ok_names {C : Addr} (F : Fun K "names" "Program.names" sNames f fd) (T : Bl mg) (c : Cls K C) (n : NoAttr K C "_rules") : FnOk P w K mg base CX0 (k + 1) f fd ["self"] (spNames K C) := by
  refine F.ok scNames (fun vs H Q E h => ?_) (fun cdv A outer s H vs Q E hr h => ?_)
  · obtain ⟨v, S, bd, rfl, _⟩ := h
    rfl
  obtain ⟨v, S, bd, rfl, ⟨a, dx, t, ys, rfl, h1, h2, h3⟩, hI, hbd, b40, q⟩ := h
  refine ⟨_, pss_one (ps_ret (pe_callTy call_tuple_of (by rfl) T.tuple (by decide +kernel) (pa_cons (pe_callB (cr_sortX rfl hr.units) (by rfl) T.sorted (by decide +kernel) (pa_cons
    (pe_sc3 (own := [("row", 1), ("part", 2), ("name", 3)]) (vs1 := [2, 3]) (vs2 := [3]) (g0 := gName 1) (g1 := gName 2) (g2 := gName 3) (wi1 := iTup K (tVar 1)) (wi2 := iTup K (tVar 2)) (te := tVar 3) rfl scNames.nd (pi_tup (pe_fld (pv 0) rfl)) (blkOk_by (N := ["self", "row", "part", "name"]) (sc := defScope sNames) (by decide +kernel)) (by decide) (by decide)
      (fun _ _ _ _ _ => pg_name (i := 1) scNames.nd rfl (Or.inl rfl)) (fun _ _ _ _ _ => pi_tup (pv 1)) (fun _ _ _ _ _ => pg_name (i := 2) scNames.nd rfl (Or.inl rfl)) (fun _ _ _ _ _ => pi_tup (pv 2)) (fun _ _ _ _ _ => pg_name (i := 3) scNames.nd rfl (Or.inl rfl)) (fun _ _ _ _ _ => pv 3)) pa_nil)) pa_nil))), ?_⟩
  have yl : ys.length = S.length := by rw [dpAll_len h3, List.length_map]
  have few : ∀ ms : W, ms.Nodup → (∀ z ∈ ms, z ∈ bd) → ms.length ≤ 40 := fun ms nd h => Nat.le_trans (nodup_len_le nd h) b40
  have sb : scanBound = 4096 := rfl
  refine ⟨.ref a, rfl, a, C, dx, _, .ref t, rfl, h1, c, n, rfl, t, rfl, ⟨_, h2⟩, fun D hD => ?_⟩
  refine lvl_tup (xs := ys) (fun i H1 => Same H H1 ∧ ∃ ms : W, H1 D = some (XSetO P w D ms) ∧ ms.Nodup ∧ ∀ z, z ∈ ms ↔ z ∈ namesL (S.take i)) ⟨same_new hD _, [], upd_same, List.nodup_nil, fun z => Iff.rfl⟩ (fun i H1 _ hI => same_tup hI.1 h2) (fun i x H1 hx hI1 => ?_) (fun H1 hI1 => ?_)
  · obtain ⟨sm, ms, hm, nd, mem⟩ := hI1
    obtain ⟨dd, hdd, hxd⟩ := dpAll_at' h3 hx
    obtain ⟨r, hr0, rfl⟩ := map_at hdd
    have hrS := List.mem_of_getElem? hr0
    have hr' := hI r hrS
    have own_bd : ∀ z ∈ ownN r, z ∈ bd := fun z hz => hbd z (List.mem_flatMap.mpr ⟨r, hrS, hz⟩)
    have top_bd : ∀ z ∈ namesL (S.take i), z ∈ bd := fun z hz => by
      obtain ⟨q, hq, hz⟩ := List.mem_flatMap.mp hz
      exact hbd z (List.mem_flatMap.mpr ⟨q, List.mem_of_mem_take hq, hz⟩)
    have step : namesL (S.take (i + 1)) = namesL (S.take i) ++ ownN r := by
      unfold namesL
      rw [take_snoc hr0, List.flatMap_append]
      simp
    unfold rd at hxd
    cases hxd with
    | @tup b xs _ hT hxs =>
      have xl : xs.length = (parts r).length := by rw [dpAll_len hxs, List.length_map]
      refine ⟨rfl, .ref b, rfl, b, rfl, ⟨_, same_tup sm hT⟩, ?_⟩
      refine lvl_tup (xs := xs) (fun j H2 => Same H H2 ∧ ∃ ms : W, H2 D = some (XSetO P w D ms) ∧ ms.Nodup ∧ ∀ z, z ∈ ms ↔ z ∈ namesL (S.take i) ∨ z ∈ ((parts r).take j).flatMap id) ⟨sm, ms, hm, nd, fun z => by rw [mem z]; simp⟩ (fun j H2 _ hI => same_tup hI.1 hT) (fun j y H2 hy hI2 => ?_) (fun H2 hI2 => ?_)
      · obtain ⟨sm2, ms2, hm2, nd2, mem2⟩ := hI2
        obtain ⟨d, hdi, hyd⟩ := dpAll_at' hxs hy
        obtain ⟨p, hp, rfl⟩ := map_at hdi
        obtain ⟨u, rfl, hU⟩ := of_wd hyd
        have in_own : ∀ z ∈ ((parts r).take j).flatMap id, z ∈ ownN r := fun z hz => by
          obtain ⟨q, hq, hz⟩ := List.mem_flatMap.mp hz
          exact List.mem_flatMap.mpr ⟨q, List.mem_of_mem_take hq, hz⟩
        have p_own : ∀ z ∈ p, z ∈ ownN r := fun z hz => List.mem_flatMap.mpr ⟨p, List.mem_of_getElem? hp, hz⟩
        refine ⟨rfl, .ref u, rfl, u, rfl, ⟨_, same_tup sm2 hU⟩, ?_⟩
        refine lvl_tup (xs := p.map V.str) (fun l H3 => Same H H3 ∧ ∃ ms : W, H3 D = some (XSetO P w D ms) ∧ ms.Nodup ∧ ∀ z, z ∈ ms ↔ (z ∈ namesL (S.take i) ∨ z ∈ ((parts r).take j).flatMap id) ∨ z ∈ p.take l) ⟨sm2, ms2, hm2, nd2, fun z => by rw [mem2 z]; simp⟩ (fun l H3 _ hI => same_tup hI.1 hU) (fun l v H3 hv hI3 => ?_) (fun H3 hI3 => ?_)
        · obtain ⟨sm3, ms3, hm3, nd3, mem3⟩ := hI3
          obtain ⟨z, hz, rfl⟩ := map_at hv
          have f3 := few ms3 nd3 fun z hz => by
            rcases (mem3 z).mp hz with (h | h) | h
            · exact top_bd z h
            · exact own_bd z (in_own z h)
            · exact own_bd z (p_own z (List.mem_of_mem_take h))
          refine ⟨rfl, .str z, rfl, z, ms3, rfl, hm3, by omega, fun ms' nd' hm' _ => ⟨same_put sm3 hD, ms', upd_same, nd', fun u => ?_⟩⟩
          rw [hm' u, mem3 u, take_snoc hz, List.mem_append, List.mem_singleton]
          exact ⟨fun h => h.elim (fun e => .inr (.inr e)) fun h => h.elim .inl fun h => .inr (.inl h), fun h => h.elim (fun h => .inr (.inl h)) fun h => h.elim (fun h => .inr (.inr h)) .inl⟩
        · obtain ⟨sm3, ms3, hm3, nd3, mem3⟩ := hI3
          rw [List.length_map, List.take_length] at mem3
          refine ⟨sm3, ms3, hm3, nd3, fun z => ?_⟩
          rw [mem3 z, take_snoc hp, List.flatMap_append, List.mem_append]
          simp [or_assoc]
      · obtain ⟨sm2, ms2, hm2, nd2, mem2⟩ := hI2
        rw [xl, List.take_length] at mem2
        refine ⟨sm2, ms2, hm2, nd2, fun z => ?_⟩
        rw [mem2 z, step, List.mem_append]
        exact Iff.rfl
  · obtain ⟨sm, ms, hm, nd, mem⟩ := hI1
    rw [yl, List.take_length] at mem
    have f1 := few ms nd fun z hz => hbd z ((mem z).mp hz)
    refine ⟨D, ms, rfl, hm, by omega, fun zs L hz nz hlz rz hL => ?_⟩
    have sL := same_new hL (.lst (zs.map V.str))
    refine ⟨L, _, rfl, .inl ⟨SqL.of upd_same, fun t2 ht2 => ?_⟩⟩
    have s2 := same_new ht2 (.tup (zs.map V.str))
    have nam : ∀ z ∈ namesL S, nameB z = true := fun z hz => by
      obtain ⟨r, hr, hz⟩ := List.mem_flatMap.mp hz
      obtain ⟨p, hp, hz⟩ := List.mem_flatMap.mp hz
      exact ((hI r hr).all p hp).names z hz
    have memz : ∀ z, z ∈ zs ↔ z ∈ namesL S := fun z => (hz z).trans (mem z)
    exact q _ t2 zs (sm.trans (sL.trans s2)) (SqT.of upd_same) ⟨fun z hz => nam z ((memz z).mp hz), upX_of rz nz, by omega⟩ memz
end
end Rw
namespace Rw
open PySem PySem.Spec PyProof.Rows L2
/-! ### names in and out -/
theorem scHasAll : FnScope ["names", "wanted", "name"] ["names", "wanted"] (defScope sHasAll) := ⟨rfl, rfl, rfl, by decide +kernel, rfl, by decide +kernel, by decide +kernel⟩
/-- a list or a tuple of names -/
def Ws (K : PySem.W.Frag) (H : Hp) (v : V) (ns : W) : Prop := ∃ a, v = .ref a ∧ (SqL K H a (ns.map V.str) ∨ SqT K H a (ns.map V.str))
theorem Ws.same {K : PySem.W.Frag} {H H' : Hp} {v : V} {ns : W} (h : Ws K H v ns) (e : Same H H') : Ws K H' v ns := by
  obtain ⟨a, rfl, h⟩ := h
  exact ⟨a, rfl, h.elim (fun z => .inl (e.seq z)) (fun z => .inr (same_tup e z))⟩
theorem Ws.wd {K : PySem.W.Frag} {H : Hp} {v : V} {ns : W} (h : Dp K H v (Rw.wd ns)) : Ws K H v ns := by
  obtain ⟨a, rfl, h'⟩ := of_wd h
  exact ⟨a, rfl, .inr h'⟩
def meets (ns ms : W) : Bool := ns.any fun z => decide (z ∈ ms)
def minus (ns ms : W) : W := ns.filter fun z => !decide (z ∈ ms)
def hasK (kvs : List (Key × V)) (z : Str) : Bool := (valV kvs (.inr z)).isSome
section
variable {P : Program} {w : World} {K : PySem.W.Frag} {mg : Str → Option Value} {base : Heap} {f : Addr} {fd : FuncData} {k : Nat}
def spHasAll (K : PySem.W.Frag) : Sp := fun vs H Q _ => ∃ (x y : V) (ns ms : W), vs = [x, y] ∧ Ws K H x ns ∧ Ws K H y ms ∧ ms.length ≤ 1000 ∧ ∀ H', Same H H' → Q (.bl (sub ms ns)) H'
theorem ok_hasAll (F : Fun K "has_all" "has_all" sHasAll f fd) (T : Bl mg) : FnOk P w K mg base CX0 (k + 1) f fd ["names", "wanted"] (spHasAll K) := by
  refine F.ok scHasAll (fun vs H Q E h => ?_) (fun cdv A outer s H vs Q E hr h => ?_)
  · obtain ⟨x, y, ns, ms, rfl, _⟩ := h
    rfl
  obtain ⟨x, y, ns, ms, rfl, ⟨a, rfl, hS⟩, ⟨b, rfl, hT⟩, few, q⟩ := h
  have turn : ∀ (D : Addr) (i : Nat) (z : Str) (H1 : Hp), ms[i]? = some z → H D = none → Same H H1 ∧ H1 D = some (.lst ((ms.take i).map fun z => V.bl (decide (z ∈ ns)))) → SqL K H1 a (ns.map V.str) ∨ SqT K H1 a (ns.map V.str) := fun D i z H1 _ _ ⟨sm, _⟩ => hS.elim (fun z => .inl (sm.seq z)) (fun z => .inr (same_tup sm z))
  have step : ∀ (D : Addr) (i : Nat) (z : Str) (H1 : Hp), ms[i]? = some z → H D = none → Same H H1 ∧ H1 D = some (.lst ((ms.take i).map fun z => V.bl (decide (z ∈ ns)))) → ∃ acc, H1 D = some (.lst acc) ∧ acc.length < sizeLine ∧ (Same H (upd H1 D (.lst (acc ++ [V.bl (inV (.str z) (ns.map V.str))]))) ∧ (upd H1 D (.lst (acc ++ [V.bl (inV (.str z) (ns.map V.str))]))) D = some (.lst ((ms.take (i + 1)).map fun z => V.bl (decide (z ∈ ns))))) := fun D i z H1 hz hD ⟨sm, hd⟩ => by
    refine ⟨_, hd, small_line' (by rw [List.length_map, List.length_take]; omega), same_put sm hD, ?_⟩
    rw [upd_same, take_snoc hz, List.map_append, inV_str]
    rfl
  have fin : ∀ (D : Addr) (H1 : Hp), Same H H1 → H1 D = some (.lst ((ms.take ms.length).map fun z => V.bl (decide (z ∈ ns)))) → ∃ (a : Addr) (bs : List Bool), [V.ref D] = [V.ref a] ∧ SqL K H1 a (bs.map V.bl) ∧ Q (.bl (bs.all id)) H1 := fun D H1 sm hd => by
    rw [List.take_length] at hd
    refine ⟨D, ms.map fun z => decide (z ∈ ns), rfl, SqL.of (by rw [List.map_map]; exact hd), ?_⟩
    have z : (ms.map fun z => decide (z ∈ ns)).all id = sub ms ns := by
      unfold sub
      rw [List.all_map]
      rfl
    rw [z]
    exact q H1 sm
  rcases hT with hT | hT
  · refine ⟨_, pss_one (ps_ret (pe_callB (cr_all rfl) (by rfl) T.all (by decide +kernel) (pa_cons (pe_lc (own := [("name", 2)]) (g := gName 2) (by rfl) scHasAll.nd (pi_list (pv 1)) (blkOk_by (N := ["names", "wanted", "name"]) (sc := defScope sHasAll) (by decide +kernel))
        (fun _ _ _ _ _ => pg_name (i := 2) scHasAll.nd rfl (Or.inl rfl)) (fun _ _ _ _ _ => pts_nil) (fun _ _ _ _ _ => pe_cmpR (r := rIn K false) op_in_seq (pv 2) (pv 0) (by rfl))) pa_nil))), ?_⟩
    refine ⟨.ref b, rfl, b, rfl, ⟨_, hT⟩, fun D hD => ?_⟩
    refine lc_list (xs := ms.map V.str) (fun i H1 => Same H H1 ∧ H1 D = some (.lst ((ms.take i).map fun z => V.bl (decide (z ∈ ns))))) ⟨same_new hD _, upd_same⟩ (fun i H1 _ hI => hI.1.seq hT) (fun i x H1 hx hI => ?_) (fun H1 hI => ?_)
    · obtain ⟨z, hz, rfl⟩ := map_at hx
      exact ⟨rfl, .str z, rfl, .ref a, rfl, a, ns.map V.str, rfl, turn D i z H1 hz hD hI, rfl, flat_strs ns, step D i z H1 hz hD hI⟩
    · obtain ⟨sm, hd⟩ := hI
      rw [List.length_map] at hd
      exact fin D H1 sm hd
  · refine ⟨_, pss_one (ps_ret (pe_callB (cr_all rfl) (by rfl) T.all (by decide +kernel) (pa_cons (pe_lc (own := [("name", 2)]) (g := gName 2) (by rfl) scHasAll.nd (pi_tup (pv 1)) (blkOk_by (N := ["names", "wanted", "name"]) (sc := defScope sHasAll) (by decide +kernel))
        (fun _ _ _ _ _ => pg_name (i := 2) scHasAll.nd rfl (Or.inl rfl)) (fun _ _ _ _ _ => pts_nil) (fun _ _ _ _ _ => pe_cmpR (r := rIn K false) op_in_seq (pv 2) (pv 0) (by rfl))) pa_nil))), ?_⟩
    refine ⟨.ref b, rfl, b, rfl, ⟨_, hT⟩, fun D hD => ?_⟩
    refine lc_tup (xs := ms.map V.str) (fun i H1 => Same H H1 ∧ H1 D = some (.lst ((ms.take i).map fun z => V.bl (decide (z ∈ ns))))) ⟨same_new hD _, upd_same⟩ (fun i H1 _ hI => same_tup hI.1 hT) (fun i x H1 hx hI => ?_) (fun H1 hI => ?_)
    · obtain ⟨z, hz, rfl⟩ := map_at hx
      exact ⟨rfl, .str z, rfl, .ref a, rfl, a, ns.map V.str, rfl, turn D i z H1 hz hD hI, rfl, flat_strs ns, step D i z H1 hz hD hI⟩
    · obtain ⟨sm, hd⟩ := hI
      rw [List.length_map] at hd
      exact fin D H1 sm hd
end
theorem scENotProg : FnScope ["self", "thing"] ["self", "thing"] (defScope sENotProg) := ⟨rfl, rfl, rfl, by decide +kernel, rfl, by decide +kernel, by decide +kernel⟩
theorem scEWorld : FnScope ["self", "thing"] ["self", "thing"] (defScope sEWorld) := ⟨rfl, rfl, rfl, by decide +kernel, rfl, by decide +kernel, by decide +kernel⟩
section
variable {P : Program} {w : World} {K : PySem.W.Frag} {mg : Str → Option Value} {base : Heap} {f : Addr} {fd : FuncData} {k : Nat}
theorem ok_eNotProg {C : Addr} (F : FunD K "__init__" "NotAProgram.__init__" (defArgs sENotProg) (defBody sENotProg) (defScope sENotProg) [.non] [] f fd) (O : OexC K C) (no : PySem.W.findIn K (.ref C) "thing" = some none) : FnOk P w K mg base CX0 (k + 1) f fd ["self", "thing"] (spErr C "thing") := by
  refine F.ok scENotProg (fun vs H Q E h => ?_) (fun cdv A outer s H vs Q E hr h => ?_)
  · obtain ⟨a, v, rfl, _⟩ := h
    rfl
  obtain ⟨a, v, rfl, ha, q⟩ := h
  exact ⟨_, PSs.nox (pss_one (ps_ost (pv 0) (pv 1))), v, rfl, .ref a, rfl, a, C, rfl, O, no, .inl ⟨ha, fun dx h1 h2 => q dx h1 h2⟩⟩
theorem ok_eWorld {C : Addr} (F : FunD K "__init__" "InvalidWorld.__init__" (defArgs sEWorld) (defBody sEWorld) (defScope sEWorld) [.non] [] f fd) (O : OexC K C) (no : PySem.W.findIn K (.ref C) "thing" = some none) : FnOk P w K mg base CX0 (k + 1) f fd ["self", "thing"] (spErr C "thing") := by
  refine F.ok scEWorld (fun vs H Q E h => ?_) (fun cdv A outer s H vs Q E hr h => ?_)
  · obtain ⟨a, v, rfl, _⟩ := h
    rfl
  obtain ⟨a, v, rfl, ha, q⟩ := h
  exact ⟨_, PSs.nox (pss_one (ps_ost (pv 0) (pv 1))), v, rfl, .ref a, rfl, a, C, rfl, O, no, .inl ⟨ha, fun dx h1 h2 => q dx h1 h2⟩⟩
end
/-! ### refusals -/
theorem scCheckProgram : FnScope ["thing"] ["thing"] (defScope sCheckProgram) := ⟨rfl, rfl, rfl, by decide +kernel, rfl, by decide +kernel, by decide +kernel⟩
theorem scCheckWorld : FnScope ["thing"] ["thing"] (defScope sCheckWorld) := ⟨rfl, rfl, rfl, by decide +kernel, rfl, by decide +kernel, by decide +kernel⟩
/-- what the text's own error class with one field is -/
structure ErrT (P : Program) (w : World) (K : PySem.W.Frag) (mg : Str → Option Value) (base : Heap) (k : Nat) (x : Str) (n : Str) (C : Addr) : Prop where
  oex : OexC K C
  ex : ∃ (fI : Addr) (fd : FuncData), PySem.W.findIn K (.ref C) "__init__" = some (some (.ref fI)) ∧ PySem.W.typeIn K (.ref fI) = some (.type "function") ∧ FnOk P w K mg base CX0 k fI fd ["self", n] (spErr C n) ∧ Binds K fd ["self", n] []
  m : mg x = some (.ref C)
/-- what a program's class says of what is no program -/
structure PgC (K : PySem.W.Frag) (mg : Str → Option Value) (C : Addr) : Prop where
  yes : PySem.W.kitOne K (.ref C) (.ref C) = some true
  non : PySem.W.kitOne K (.type "NoneType") (.ref C) = some false
  bool : PySem.W.kitOne K (.type "bool") (.ref C) = some false
  int : PySem.W.kitOne K (.type "int") (.ref C) = some false
  str : PySem.W.kitOne K (.type "str") (.ref C) = some false
  list : PySem.W.kitOne K (.type "list") (.ref C) = some false
  tuple : PySem.W.kitOne K (.type "tuple") (.ref C) = some false
  dict : PySem.W.kitOne K (.type "dict") (.ref C) = some false
  m : mg "Program" = some (.ref C)
  cls : Cls K C
  cg : PySem.W.findIn K (.ref C) "__class__" = some (some (.builtin "object.__class__"))
  sp : PySem.W.specialIn K (.builtin "object.__class__") "__get__" = some (some (.builtin "getset_descriptor.__get__"))
  tk : PySem.W.takesIn K (.builtin "object.__class__") = some true
  mro : PySem.W.mroIn K C (.type "object") = some true
section
variable {P : Program} {w : World} {K : PySem.W.Frag} {mg : Str → Option Value} {base : Heap} {f : Addr} {fd : FuncData} {k : Nat}
theorem PgC.odd {C : Addr} (T : PgC K mg C) : ∀ d : PyData, PySem.W.kitOne K (.type (tyName d)) (.ref C) = some false
  | .none => T.non
  | .bool _ => T.bool
  | .int _ => T.int
  | .str _ => T.str
  | .list _ => T.list
  | .tuple _ => T.tuple
  | .dict _ => T.dict
def spCheckProgram (K : PySem.W.Frag) (C CE : Addr) : Sp := fun vs H Q E => ∃ v : V, vs = [v] ∧ ((∃ S, PgAt K C H v S ∧ Q .non H) ∨ (∃ d, Dp K H v d ∧ ∀ dx, H dx = none → E (.ref CE) (some dx) (upd H dx (.xd [(("thing" : Str), v)]))))
theorem ok_checkProgram {C CE : Addr} (F : Fun K "check_program" "check_program" sCheckProgram f fd) (T : Bl mg) (G : PgC K mg C) (X : ErrT P w K mg base k "NotAProgram" "thing" CE) : FnOk P w K mg base (L2.CX P w) (k + 2) f fd ["thing"] (spCheckProgram K C CE) := by
  obtain ⟨fI, fdI, i1, i2, i3, i4⟩ := X.ex
  refine F.okX scCheckProgram (fun vs H Q E h => ?_) (fun cdv A outer s H vs Q E hr h => ?_)
  · obtain ⟨v, rfl, _⟩ := h
    rfl
  obtain ⟨v, rfl, h⟩ := h
  refine ⟨_, pss_one (ps_if (pt_not (pt_val (pe_callB call_isi (by rfl) T.isi PyProof.Rows.boot_isinstance (pa_cons (pv 0) (pa_cons (pe_glob (v := .ref C) (by rfl) G.m rfl) pa_nil)))))
    (pss_one (ps_raise rfl (takes_of rfl rfl rfl rfl) (pmk_oex X.oex i1 i2 i3 hr i4 .nil pass0 (by rfl) X.m (pa_cons (pv 0) pa_nil)))) pss_nil), ?_⟩
  rcases h with ⟨S, hS, q⟩ | ⟨d, hd, q⟩
  · obtain ⟨a, dx, t, ys, rfl, h1, h2, h3⟩ := hS
    exact ⟨.ref a, rfl, .ref a, .ref C, .ref C, .ref C, true, rfl, .own C, .base (.ins h1 G.cls G.cg G.sp G.tk G.mro), G.yes, true, rfl, iteF q⟩
  · exact ⟨v, rfl, v, .ref C, .type (tyName d), .ref C, false, rfl, .own C, tyx_dp hd, G.odd d, false, rfl, iteT ⟨v, rfl, err_made q⟩⟩
def spCheckWorld (K : PySem.W.Frag) (CE : Addr) : Sp := fun vs H Q E => ∃ (v : V) (d : PyData), vs = [v] ∧ Dp K H v d ∧ oddW d ∧ ∀ H', Same H H' → (worldD d = true → Q .non H') ∧ (worldD d = false → ∀ dx, H' dx = none → E (.ref CE) (some dx) (upd H' dx (.xd [(("thing" : Str), v)])))
theorem ok_checkWorld {f1 CE : Addr} {fd1 : FuncData} (F : Fun K "check_world" "check_world" sCheckWorld f fd) (G1 : FnOk P w K mg base CX0 (k + 1) f1 fd1 ["thing"] (spIsWorld K)) (b1 : Binds K fd1 ["thing"] []) (k1 : PySem.W.keepIn K (.ref f1) = true) (m1 : mg "is_world" = some (.ref f1)) (X : ErrT P w K mg base k "InvalidWorld" "thing" CE) :
    FnOk P w K mg base (L2.CX P w) (k + 2) f fd ["thing"] (spCheckWorld K CE) := by
  obtain ⟨fI, fdI, i1, i2, i3, i4⟩ := X.ex
  refine F.okX scCheckWorld (fun vs H Q E h => ?_) (fun cdv A outer s H vs Q E hr h => ?_)
  · obtain ⟨v, d, rfl, _⟩ := h
    rfl
  obtain ⟨v, d, rfl, hd, odd, q⟩ := h
  refine ⟨_, pss_one (ps_if (pt_not (pt_val (pe_call G1 hr (by rfl) m1 k1 b1 .nil pass0 (pa_cons (pv 0) pa_nil))))
    (pss_one (ps_raise rfl (takes_of rfl rfl rfl rfl) (pmk_oex X.oex i1 i2 i3 hr i4 .nil pass0 (by rfl) X.m (pa_cons (pv 0) pa_nil)))) pss_nil), ?_⟩
  refine ⟨v, rfl, v, d, rfl, hd, odd, fun H1 s1 => ⟨_, rfl, ?_⟩⟩
  cases e : worldD d with
  | true => exact iteF ((q H1 s1).1 e)
  | false => exact iteT ⟨v, rfl, err_made ((q H1 s1).2 e)⟩
end
end Rw
namespace Rw
open PySem PySem.Spec PyProof.Rows L2
/-! ### an empty dict is no world -/
theorem fn_or {P : Program} {w : World} {K : PySem.W.Frag} {mg : Str → Option Value} {base : Heap} {CX : CXT} {k : Nat} {f : Addr} {fd : FuncData} {ps : List Str} {sp sp' : Sp} (F : FnOk P w K mg base CX k f fd ps sp) (F' : FnOk P w K mg base CX k f fd ps sp') :
    FnOk P w K mg base CX k f fd ps (fun vs H Q E => sp vs H Q E ∨ sp' vs H Q E) :=
  ⟨fun vs H Q E q => q.elim (F.len vs H Q E) (F'.len vs H Q E), fun A outer s H args us vs Q E hr he hb hv hs => hs.elim (F.run A outer s H args us vs Q E hr he hb hv) (F'.run A outer s H args us vs Q E hr he hb hv)⟩
/-- an odd value, or an empty dict -/
def WQ (K : PySem.W.Frag) (H : Hp) (x : V) (d : PyData) : Prop := (Dp K H x d ∧ oddW d) ∨ (d = .dict [] ∧ ∃ a, x = .ref a ∧ H a = some (.dK []))
theorem WQ.same {K : PySem.W.Frag} {H H' : Hp} {x : V} {d : PyData} (h : WQ K H x d) (e : Same H H') : WQ K H' x d := by
  rcases h with ⟨h, o⟩ | ⟨h, a, h1, h2⟩
  · exact .inl ⟨dp_same e _ _ h, o⟩
  · exact .inr ⟨h, a, h1, e _ _ h2⟩
theorem WQ.wd {K : PySem.W.Frag} {H : Hp} {x : V} {d : PyData} (h : WQ K H x d) (t : worldD d = true) : ∃ ns, IsW ns ∧ d = wd ns ∧ Dp K H x (wd ns) := by
  rcases h with ⟨h, o⟩ | ⟨rfl, _⟩
  · obtain ⟨ns, hn, rfl⟩ := worldD_of o t
    exact ⟨ns, hn, rfl, h⟩
  · exact nomatch t
section
variable {P : Program} {w : World} {K : PySem.W.Frag} {mg : Str → Option Value} {base : Heap} {f : Addr} {fd : FuncData} {k : Nat}
def spIsWorldE : Sp := fun vs H Q _ => ∃ (a : Addr), vs = [.ref a] ∧ H a = some (.dK []) ∧ Q (.bl false) H
theorem ok_isWorldE {f1 f2 : Addr} {fd1 fd2 : FuncData} (F : Fun K "is_world" "is_world" sIsWorld f fd) (T : Bl mg) (G1 : FnOk P w K mg base CX0 k f1 fd1 ["thing"] (spAreNames K)) (b1 : Binds K fd1 ["thing"] []) (k1 : PySem.W.keepIn K (.ref f1) = true) (m1 : mg "_are_names" = some (.ref f1))
    (G2 : FnOk P w K mg base CX0 k f2 fd2 ["names"] (spSetOf K)) (b2 : Binds K fd2 ["names"] []) (k2 : PySem.W.keepIn K (.ref f2) = true) (m2 : mg "_set_of" = some (.ref f2)) : FnOk P w K mg base CX0 (k + 1) f fd ["thing"] spIsWorldE := by
  refine F.ok scIsWorld (fun vs H Q E h => ?_) (fun cdv A outer s H vs Q E hr h => ?_)
  · obtain ⟨a, rfl, _⟩ := h
    rfl
  obtain ⟨a, rfl, ha, q⟩ := h
  refine ⟨_, pss_one (ps_ret (pe_and (pe_callB call_isi (by rfl) T.isi PyProof.Rows.boot_isinstance (pa_cons (pv 0) (pa_cons (pe_bltn (v := .ty "tuple") (by rfl) T.tuple (by decide +kernel) rfl) pa_nil)))
    (pe_and (pe_call G1 hr (by rfl) m1 k1 b1 .nil pass0 (pa_cons (pv 0) pa_nil)) (pe_one (pe_cmpR (op_eqD hr.units) (pv 0) (pe_call G2 hr (by rfl) m2 k2 b2 .nil pass0 (pa_cons (pv 0) pa_nil)) (nomark _)))))), ?_⟩
  exact ⟨.ref a, rfl, .ref a, .ty "tuple", .type "dict", .type "tuple", false, rfl, .ty _, .base (.dK ha), kit_ty (by decide +kernel), false, rfl, iteF q⟩
def spIsWorldQ (K : PySem.W.Frag) : Sp := fun vs H Q _ => ∃ (x : V) (d : PyData), vs = [x] ∧ WQ K H x d ∧ ∀ H', Same H H' → Q (.bl (worldD d)) H'
theorem ok_isWorldQ (G : FnOk P w K mg base CX0 k f fd ["thing"] (spIsWorld K)) (G' : FnOk P w K mg base CX0 k f fd ["thing"] spIsWorldE) : FnOk P w K mg base CX0 k f fd ["thing"] (spIsWorldQ K) := by
  refine (fn_or G G').imp fun vs H Q E h => ?_
  obtain ⟨x, d, rfl, h | ⟨rfl, a, rfl, ha⟩, q⟩ := h
  · exact .inl ⟨x, d, rfl, h.1, h.2, q⟩
  · exact .inr ⟨a, rfl, ha, q H (fun _ _ e => e)⟩
def spCheckWorldQ (K : PySem.W.Frag) (CE : Addr) : Sp := fun vs H Q E => ∃ (v : V) (d : PyData), vs = [v] ∧ WQ K H v d ∧ ∀ H', Same H H' → (worldD d = true → Q .non H') ∧ (worldD d = false → ∀ dx, H' dx = none → E (.ref CE) (some dx) (upd H' dx (.xd [(("thing" : Str), v)])))
theorem ok_checkWorldQ {f1 CE : Addr} {fd1 : FuncData} (F : Fun K "check_world" "check_world" sCheckWorld f fd) (G1 : FnOk P w K mg base CX0 (k + 1) f1 fd1 ["thing"] (spIsWorldQ K)) (b1 : Binds K fd1 ["thing"] []) (k1 : PySem.W.keepIn K (.ref f1) = true) (m1 : mg "is_world" = some (.ref f1)) (X : ErrT P w K mg base k "InvalidWorld" "thing" CE) :
    FnOk P w K mg base (L2.CX P w) (k + 2) f fd ["thing"] (spCheckWorldQ K CE) := by
  obtain ⟨fI, fdI, i1, i2, i3, i4⟩ := X.ex
  refine F.okX scCheckWorld (fun vs H Q E h => ?_) (fun cdv A outer s H vs Q E hr h => ?_)
  · obtain ⟨v, d, rfl, _⟩ := h
    rfl
  obtain ⟨v, d, rfl, hd, q⟩ := h
  refine ⟨_, pss_one (ps_if (pt_not (pt_val (pe_call G1 hr (by rfl) m1 k1 b1 .nil pass0 (pa_cons (pv 0) pa_nil))))
    (pss_one (ps_raise rfl (takes_of rfl rfl rfl rfl) (pmk_oex X.oex i1 i2 i3 hr i4 .nil pass0 (by rfl) X.m (pa_cons (pv 0) pa_nil)))) pss_nil), ?_⟩
  refine ⟨v, rfl, v, d, rfl, hd, fun H1 s1 => ⟨_, rfl, ?_⟩⟩
  cases e : worldD d with
  | true => exact iteF ((q H1 s1).1 e)
  | false => exact iteT ⟨v, rfl, err_made ((q H1 s1).2 e)⟩
end
end Rw
namespace Rw
open PySem PySem.Spec PyProof.Rows L2
/-! ### sets of names as numbers -/
def num : W → W → Int
  | [], _ => 0
  | x :: own, w => (if x ∈ w then 1 else 0) + 2 * num own w
def bitOf : W → Str → Int
  | [], _ => 1
  | y :: own, x => if x = y then 1 else 2 * bitOf own x
theorem bitOf_cons (y : Str) (own : W) (x : Str) : bitOf (y :: own) x = if x = y then 1 else 2 * bitOf own x := rfl
theorem num_nn : ∀ own w : W, 0 ≤ num own w
  | [], _ => Int.le_refl 0
  | x :: own, w => by
    have h := num_nn own w
    unfold num
    split <;> omega
theorem num_lt : ∀ own w : W, num own w < 2 ^ own.length
  | [], _ => (by decide : (0 : Int) < 1)
  | x :: own, w => by
    have h := num_lt own w
    unfold num
    rw [List.length_cons, Int.pow_succ]
    split <;> omega
theorem num_cons (x : Str) (own w : W) : num (x :: own) w = (if x ∈ w then 1 else 0) + 2 * num own w := rfl
theorem bit_halves (c d x y : Int) (hc : c = 0 ∨ c = 1) (hd : d = 0 ∨ d = 1) : Builtin.bitAnd (c + 2 * x) (d + 2 * y) = (if c = 1 ∧ d = 1 then 1 else 0) + 2 * Builtin.bitAnd x y := by
  rw [PySem.W.kbt_halves]
  have e1 : (c + 2 * x) / 2 = x := by omega
  have e2 : (d + 2 * y) / 2 = y := by omega
  have e3 : (c + 2 * x) % 2 = c := by omega
  have e4 : (d + 2 * y) % 2 = d := by omega
  rw [e1, e2, e3, e4]
  omega
theorem one01 (p : Prop) [Decidable p] : (if p then (1 : Int) else 0) = 0 ∨ (if p then (1 : Int) else 0) = 1 := by
  split
  · exact .inr rfl
  · exact .inl rfl
theorem num_and : ∀ own a b : W, Builtin.bitAnd (num own a) (num own b) = num own (a.filter fun z => decide (z ∈ b))
  | [], _, _ => (by decide : Builtin.bitAnd 0 0 = 0)
  | x :: own, a, b => by
    rw [num_cons, num_cons, num_cons, bit_halves _ _ _ _ (one01 _) (one01 _), num_and own a b]
    congr 1
    by_cases h1 : x ∈ a <;> by_cases h2 : x ∈ b <;> simp [h1, h2]
theorem num_diff : ∀ own a b : W, Builtin.bitAnd (num own a) (Builtin.bitNot (num own b)) = num own (minus a b)
  | [], _, _ => (by decide : Builtin.bitAnd 0 (Builtin.bitNot 0) = 0)
  | x :: own, a, b => by
    have e : Builtin.bitNot (num (x :: own) b) = (if x ∈ b then (0 : Int) else 1) + 2 * Builtin.bitNot (num own b) := by
      rw [num_cons]
      unfold Builtin.bitNot
      split <;> omega
    rw [e, num_cons, num_cons, bit_halves _ _ _ _ (one01 _) (by split <;> simp), num_diff own a b]
    congr 1
    unfold minus
    by_cases h1 : x ∈ a <;> by_cases h2 : x ∈ b <;> simp [h1, h2]
theorem num_zero : ∀ {own w : W}, num own w = 0 ↔ ∀ x ∈ own, x ∉ w
  | [], w => by simp [num]
  | x :: own, w => by
    have h := num_nn own w
    have ih := @num_zero own w
    rw [num_cons, List.forall_mem_cons, ← ih]
    by_cases e : x ∈ w
    · rw [if_pos e]
      exact ⟨fun z => by omega, fun z => absurd e z.1⟩
    · rw [if_neg e]
      exact ⟨fun z => ⟨e, by omega⟩, fun z => by omega⟩
theorem num_same : ∀ {own a b : W}, num own a = num own b ↔ ∀ x ∈ own, (x ∈ a ↔ x ∈ b)
  | [], a, b => by simp [num]
  | x :: own, a, b => by
    have ih := @num_same own a b
    rw [num_cons, num_cons, List.forall_mem_cons, ← ih]
    by_cases e : x ∈ a <;> by_cases e' : x ∈ b <;> simp [e, e'] <;> omega
/-- the sum of the bits of a set without repetition -/
theorem num_more : ∀ {own : W} {y : Str} {w : W}, own.Nodup → y ∉ w → num own (y :: w) = (if y ∈ own then bitOf own y else 0) + num own w
  | [], y, w, _, _ => by simp [num]
  | x :: own, y, w, nd, hy => by
    obtain ⟨n1, n2⟩ := List.nodup_cons.mp nd
    have ih := num_more n2 hy
    rw [num_cons, num_cons, ih]
    rw [bitOf_cons]
    by_cases e : x = y
    · subst e
      rw [if_neg n1, if_pos List.mem_cons_self, if_pos List.mem_cons_self, if_pos rfl, if_neg hy]
      omega
    · have e1 : (x ∈ y :: w) ↔ x ∈ w := by
        rw [List.mem_cons]
        exact ⟨fun z => z.elim (fun z => absurd z e) id, .inr⟩
      have e2 : (y ∈ x :: own) ↔ y ∈ own := by
        rw [List.mem_cons]
        exact ⟨fun z => z.elim (fun z => absurd z.symm e) id, .inr⟩
      have e3 : ¬ y = x := fun z => e z.symm
      simp only [e1, e2, e3, if_false]
      split <;> split <;> omega
theorem num_nil : ∀ own : W, num own [] = 0
  | [] => rfl
  | x :: own => by
    rw [num_cons, num_nil own]
    simp
theorem num_sum {own : W} (nd : own.Nodup) : ∀ {w : W}, w.Nodup → ((w.filter fun z => decide (z ∈ own)).map (bitOf own)).sum = num own w
  | [], _ => by
    rw [num_nil]
    rfl
  | y :: w, h => by
    obtain ⟨n1, n2⟩ := List.nodup_cons.mp h
    rw [num_more nd n1, ← num_sum nd n2]
    by_cases e : y ∈ own
    · rw [List.filter_cons_of_pos (by simpa using e), List.map_cons, List.sum_cons, if_pos e]
    · rw [List.filter_cons_of_neg (by simpa using e), if_neg e, Int.zero_add]
theorem bit_nn : ∀ (own : W) (x : Str), 0 ≤ bitOf own x
  | [], _ => (by decide : (0 : Int) ≤ 1)
  | y :: own, x => by
    have h := bit_nn own x
    unfold bitOf
    split <;> omega
theorem bit_at' : ∀ {own : W} {i : Nat} {x : Str}, own.Nodup → own[i]? = some x → bitOf own x = 2 ^ i
  | [], i, x, _, h => by simp at h
  | y :: own, 0, x, _, h => by
    rw [List.getElem?_cons_zero, Option.some.injEq] at h
    subst h
    unfold bitOf
    rw [if_pos rfl]
    rfl
  | y :: own, i + 1, x, nd, h => by
    obtain ⟨n1, n2⟩ := List.nodup_cons.mp nd
    rw [List.getElem?_cons_succ] at h
    have ne : ¬ x = y := fun e => n1 (e ▸ List.mem_of_getElem? h)
    unfold bitOf
    rw [if_neg ne, bit_at' n2 h, Int.pow_succ]
    omega
/-! ### the numbers below a number, within it -/
theorem within_step : ∀ (n : Nat) (h t m : Int), h.toNat ≤ n → 0 < h → 0 ≤ m → Builtin.bitAnd h t = h → Builtin.bitAnd m t = m → m < h → m ≤ Builtin.bitAnd (h - 1) t
  | 0, h, t, m, e, h0, _, _, _, _ => by omega
  | n + 1, h, t, m, e, h0, m0, hh, hm, lt => by
    rw [PySem.W.kbt_halves] at hh hm ⊢
    have ih := within_step n (h / 2) (t / 2) (m / 2)
    by_cases odd : h % 2 = 1
    · have e1 : (h - 1) / 2 = h / 2 := by omega
      have e2 : (h - 1) % 2 = 0 := by omega
      rw [e1, e2]
      split at hh <;> split at hm <;> simp <;> omega
    · have e1 : (h - 1) / 2 = h / 2 - 1 := by omega
      have e2 : (h - 1) % 2 = 1 := by omega
      rw [e1, e2]
      have hh2 : Builtin.bitAnd (h / 2) (t / 2) = h / 2 := by
        split at hh
        · omega
        · omega
      have hm2 : Builtin.bitAnd (m / 2) (t / 2) = m / 2 := by
        split at hm <;> omega
      have z := ih (by omega) (by omega) (by omega) hh2 hm2 (by omega)
      split at hm <;> split <;> omega
theorem and_nn {x y : Int} (hx : 0 ≤ x) (hy : 0 ≤ y) : 0 ≤ Builtin.bitAnd x y ∧ Builtin.bitAnd x y ≤ x ∧ Builtin.bitAnd (Builtin.bitAnd x y) y = Builtin.bitAnd x y := by
  rw [bitAnd_pp hx hy]
  have e : (x.toNat &&& y.toNat) ≤ x.toNat := Nat.and_le_left
  refine ⟨Int.natCast_nonneg _, by omega, ?_⟩
  rw [bitAnd_pp (Int.natCast_nonneg _) hy, Int.toNat_natCast, Nat.and_assoc, Nat.and_self]
/-- every number within a set's number is the number of a part -/
theorem num_part : ∀ {own t : W} {m : Int}, own.Nodup → 0 ≤ m → Builtin.bitAnd m (num own t) = m → ∃ h : W, h.Sublist own ∧ (∀ x ∈ h, x ∈ t) ∧ num own h = m
  | [], t, m, _, m0, e => by
    refine ⟨[], List.Sublist.refl _, (fun x h => nomatch h), ?_⟩
    have z := (and_nn (show (0 : Int) ≤ 0 by decide) m0).2.1
    have z2 : Builtin.bitAnd m 0 = Builtin.bitAnd 0 m := bitAnd_comm _ _
    rw [show num [] t = 0 from rfl, z2] at e
    rw [show num [] [] = 0 from rfl]
    omega
  | x :: own, t, m, nd, m0, e => by
    obtain ⟨n1, n2⟩ := List.nodup_cons.mp nd
    rw [num_cons] at e
    have em : m = m % 2 + 2 * (m / 2) := by omega
    rw [em, bit_halves _ _ _ _ (by omega) (one01 _)] at e
    have q : Builtin.bitAnd (m / 2) (num own t) = m / 2 := by
      split at e <;> omega
    obtain ⟨h, s1, s2, s3⟩ := num_part n2 (by omega) q
    have hx : x ∉ h := fun z => n1 (s1.subset z)
    by_cases odd : m % 2 = 1
    · have hxt : x ∈ t := by
        by_cases z : x ∈ t
        · exact z
        · rw [if_neg z] at e
          rw [if_neg (fun z => by omega)] at e
          omega
      refine ⟨x :: h, List.cons_sublist_cons.mpr s1, fun z hz => (List.mem_cons.mp hz).elim (fun e => e ▸ hxt) (s2 z), ?_⟩
      rw [num_cons, if_pos List.mem_cons_self, (num_same (a := x :: h) (b := h)).mpr fun z hz => ?_, s3]
      · omega
      · rw [List.mem_cons]
        exact ⟨fun q => q.elim (fun q => absurd (q ▸ hz) n1) id, .inr⟩
    · refine ⟨h, s1.cons _, s2, ?_⟩
      rw [num_cons, if_neg hx, s3]
      omega
/-! ### all worlds of a row of names, ascending -/
def everyW : W → List W
  | [] => [[]]
  | x :: own => [] :: ((everyW own).map (fun t => x :: t) ++ (everyW own).tail)
theorem every_head : ∀ own : W, ∃ r, everyW own = [] :: r
  | [] => ⟨[], rfl⟩
  | x :: own => ⟨_, rfl⟩
theorem every_len : ∀ own : W, (everyW own).length = 2 ^ own.length
  | [] => rfl
  | x :: own => by
    obtain ⟨r, e⟩ := every_head own
    have ih := every_len own
    have p : 0 < 2 ^ own.length := Nat.pow_pos (by decide)
    unfold everyW
    rw [List.length_cons, List.length_append, List.length_map, List.length_tail, ih, List.length_cons, Nat.pow_succ]
    omega
theorem every_ne {own t : W} (h : t ∈ (everyW own).tail) : t ∈ everyW own := List.mem_of_mem_tail h
theorem mem_every : ∀ {own t : W}, t ∈ everyW own ↔ t.Sublist own
  | [], t => by
    unfold everyW
    rw [List.mem_singleton, List.sublist_nil]
  | x :: own, t => by
    obtain ⟨r, e⟩ := every_head own
    unfold everyW
    rw [List.mem_cons, List.mem_append, List.mem_map]
    constructor
    · rintro (rfl | ⟨s, hs, rfl⟩ | h)
      · exact List.nil_sublist _
      · exact List.cons_sublist_cons.mpr (mem_every.mp hs)
      · exact (mem_every.mp (every_ne h)).cons _
    · intro s
      cases s with
      | cons _ h =>
        have z := mem_every.mpr h
        rw [e, List.mem_cons] at z
        rcases z with z | z
        · exact .inl z
        · exact .inr (.inr (by rw [e]; exact z))
      | cons_cons _ h => exact .inr (.inl ⟨_, mem_every.mpr h, rfl⟩)
end Rw
namespace Rw
open PySem PySem.Spec PyProof.Rows L2
/-! ### a comprehension into a dict over any walk -/
theorem dc_it {J : It} {n : Nat} {G : Hp → Prop} {Y : Nat → Hp → V → Hp → Prop} (w : Walk J n G Y) {g : TG} {tt : L2.TT} {tk tv : TE} {vs : List Nat} {σ : L2.St} {H1 : Hp} {D : Addr} {Qd : Hp → Prop} (Pv : Nat → Hp → Prop) (h0 : Pv 0 (upd H1 D (.dK []))) (hG : ∀ i H, i ≤ n → Pv i H → G H)
    (hs : ∀ i x H H', i < n → Pv i H → Y i H x H' → g x (wipe σ vs) H' fun σ2 H2 => wipe σ2 vs = wipe σ vs ∧ tt σ2 H2 fun b H3 =>
      if b = true then tk σ2 H3 fun y H4 => tv σ2 H4 fun z H5 => ∃ kvs k, y = kV k ∧ H5 D = some (.dK kvs) ∧ kvs.length < sizeLine ∧ Pv (i + 1) (upd H5 D (.dK (putK kvs k z))) else Pv (i + 1) H3) (hd : ∀ H, Pv n H → Qd H) :
    ∃ W : Nat → Nat → Hp → Prop, (∃ m, W 0 m (upd H1 D (.dK []))) ∧ ∀ i m H, W i m H →
      (J.stop i H ∧ Qd H) ∨ (J.go i H ∧ ∃ Nx : Hp → Prop, (∀ H', Nx H' → ∃ m', m' < m ∧ W (i + 1) m' H') ∧ ∀ x H', J.yld i H x H' → g x (wipe σ vs) H' fun σ2 H2 => wipe σ2 vs = wipe σ vs ∧ tt σ2 H2 fun b H3 =>
        if b = true then tk σ2 H3 fun y H4 => tv σ2 H4 fun z H5 => ∃ kvs k, y = kV k ∧ H5 D = some (.dK kvs) ∧ kvs.length < sizeLine ∧ Nx (upd H5 D (.dK (putK kvs k z))) else Nx H3) := by
  refine ⟨fun i m H => m = n - i ∧ i ≤ n ∧ Pv i H, ⟨n, by simp, Nat.zero_le _, h0⟩, ?_⟩
  rintro i m H ⟨rfl, hi, p⟩
  have q := hG i H hi p
  by_cases hlt : i < n
  · refine .inr ⟨w.goes i H hlt q, Pv (i + 1), fun H' p' => ⟨n - (i + 1), by omega, rfl, hlt, p'⟩, fun x H' y => hs i x H H' hlt p (w.yields i H x H' hlt q y)⟩
  · have e : i = n := by omega
    subst e
    exact .inl ⟨w.stops H q, hd H p⟩
theorem walk_enumT {K : PySem.W.Frag} {a : Addr} {xs : List V} : Walk (Ietup K a) xs.length (fun H => SqT K H a xs) (YPair (fun i => some (.int (i : Nat))) (fun i => xs[i]?)) := by
  refine ⟨fun i _ hi q => ⟨xs, xs[i], q, by simp [hi]⟩, fun _ q => ⟨xs, q, rfl⟩, fun i H v H' _ q y => ?_⟩
  obtain ⟨T, x, h1, h2, h3, h4⟩ := y
  exact ⟨T, .int (i : Nat), x, h1, h2, h3, rfl, h4 xs q⟩
/-! ### _bits_of -/
/-- the dict of names and their bits, the first n of them -/
def BD (own : W) (ns : W) : HO := .dK (ns.map fun z => (.inr z, .int (bitOf own z)))
theorem valBD {own : W} : ∀ {ns : W} {z : Str}, valV (ns.map fun z => ((.inr z : Key), V.int (bitOf own z))) (.inr z) = if z ∈ ns then some (V.int (bitOf own z)) else none
  | [], z => rfl
  | y :: ns, z => by
    have ih := @valBD own ns z
    unfold valV at ih ⊢
    rw [List.map_cons, List.find?_cons]
    by_cases e : z = y
    · subst e
      simp
    · have e' : ¬ ((.inr y : Key) = .inr z) := fun q => e (Sum.inr.inj q).symm
      simp only [e', decide_false]
      rw [ih]
      simp [e]
theorem idx_new1 {ns : W} {i : Nat} {z : Str} (nd : ns.Nodup) (hz : ns[i]? = some z) : z ∉ ns.take i := fun h => by
  obtain ⟨j, hj, e⟩ := List.getElem_of_mem h
  rw [List.length_take] at hj
  rw [List.getElem_take] at e
  obtain ⟨hi, e2⟩ := List.getElem?_eq_some_iff.mp hz
  have z2 := (List.getElem_inj (h₀ := by omega) (h₁ := hi) nd).mp (e.trans e2.symm)
  omega
theorem scBitsOf : FnScope ["names", "place", "name"] ["names"] (defScope sBitsOf) := ⟨rfl, rfl, rfl, by decide +kernel, rfl, by decide +kernel, by decide +kernel⟩
section
variable {P : Program} {w : World} {K : PySem.W.Frag} {mg : Str → Option Value} {base : Heap} {f : Addr} {fd : FuncData} {k : Nat}
def spBitsOf (K : PySem.W.Frag) : Sp := fun vs H Q _ => ∃ (a : Addr) (own : W), vs = [.ref a] ∧ SqT K H a (own.map V.str) ∧ own.Nodup ∧ own.length ≤ 40 ∧ ∀ H' D, Same H H' → H D = none → H' D = some (BD own own) → Q (.ref D) H'
theorem ok_bitsOf (F : Fun K "_bits_of" "_bits_of" sBitsOf f fd) (T : Bl mg) : FnOk P w K mg base CX0 (k + 1) f fd ["names"] (spBitsOf K) := by
  refine F.ok scBitsOf (fun vs H Q E h => ?_) (fun cdv A outer s H vs Q E hr h => ?_)
  · obtain ⟨a, own, rfl, _⟩ := h
    rfl
  obtain ⟨a, own, rfl, hT, nd, few, q⟩ := h
  have nl := few
  refine ⟨_, pss_one (ps_ret (pe_dc (own := [("place", 1), ("name", 2)]) (g := gTup K 2 (gCons (gName 1) (gCons (gName 2) gNil))) (tk := tVar 2) (tv := tOp (rI CPow fun i j => .int (i * 2 ^ j.toNat)) (tC (.int 1)) (tVar 1)) (by rfl) scBitsOf.nd (pi_enumT (by rfl) T.enum (pa_cons (pv 0) pa_nil)) (blkOk_by (N := ["names", "place", "name"]) (sc := defScope sBitsOf) (by decide +kernel))
    (fun _ _ _ _ _ => pg_tup (by rfl) (pgs_cons (pg_name (i := 1) scBitsOf.nd rfl (.inl rfl)) (pgs_cons (pg_name (i := 2) scBitsOf.nd rfl (.inl rfl)) pgs_nil))) (fun _ _ _ _ _ => pts_nil) (fun _ _ _ _ _ => pv 2) (fun _ _ _ _ _ => pe_op op_shl pe_int (pv 1)))), ?_⟩
  refine ⟨.ref a, rfl, a, _, rfl, hT, fun D hD => ?_⟩
  refine dc_it walk_enumT (fun i H2 => Same H H2 ∧ H2 D = some (BD own (own.take i))) ⟨same_new hD _, upd_same⟩ (fun i H2 _ h => same_tup h.1 hT) (fun i x H2 H3 hi h hy => ?_) (fun H2 h => ?_)
  · obtain ⟨sm, hd⟩ := h
    obtain ⟨t, x1, x2, rfl, ht, rfl, e1, e2⟩ := hy
    obtain ⟨z, hz, rfl⟩ := map_at e2
    cases e1
    have tD : t ≠ D := fun e => by rw [e, hd] at ht; cases ht
    have hd3 : upd H2 t (.tup [.int (i : Nat), .str z]) D = some (BD own (own.take i)) := by rw [upd_ne (Ne.symm tD)]; exact hd
    rw [List.length_map] at hi
    refine ⟨t, [.int (i : Nat), .str z], rfl, SqT.of upd_same, rfl, .int (i : Nat), [.str z], rfl, .str z, [], rfl, rfl, rfl, .str z, rfl, .int (i : Nat), rfl, 1, (i : Int), rfl, rfl, ⟨by omega, by omega, by decide⟩, ?_⟩
    refine ⟨_, .inr z, rfl, hd3, small_line' (by rw [List.length_map, List.length_take]; omega), same_put (sm.trans (same_new ht _)) hD, ?_⟩
    rw [upd_same]
    have new : z ∉ own.take i := idx_new1 nd hz
    have e : ((own.take i).map fun y => ((.inr y : Key), V.int (bitOf own y))).any (fun kv => decide (kv.1 = .inr z)) = false := by
      rw [List.any_eq_false]
      intro p hp
      obtain ⟨y, hy, rfl⟩ := List.mem_map.mp hp
      simp only [decide_eq_true_eq]
      exact fun q => new (Sum.inr.inj q ▸ hy)
    unfold BD putK
    rw [if_neg (by rw [e]; exact Bool.false_ne_true), take_snoc hz, List.map_append]
    have e1 : ((1 : Int) * 2 ^ (i : Int).toNat) = bitOf own z := by
      rw [show (i : Int).toNat = i from rfl, Int.one_mul, ← bit_at' nd hz]
    show some (HO.dK (_ ++ [(Sum.inr z, V.int ((1 : Int) * 2 ^ (i : Int).toNat))])) = _
    rw [e1]
    rfl
  · obtain ⟨sm, hd⟩ := h
    rw [List.length_map, List.take_length] at hd
    exact q H2 D sm hD hd
end
/-! ### _number -/
theorem scNumber : FnScope ["world", "bits", "name"] ["world", "bits"] (defScope sNumber) := ⟨rfl, rfl, rfl, by decide +kernel, rfl, by decide +kernel, by decide +kernel⟩
theorem filt_take {α : Type} {p : α → Bool} {l : List α} {i : Nat} {x : α} (h : l[i]? = some x) : (l.take (i + 1)).filter p = (l.take i).filter p ++ (if p x then [x] else []) := by
  rw [take_snoc h, List.filter_append]
  cases e : p x with
  | true => simp [e]
  | false => simp [e]
section
variable {P : Program} {w : World} {K : PySem.W.Frag} {mg : Str → Option Value} {base : Heap} {f : Addr} {fd : FuncData} {k : Nat}
def spNumber (K : PySem.W.Frag) : Sp := fun vs H Q _ => ∃ (x : V) (b : Addr) (ns own : W), vs = [x, .ref b] ∧ Dp K H x (wd ns) ∧ H b = some (BD own own) ∧ own.Nodup ∧ ns.Nodup ∧ ns.length ≤ 1000 ∧ ∀ H', Same H H' → Q (.int (num own ns)) H'
theorem ok_number (F : Fun K "_number" "_number" sNumber f fd) (T : Bl mg) (ms : mg "sum" = none) : FnOk P w K mg base CX0 (k + 1) f fd ["world", "bits"] (spNumber K) := by
  refine F.ok scNumber (fun vs H Q E h => ?_) (fun cdv A outer s H vs Q E hr h => ?_)
  · obtain ⟨x, b, ns, own, rfl, _⟩ := h
    rfl
  obtain ⟨x, b, ns, own, rfl, hx, hb, nd, nn, few, q⟩ := h
  obtain ⟨a, rfl, hT⟩ := of_wd hx
  have hu := hu_of hr
  refine ⟨_, pss_one (ps_ret (pe_callB (cr_sum rfl) (by rfl) ms (by decide +kernel) (pa_cons (pe_lc (own := [("name", 2)]) (g := gName 2) (tt := tTest (tDIn (tVar 2) (tVar 1))) (te := tDGet (tVar 1) (tVar 2)) (by rfl) scNumber.nd (pi_tup (pv 0)) (blkOk_by (N := ["world", "bits", "name"]) (sc := defScope sNumber) (by decide +kernel))
        (fun _ _ _ _ _ => pg_name (i := 2) scNumber.nd rfl (Or.inl rfl)) (fun _ _ _ _ _ => pts_one (pt_cmp (pc_din hu (pv 2) (pv 1)) (by rfl))) (fun _ _ _ _ _ => pe_dget hu (pv 1) (pv 2) (fun _ _ => rfl))) pa_nil))), ?_⟩
  refine ⟨.ref a, rfl, a, rfl, ⟨_, hT⟩, fun D hD => ?_⟩
  refine lc_tup (xs := ns.map V.str) (fun i H1 => Same H H1 ∧ H1 D = some (.lst ((((ns.take i).filter fun z => decide (z ∈ own)).map (bitOf own)).map V.int))) ⟨same_new hD _, upd_same⟩ (fun i H1 _ hI => same_tup hI.1 hT) (fun i x H1 hx hI => ?_) (fun H1 hI => ?_)
  · obtain ⟨sm, hd⟩ := hI
    obtain ⟨z, hz, rfl⟩ := map_at hx
    have hb1 := sm _ _ hb
    by_cases e : z ∈ own
    · have hv : some (V.int (bitOf own z)) = valV (own.map fun z => ((.inr z : Key), V.int (bitOf own z))) (.inr z) := by rw [valBD, if_pos e]
      refine ⟨rfl, .str z, rfl, .ref b, rfl, b, some (.int (bitOf own z)), rfl, .inl ⟨_, .inr z, .inl hb1, rfl, hv⟩, true, rfl, iteT ?_⟩
      refine ⟨.ref b, rfl, .str z, rfl, b, .int (bitOf own z), rfl, .inl ⟨_, .inr z, .inl hb1, rfl, hv⟩, _, hd, small_line' ?_, same_put sm hD, ?_⟩
      · rw [List.length_map, List.length_map]
        have := List.length_filter_le (fun z => decide (z ∈ own)) (ns.take i)
        rw [List.length_take] at this
        omega
      · rw [upd_same, filt_take hz, if_pos (decide_eq_true e), List.map_append, List.map_append]
        rfl
    · have hv : none = valV (own.map fun z => ((.inr z : Key), V.int (bitOf own z))) (.inr z) := by rw [valBD, if_neg e]
      refine ⟨rfl, .str z, rfl, .ref b, rfl, b, none, rfl, .inl ⟨_, .inr z, .inl hb1, rfl, hv⟩, false, rfl, iteF ⟨sm, ?_⟩⟩
      rw [hd, filt_take hz, if_neg (by simpa using e), List.append_nil]
  · obtain ⟨sm, hd⟩ := hI
    rw [List.length_map, List.take_length] at hd
    refine ⟨D, ((ns.filter fun z => decide (z ∈ own)).map (bitOf own)), rfl, SqL.of hd, ?_⟩
    rw [num_sum nd nn]
    exact q H1 sm
end
end Rw
namespace Rw
open PySem PySem.Spec PyProof.Rows L2
/-! ### _numbered -/
abbrev nNumbered : List Str := ["program", "bits", "rows", "heads", "denied", "needs", "bars"]
theorem scNumbered : FnScope nNumbered ["program", "bits"] (defScope sNumbered) := ⟨rfl, rfl, rfl, by decide +kernel, rfl, by decide +kernel, by decide +kernel⟩
/-- a rule in numbers -/
abbrev N4 : Type := Int × Int × Int × Int
def numR (own : W) (r : Rl) : N4 := (num own r.1, num own r.2.1, num own r.2.2.1, num own r.2.2.2)
def d4 (n : N4) : PyData := .tuple [.int n.1, .int n.2.1, .int n.2.2.1, .int n.2.2.2]
theorem ok_d4 (n : N4) : okD (d4 n) = true := rfl
/-- a list of data -/
def L4 (K : PySem.W.Frag) (H : Hp) (l : Addr) (R : List N4) : Prop := ∃ ys, H l = some (.lst ys) ∧ DpAll K H ys (R.map d4)
theorem okDs_d4 (R : List N4) : okDs (R.map d4) = true := okDs_all fun d hd => by
  obtain ⟨n, _, rfl⟩ := List.mem_map.mp hd
  exact ok_d4 n
theorem L4.same {K : PySem.W.Frag} {H H' : Hp} {l : Addr} {R : List N4} (h : L4 K H l R) (e : Same H H') : L4 K H' l R := by
  obtain ⟨ys, h1, h2⟩ := h
  exact ⟨ys, e _ _ h1, (Stay.same e).dpAll _ _ (okDs_d4 R) h2⟩
theorem of_d4 {K : PySem.W.Frag} {H : Hp} {x : V} {n : N4} (h : Dp K H x (d4 n)) : ∃ a, x = .ref a ∧ SqT K H a [.int n.1, .int n.2.1, .int n.2.2.1, .int n.2.2.2] := by
  unfold d4 at h
  cases h with
  | @tup a xs _ hT hxs =>
    cases hxs with
    | cons h1 t =>
      cases t with
      | cons h2 t =>
        cases t with
        | cons h3 t =>
          cases t with
          | cons h4 t =>
            cases t
            cases h1
            cases h2
            cases h3
            cases h4
            exact ⟨a, rfl, hT⟩
theorem to_d4 {K : PySem.W.Frag} {H : Hp} {a : Addr} {n : N4} (h : SqT K H a [.int n.1, .int n.2.1, .int n.2.2.1, .int n.2.2.2]) : Dp K H (.ref a) (d4 n) := .tup h (.cons (.int _) (.cons (.int _) (.cons (.int _) (.cons (.int _) .nil))))
section
variable {P : Program} {w : World} {K : PySem.W.Frag} {mg : Str → Option Value} {base : Heap} {f : Addr} {fd : FuncData} {k : Nat}
def spNumbered (K : PySem.W.Frag) (C : Addr) : Sp := fun vs H Q _ => ∃ (v : V) (b : Addr) (S : List Rl) (own : W), vs = [v, .ref b] ∧ PgAt K C H v S ∧ (∀ r ∈ S, IsR r) ∧ S.length < 76 ∧ H b = some (BD own own) ∧ own.Nodup ∧ ∀ H' l, Same H H' → H l = none → L4 K H' l (S.map (numR own)) → Q (.ref l) H'
theorem ok_numbered {C pr f1 f2 : Addr} {fd1 fd2 : FuncData} (F : Fun K "_numbered" "_numbered" sNumbered f fd) (T : Bl mg) (c : Cls K C) (hp : PropOf K C "rules" pr f2)
    (G1 : FnOk P w K mg base CX0 (k + 1) f1 fd1 ["world", "bits"] (spNumber K)) (b1 : Binds K fd1 ["world", "bits"] []) (k1 : PySem.W.keepIn K (.ref f1) = true) (m1 : mg "_number" = some (.ref f1))
    (G2 : FnOk P w K mg base CX0 k f2 fd2 ["self"] (spRules K C)) (b2 : Binds K fd2 ["self"] []) : FnOk P w K mg base CX0 (k + 2) f fd ["program", "bits"] (spNumbered K C) := by
  refine F.ok scNumbered (fun vs H Q E h => ?_) (fun cdv A outer s H vs Q E hr h => ?_)
  · obtain ⟨v, b, S, own, rfl, _⟩ := h
    rfl
  obtain ⟨v, b, S, own, rfl, hS, hI, few, hb, nd, q⟩ := h
  refine ⟨_, pss_cons (ps_set (i := 2) scNumbered.nd rfl (.inl rfl) (pe_lst pa_nil))
    (pss_cons (ps_for PassesOwn.never rfl (pi_tup (pe_prop (pv 0) c hp G2 hr b2 .nil pass0 rfl)) (pg_tup (by rfl) (pgs_cons (pg_name (i := 3) scNumbered.nd rfl (.inl rfl)) (pgs_cons (pg_name (i := 4) scNumbered.nd rfl (.inl rfl)) (pgs_cons (pg_name (i := 5) scNumbered.nd rfl (.inl rfl)) (pgs_cons (pg_name (i := 6) scNumbered.nd rfl (.inl rfl)) pgs_nil)))))
      (pss_one (ps_expr (pe_bm PySem.F.plainAttrs_list PySem.F.slot_list_append PySem.F.type_list_append mt_append (pv 2) (pa_cons (pe_tup
        (pa_cons (pe_call G1 hr (by rfl) m1 k1 b1 .nil pass0 (pa_cons (pv 3) (pa_cons (pv 1) pa_nil)))
        (pa_cons (pe_call G1 hr (by rfl) m1 k1 b1 .nil pass0 (pa_cons (pv 4) (pa_cons (pv 1) pa_nil)))
        (pa_cons (pe_call G1 hr (by rfl) m1 k1 b1 .nil pass0 (pa_cons (pv 5) (pa_cons (pv 1) pa_nil)))
        (pa_cons (pe_call G1 hr (by rfl) m1 k1 b1 .nil pass0 (pa_cons (pv 6) (pa_cons (pv 1) pa_nil))) pa_nil))))) pa_nil)))))
    (pss_one (ps_ret (pv 2)))), ?_⟩
  refine ⟨by show 0 ≤ sizeLine; decide, fun d hd0 => ?_⟩
  have s0 := same_new hd0 (.lst [])
  have hdS : (upd H d (.lst [])) d = some (.lst []) := upd_same
  let H0 : Hp := upd H d (.lst [])
  have mutd : Mut (H0 d) := by
    show Mut ((upd H d (.lst [])) d)
    rw [hdS]
    exact True.intro
  have hS1 := hS.same s0
  obtain ⟨a, dx, t0, ys0, rfl, i1, i2, i3⟩ := id hS1
  refine ⟨.ref a, rfl, a, dx, _, rfl, i1, .ref a, S, rfl, hS1, fun t ys ht hys => ?_⟩
  have yl : ys.length = S.length := by rw [dpAll_len hys, List.length_map]
  refine ⟨t, rfl, ⟨_, ht⟩, ?_⟩
  refine for_tup (xs := ys) (fun i σ H2 => (∃ y3 y4 y5 y6, σ = [some (.ref a), some (.ref b), some (.ref d), y3, y4, y5, y6]) ∧ Same H H2 ∧ Bar d H0 H2 ∧ L4 K H2 d ((S.take i).map (numR own))) ⟨⟨_, _, _, _, rfl⟩, s0, fun _ _ _ e => e, [], hdS, .nil⟩ (fun i σ H2 _ hI2 => ?_) (fun i x σ H2 hx hI2 => ?_) (fun σ H2 hI2 => ?_)
  · exact (hI2.2.2.1.stay mutd).seq ht
  · obtain ⟨⟨y3, y4, y5, y6, rfl⟩, sm, bar, zs, hd2, hzs⟩ := hI2
    obtain ⟨dd, hdd, hxd⟩ := dpAll_at' hys hx
    obtain ⟨r, hr0, rfl⟩ := map_at hdd
    have hr' := hI r (List.mem_of_getElem? hr0)
    have st : Stay H0 H2 := bar.stay mutd
    obtain ⟨b0, v1, v2, v3, v4, rfl, hT, h1, h2, h3, h4⟩ := of_rd (st.rd hxd)
    have hb2 := sm _ _ hb
    refine ⟨b0, _, rfl, hT, rfl, _, _, rfl, _, _, rfl, _, _, rfl, _, [], rfl, rfl, ?_⟩
    refine ⟨.ref d, rfl, .inl ⟨rfl, zs, SqL.of hd2⟩, ?_⟩
    refine ⟨v1, rfl, .ref b, rfl, v1, b, r.1, own, rfl, h1, hb2, nd, upX_nodup hr'.h.up, by have := hr'.h.few; omega, fun H3 s3 => ?_⟩
    refine ⟨v2, rfl, .ref b, rfl, v2, b, r.2.1, own, rfl, (Stay.same s3).wd h2, s3 _ _ hb2, nd, upX_nodup hr'.d.up, by have := hr'.d.few; omega, fun H4 s4 => ?_⟩
    have s24 := s3.trans s4
    refine ⟨v3, rfl, .ref b, rfl, v3, b, r.2.2.1, own, rfl, (Stay.same s24).wd h3, s24 _ _ hb2, nd, upX_nodup hr'.n.up, by have := hr'.n.few; omega, fun H5 s5 => ?_⟩
    have s25 := s24.trans s5
    refine ⟨v4, rfl, .ref b, rfl, v4, b, r.2.2.2, own, rfl, (Stay.same s25).wd h4, s25 _ _ hb2, nd, upX_nodup hr'.b.up, by have := hr'.b.few; omega, fun H6 s6 => ?_⟩
    have s26 := s25.trans s6
    refine ⟨by show 4 ≤ sizeLine; decide, fun u hu => ?_⟩
    have s7 := same_new hu (.tup [.int (num own r.1), .int (num own r.2.1), .int (num own r.2.2.1), .int (num own r.2.2.2)])
    have s27 := s26.trans s7
    have hd7 := s27 _ _ hd2
    have il : i < S.length := (List.getElem?_eq_some_iff.mp hr0).1
    have m7 : Mut ((upd H6 u (.tup [.int (num own r.1), .int (num own r.2.1), .int (num own r.2.2.1), .int (num own r.2.2.2)])) d) := by
      rw [hd7]
      exact True.intro
    refine ⟨d, zs, _, rfl, rfl, hd7, small_line' (by rw [dpAll_len hzs, List.length_map, List.length_map, List.length_take]; omega), ?_⟩
    have st8 := Stay.put m7 (.lst (zs ++ [.ref u]))
    refine ⟨⟨_, _, _, _, rfl⟩, same_put (sm.trans s27) hd0, (bar.trans (.same s27)).trans .draw, zs ++ [.ref u], upd_same, ?_⟩
    rw [take_snoc hr0, List.map_append, List.map_append]
    refine dpAll_app (((Stay.same s27).trans st8).dpAll _ _ (okDs_d4 _) hzs) (.cons (st8.dp _ _ (ok_d4 _) (to_d4 (SqT.of upd_same))) .nil)
  · obtain ⟨⟨y3, y4, y5, y6, rfl⟩, sm, bar, hL⟩ := hI2
    rw [yl, List.take_length] at hL
    exact ⟨.ref d, rfl, q H2 d sm hd0 hL⟩
end
end Rw
namespace Rw
open PySem PySem.Spec PyProof.Rows L2
/-! ### _agree, _all_met -/
abbrev nAgree : List Str := ["rows", "here", "there", "heads", "denied", "needs", "bars"]
theorem scAgree : FnScope nAgree ["rows", "here", "there"] (defScope sAgree) := ⟨rfl, rfl, rfl, by decide +kernel, rfl, by decide +kernel, by decide +kernel⟩
theorem scAllMet : FnScope ["urgent", "here", "heads", "needs"] ["urgent", "here"] (defScope sAllMet) := ⟨rfl, rfl, rfl, by decide +kernel, rfl, by decide +kernel, by decide +kernel⟩
def nz (i : Int) : Bool := i != 0
def passI (n : N4) (here there : Int) : Bool := nz (Builtin.bitAnd n.2.2.1 (Builtin.bitNot here)) || (nz (Builtin.bitAnd n.2.2.2 there) || (nz (Builtin.bitAnd n.1 here) || nz (Builtin.bitAnd n.2.1 (Builtin.bitNot there))))
def agreeI (R : List N4) (here there : Int) : Bool := R.all fun n => passI n here there
theorem all_take12 {α : Type} {p : α → Bool} {S : List α} {i : Nat} {r : α} (hr : S[i]? = some r) (h : (S.take i).all p = true) (b : p r = true) : (S.take (i + 1)).all p = true := by
  rw [take_snoc hr, List.all_append, h]
  simp [b]
theorem all_no12 {α : Type} {p : α → Bool} {S : List α} {i : Nat} {r : α} (hr : S[i]? = some r) (b : p r = false) : S.all p = false := by
  rw [List.all_eq_false]
  exact ⟨r, List.mem_of_getElem? hr, by simp [b]⟩
section
variable {P : Program} {w : World} {K : PySem.W.Frag} {mg : Str → Option Value} {base : Heap} {f : Addr} {fd : FuncData} {k : Nat}
def spAgree (K : PySem.W.Frag) : Sp := fun vs H Q _ => ∃ (l : Addr) (h t : Int) (R : List N4), vs = [.ref l, .int h, .int t] ∧ L4 K H l R ∧ Q (.bl (agreeI R h t)) H
theorem ok_agree (F : Fun K "_agree" "_agree" sAgree f fd) : FnOk P w K mg base CX0 (k + 1) f fd ["rows", "here", "there"] (spAgree K) := by
  refine F.ok scAgree (fun vs H Q E h => ?_) (fun cdv A outer s H vs Q E hr h => ?_)
  · obtain ⟨l, h, t, R, rfl, _⟩ := h
    rfl
  obtain ⟨l, h, t, R, rfl, ⟨ys, hl, hys⟩, q⟩ := h
  refine ⟨_, pss_cons (ps_for PassesOwn.never rfl (pi_list (pv 0)) (pg_tup (by rfl) (pgs_cons (pg_name (i := 3) scAgree.nd rfl (.inl rfl)) (pgs_cons (pg_name (i := 4) scAgree.nd rfl (.inl rfl)) (pgs_cons (pg_name (i := 5) scAgree.nd rfl (.inl rfl)) (pgs_cons (pg_name (i := 6) scAgree.nd rfl (.inl rfl)) pgs_nil)))))
      (pss_one (ps_if (pt_not (PW.pt
        (pw_or (pt_truth (pe_op op_and (pv 5) (pe_un un_inv (pv 1))) (by intro _; rfl))
        (pw_or (pt_truth (pe_op op_and (pv 6) (pv 2)) (by intro _; rfl))
        (pw_or (pt_truth (pe_op op_and (pv 3) (pv 1)) (by intro _; rfl))
        (pw_or1 (pt_truth (pe_op op_and (pv 4) (pe_un un_inv (pv 2))) (by intro _; rfl))))))))
        (pss_one (ps_ret pe_bl)) pss_nil)))
    (pss_one (ps_ret pe_bl)), ?_⟩
  have yl : ys.length = R.length := by rw [dpAll_len hys, List.length_map]
  refine ⟨.ref l, rfl, l, rfl, ⟨_, SqL.of hl⟩, ?_⟩
  refine for_list (xs := ys) (fun i σ H2 => (∃ y3 y4 y5 y6, σ = [some (.ref l), some (.int h), some (.int t), y3, y4, y5, y6]) ∧ H2 = H ∧ (R.take i).all (fun n => passI n h t) = true) ⟨⟨_, _, _, _, rfl⟩, rfl, rfl⟩ (fun i σ H2 _ hI2 => by rw [hI2.2.1]; exact SqL.of hl) (fun i x σ H2 hx hI2 => ?_) (fun σ H2 hI2 => ?_)
  · obtain ⟨⟨y3, y4, y5, y6, rfl⟩, rfl, ha⟩ := hI2
    obtain ⟨dd, hdd, hxd⟩ := dpAll_at' hys hx
    obtain ⟨n, hn, rfl⟩ := map_at hdd
    obtain ⟨u, rfl, hT⟩ := of_d4 hxd
    refine ⟨u, _, rfl, hT, rfl, _, _, rfl, _, _, rfl, _, _, rfl, _, [], rfl, rfl, ?_⟩
    have no : passI n h t = false → Q (.bl false) H2 := fun e => by
      rw [show agreeI R h t = false from all_no12 hn e] at q
      exact q
    have yes : passI n h t = true → (∃ y3 y4 y5 y6, [some (V.ref l), some (.int h), some (.int t), some (.int n.1), some (.int n.2.1), some (.int n.2.2.1), some (.int n.2.2.2)] = [some (.ref l), some (.int h), some (.int t), y3, y4, y5, y6]) ∧ H2 = H2 ∧ (R.take (i + 1)).all (fun n => passI n h t) = true := fun e => ⟨⟨_, _, _, _, rfl⟩, rfl, all_take12 hn ha e⟩
    refine ⟨.int n.2.2.1, rfl, .int h, rfl, h, rfl, _, _, rfl, rfl, nz (Builtin.bitAnd n.2.2.1 (Builtin.bitNot h)), rfl, ite2 (fun e => ?_) (fun e => ?_)⟩
    · exact iteF (yes (by unfold passI; rw [e]; rfl))
    refine ⟨.int n.2.2.2, rfl, .int t, rfl, _, _, rfl, rfl, nz (Builtin.bitAnd n.2.2.2 t), rfl, ite2 (fun e2 => ?_) (fun e2 => ?_)⟩
    · exact iteF (yes (by unfold passI; rw [e2]; simp))
    refine ⟨.int n.1, rfl, .int h, rfl, _, _, rfl, rfl, nz (Builtin.bitAnd n.1 h), rfl, ite2 (fun e3 => ?_) (fun e3 => ?_)⟩
    · exact iteF (yes (by unfold passI; rw [e3]; simp))
    refine ⟨.int n.2.1, rfl, .int t, rfl, t, rfl, _, _, rfl, rfl, nz (Builtin.bitAnd n.2.1 (Builtin.bitNot t)), rfl, ?_⟩
    have p4 : passI n h t = nz (Builtin.bitAnd n.2.1 (Builtin.bitNot t)) := by
      unfold passI
      simp [Bool.eq_false_iff.mpr e, Bool.eq_false_iff.mpr e2, Bool.eq_false_iff.mpr e3]
    cases e4 : nz (Builtin.bitAnd n.2.1 (Builtin.bitNot t)) with
    | true => exact iteF (yes (p4.trans e4))
    | false => exact iteT (no (p4.trans e4))
  · obtain ⟨⟨y3, y4, y5, y6, rfl⟩, rfl, ha⟩ := hI2
    rw [yl, List.take_length] at ha
    rw [show agreeI R h t = true from ha] at q
    exact q
/-- rules of heads and needs -/
abbrev N2 : Type := Int × Int
def d2 (n : N2) : PyData := .tuple [.int n.1, .int n.2]
theorem ok_d2 (n : N2) : okD (d2 n) = true := rfl
def L2' (K : PySem.W.Frag) (H : Hp) (l : Addr) (R : List N2) : Prop := ∃ ys, H l = some (.lst ys) ∧ DpAll K H ys (R.map d2)
theorem okDs_d2 (R : List N2) : okDs (R.map d2) = true := okDs_all fun d hd => by
  obtain ⟨n, _, rfl⟩ := List.mem_map.mp hd
  exact ok_d2 n
theorem of_d2 {K : PySem.W.Frag} {H : Hp} {x : V} {n : N2} (h : Dp K H x (d2 n)) : ∃ a, x = .ref a ∧ SqT K H a [.int n.1, .int n.2] := by
  unfold d2 at h
  cases h with
  | @tup a xs _ hT hxs =>
    cases hxs with
    | cons h1 t =>
      cases t with
      | cons h2 t =>
        cases t
        cases h1
        cases h2
        exact ⟨a, rfl, hT⟩
theorem to_d2 {K : PySem.W.Frag} {H : Hp} {a : Addr} {n : N2} (h : SqT K H a [.int n.1, .int n.2]) : Dp K H (.ref a) (d2 n) := .tup h (.cons (.int _) (.cons (.int _) .nil))
def metI (n : N2) (here : Int) : Bool := nz (Builtin.bitAnd n.2 (Builtin.bitNot here)) || nz (Builtin.bitAnd n.1 here)
def allMetI (R : List N2) (here : Int) : Bool := R.all fun n => metI n here
def spAllMet (K : PySem.W.Frag) : Sp := fun vs H Q _ => ∃ (l : Addr) (h : Int) (R : List N2), vs = [.ref l, .int h] ∧ L2' K H l R ∧ Q (.bl (allMetI R h)) H
theorem ok_allMet (F : Fun K "_all_met" "_all_met" sAllMet f fd) : FnOk P w K mg base CX0 (k + 1) f fd ["urgent", "here"] (spAllMet K) := by
  refine F.ok scAllMet (fun vs H Q E h => ?_) (fun cdv A outer s H vs Q E hr h => ?_)
  · obtain ⟨l, h, R, rfl, _⟩ := h
    rfl
  obtain ⟨l, h, R, rfl, ⟨ys, hl, hys⟩, q⟩ := h
  refine ⟨_, pss_cons (ps_for PassesOwn.never rfl (pi_list (pv 0)) (pg_tup (by rfl) (pgs_cons (pg_name (i := 2) scAllMet.nd rfl (.inl rfl)) (pgs_cons (pg_name (i := 3) scAllMet.nd rfl (.inl rfl)) pgs_nil)))
      (pss_one (ps_if (pt_not (PW.pt
        (pw_or (pt_truth (pe_op op_and (pv 3) (pe_un un_inv (pv 1))) (by intro _; rfl))
        (pw_or1 (pt_truth (pe_op op_and (pv 2) (pv 1)) (by intro _; rfl))))))
        (pss_one (ps_ret pe_bl)) pss_nil)))
    (pss_one (ps_ret pe_bl)), ?_⟩
  have yl : ys.length = R.length := by rw [dpAll_len hys, List.length_map]
  refine ⟨.ref l, rfl, l, rfl, ⟨_, SqL.of hl⟩, ?_⟩
  refine for_list (xs := ys) (fun i σ H2 => (∃ y3 y4, σ = [some (.ref l), some (.int h), y3, y4]) ∧ H2 = H ∧ (R.take i).all (fun n => metI n h) = true) ⟨⟨_, _, rfl⟩, rfl, rfl⟩ (fun i σ H2 _ hI2 => by rw [hI2.2.1]; exact SqL.of hl) (fun i x σ H2 hx hI2 => ?_) (fun σ H2 hI2 => ?_)
  · obtain ⟨⟨y3, y4, rfl⟩, rfl, ha⟩ := hI2
    obtain ⟨dd, hdd, hxd⟩ := dpAll_at' hys hx
    obtain ⟨n, hn, rfl⟩ := map_at hdd
    obtain ⟨u, rfl, hT⟩ := of_d2 hxd
    refine ⟨u, _, rfl, hT, rfl, _, _, rfl, _, [], rfl, rfl, ?_⟩
    have no : metI n h = false → Q (.bl false) H2 := fun e => by
      rw [show allMetI R h = false from all_no12 hn e] at q
      exact q
    have yes : metI n h = true → (∃ y3 y4, [some (V.ref l), some (.int h), some (.int n.1), some (.int n.2)] = [some (.ref l), some (.int h), y3, y4]) ∧ H2 = H2 ∧ (R.take (i + 1)).all (fun n => metI n h) = true := fun e => ⟨⟨_, _, rfl⟩, rfl, all_take12 hn ha e⟩
    refine ⟨.int n.2, rfl, .int h, rfl, h, rfl, _, _, rfl, rfl, nz (Builtin.bitAnd n.2 (Builtin.bitNot h)), rfl, ite2 (fun e => ?_) (fun e => ?_)⟩
    · exact iteF (yes (by unfold metI; rw [e]; rfl))
    refine ⟨.int n.1, rfl, .int h, rfl, _, _, rfl, rfl, nz (Builtin.bitAnd n.1 h), rfl, ?_⟩
    have p4 : metI n h = nz (Builtin.bitAnd n.1 h) := by
      unfold metI
      simp [Bool.eq_false_iff.mpr e]
    cases e4 : nz (Builtin.bitAnd n.1 h) with
    | true => exact iteF (yes (p4.trans e4))
    | false => exact iteT (no (p4.trans e4))
  · obtain ⟨⟨y3, y4, rfl⟩, rfl, ha⟩ := hI2
    rw [yl, List.take_length] at ha
    rw [show allMetI R h = true from ha] at q
    exact q
end
end Rw
namespace Rw
open PySem PySem.Spec PyProof.Rows L2
/-! ### _is_founded -/
abbrev nIsFounded : List Str := ["rows", "there", "urgent", "heads", "denied", "needs", "bars", "here"]
theorem scIsFounded : FnScope nIsFounded ["rows", "there"] (defScope sIsFounded) := ⟨rfl, rfl, rfl, by decide +kernel, rfl, by decide +kernel, by decide +kernel⟩
def urgB (t : Int) (n : N4) : Bool := !(nz (Builtin.bitAnd n.2.2.2 t) || (nz (Builtin.bitAnd n.2.1 (Builtin.bitNot t)) || nz (Builtin.bitAnd n.2.2.1 (Builtin.bitNot t))))
def urgI (R : List N4) (t : Int) : List N2 := (R.filter (urgB t)).map fun n => (n.1, n.2.2.1)
theorem urg_take {R : List N4} {t : Int} {i : Nat} {n : N4} (h : R[i]? = some n) : urgI (R.take (i + 1)) t = urgI (R.take i) t ++ (if urgB t n = true then [(n.1, n.2.2.1)] else []) := by
  unfold urgI
  rw [filt_take h, List.map_append]
  cases e : urgB t n with
  | true => rfl
  | false => rfl
def FoundI (R : List N4) (t : Int) : Prop := agreeI R t t = true ∧ ∀ m, 0 ≤ m → m < t → Builtin.bitAnd m t = m → allMetI (urgI R t) m = false
section
variable {P : Program} {w : World} {K : PySem.W.Frag} {mg : Str → Option Value} {base : Heap} {f : Addr} {fd : FuncData} {k : Nat}
def spIsFounded (K : PySem.W.Frag) : Sp := fun vs H Q _ => ∃ (l : Addr) (t : Int) (R : List N4), vs = [.ref l, .int t] ∧ L4 K H l R ∧ R.length < 76 ∧ 0 ≤ t ∧ ∀ b H', Same H H' → (b = true ↔ FoundI R t) → Q (.bl b) H'
theorem ok_isFounded {f1 f2 : Addr} {fd1 fd2 : FuncData} (F : Fun K "_is_founded" "_is_founded" sIsFounded f fd)
    (G1 : FnOk P w K mg base CX0 k f1 fd1 ["rows", "here", "there"] (spAgree K)) (b1 : Binds K fd1 ["rows", "here", "there"] []) (k1 : PySem.W.keepIn K (.ref f1) = true) (m1 : mg "_agree" = some (.ref f1))
    (G2 : FnOk P w K mg base CX0 k f2 fd2 ["urgent", "here"] (spAllMet K)) (b2 : Binds K fd2 ["urgent", "here"] []) (k2 : PySem.W.keepIn K (.ref f2) = true) (m2 : mg "_all_met" = some (.ref f2)) : FnOk P w K mg base CX0 (k + 1) f fd ["rows", "there"] (spIsFounded K) := by
  refine F.ok scIsFounded (fun vs H Q E h => ?_) (fun cdv A outer s H vs Q E hr h => ?_)
  · obtain ⟨l, t, R, rfl, _⟩ := h
    rfl
  obtain ⟨l, t, R, rfl, hL, few, t0, q⟩ := h
  obtain ⟨ys, hl, hys⟩ := id hL
  refine ⟨_, pss_cons (ps_if (pt_not (pt_val (pe_call G1 hr (by rfl) m1 k1 b1 .nil pass0 (pa_cons (pv 0) (pa_cons (pv 1) (pa_cons (pv 1) pa_nil)))))) (pss_one (ps_ret pe_bl)) pss_nil)
    (pss_cons (ps_set (i := 2) scIsFounded.nd rfl (.inl rfl) (pe_lst pa_nil))
    (pss_cons (ps_for PassesOwn.never rfl (pi_list (pv 0)) (pg_tup (by rfl) (pgs_cons (pg_name (i := 3) scIsFounded.nd rfl (.inl rfl)) (pgs_cons (pg_name (i := 4) scIsFounded.nd rfl (.inl rfl)) (pgs_cons (pg_name (i := 5) scIsFounded.nd rfl (.inl rfl)) (pgs_cons (pg_name (i := 6) scIsFounded.nd rfl (.inl rfl)) pgs_nil)))))
      (pss_one (ps_if (pt_not (PW.pt
        (pw_or (pt_truth (pe_op op_and (pv 6) (pv 1)) (by intro _; rfl))
        (pw_or (pt_truth (pe_op op_and (pv 4) (pe_un un_inv (pv 1))) (by intro _; rfl))
        (pw_or1 (pt_truth (pe_op op_and (pv 5) (pe_un un_inv (pv 1))) (by intro _; rfl)))))))
        (pss_one (ps_expr (pe_bm PySem.F.plainAttrs_list PySem.F.slot_list_append PySem.F.type_list_append mt_append (pv 2) (pa_cons (pe_tup (pa_cons (pv 3) (pa_cons (pv 5) pa_nil))) pa_nil)))) pss_nil)))
    (pss_cons (ps_set (i := 7) scIsFounded.nd rfl (.inl rfl) (pv 1))
    (pss_cons (ps_while PassesOwn.never (pt_truth (pv 7) (by intro _; rfl))
      (pss_cons (ps_set (i := 7) scIsFounded.nd rfl (.inl rfl) (pe_op op_and (pe_op op_sub (pv 7) pe_int) (pv 1)))
      (pss_one (ps_if (pt_val (pe_call G2 hr (by rfl) m2 k2 b2 .nil pass0 (pa_cons (pv 2) (pa_cons (pv 7) pa_nil)))) (pss_one (ps_ret pe_bl)) pss_nil))))
    (pss_one (ps_ret pe_bl)))))), ?_⟩
  have yl : ys.length = R.length := by rw [dpAll_len hys, List.length_map]
  refine ⟨.ref l, rfl, .int t, rfl, .int t, rfl, l, t, t, R, rfl, hL, _, rfl, ?_⟩
  cases ag : agreeI R t t with
  | false => exact iteT (q false H (fun _ _ e => e) ⟨(fun z => nomatch z), fun z => by rw [z.1] at ag; exact nomatch ag⟩)
  | true =>
  refine iteF ?_
  refine ⟨by show 0 ≤ sizeLine; decide, fun d hd0 => ?_⟩
  have s0 := same_new hd0 (.lst [])
  have hdS : (upd H d (.lst [])) d = some (.lst []) := upd_same
  let H0 : Hp := upd H d (.lst [])
  have mutd : Mut (H0 d) := by
    show Mut ((upd H d (.lst [])) d)
    rw [hdS]
    exact True.intro
  have nld : l ≠ d := fun z => by
    rw [z, hd0] at hl
    cases hl
  refine ⟨.ref l, rfl, l, rfl, ⟨_, SqL.of (s0 _ _ hl)⟩, ?_⟩
  refine for_list (xs := ys) (fun i σ H2 => (∃ y3 y4 y5 y6, σ = [some (.ref l), some (.int t), some (.ref d), y3, y4, y5, y6, none]) ∧ Same H H2 ∧ Bar d H0 H2 ∧ L2' K H2 d (urgI (R.take i) t)) ⟨⟨_, _, _, _, rfl⟩, s0, fun _ _ _ e => e, [], hdS, .nil⟩ (fun i σ H2 _ hI2 => SqL.of (hI2.2.1 _ _ hl)) (fun i x σ H2 hx hI2 => ?_) (fun σ H2 hI2 => ?_)
  · obtain ⟨⟨y3, y4, y5, y6, rfl⟩, sm, bar, zs, hd2, hzs⟩ := hI2
    obtain ⟨dd, hdd, hxd⟩ := dpAll_at' hys hx
    obtain ⟨n, hn, rfl⟩ := map_at hdd
    obtain ⟨u, rfl, hT⟩ := of_d4 (dp_same sm _ _ hxd)
    refine ⟨u, _, rfl, hT, rfl, _, _, rfl, _, _, rfl, _, _, rfl, _, [], rfl, rfl, ?_⟩
    have no : urgB t n = false → (∃ y3 y4 y5 y6, [some (V.ref l), some (.int t), some (.ref d), some (.int n.1), some (.int n.2.1), some (.int n.2.2.1), some (.int n.2.2.2), none] = [some (.ref l), some (.int t), some (.ref d), y3, y4, y5, y6, none]) ∧ Same H H2 ∧ Bar d H0 H2 ∧ L2' K H2 d (urgI (R.take (i + 1)) t) := fun e => ⟨⟨_, _, _, _, rfl⟩, sm, bar, by rw [urg_take hn, e]; exact ⟨zs, hd2, by simpa using hzs⟩⟩
    refine ⟨.int n.2.2.2, rfl, .int t, rfl, _, _, rfl, rfl, nz (Builtin.bitAnd n.2.2.2 t), rfl, ite2 (fun e => ?_) (fun e => ?_)⟩
    · exact iteF (no (by unfold urgB; rw [e]; rfl))
    refine ⟨.int n.2.1, rfl, .int t, rfl, t, rfl, _, _, rfl, rfl, nz (Builtin.bitAnd n.2.1 (Builtin.bitNot t)), rfl, ite2 (fun e2 => ?_) (fun e2 => ?_)⟩
    · exact iteF (no (by unfold urgB; rw [e2]; simp))
    refine ⟨.int n.2.2.1, rfl, .int t, rfl, t, rfl, _, _, rfl, rfl, nz (Builtin.bitAnd n.2.2.1 (Builtin.bitNot t)), rfl, ?_⟩
    have p4 : urgB t n = !nz (Builtin.bitAnd n.2.2.1 (Builtin.bitNot t)) := by
      unfold urgB
      simp [Bool.eq_false_iff.mpr e, Bool.eq_false_iff.mpr e2]
    cases e4 : nz (Builtin.bitAnd n.2.2.1 (Builtin.bitNot t)) with
    | true => exact iteF (no (by rw [p4, e4]; rfl))
    | false =>
      refine iteT ?_
      refine ⟨.ref d, rfl, .inl ⟨rfl, zs, SqL.of hd2⟩, .int n.1, rfl, .int n.2.2.1, rfl, by show 2 ≤ sizeLine; decide, fun v hv => ?_⟩
      have s7 := same_new hv (.tup [.int n.1, .int n.2.2.1])
      have hd7 := s7 _ _ hd2
      have il : i < R.length := (List.getElem?_eq_some_iff.mp hn).1
      have m7 : Mut ((upd H2 v (.tup [.int n.1, .int n.2.2.1])) d) := by
        rw [hd7]
        exact True.intro
      have zl : zs.length ≤ i := by
        rw [dpAll_len hzs, List.length_map]
        unfold urgI
        rw [List.length_map]
        have := List.length_filter_le (urgB t) (R.take i)
        rw [List.length_take] at this
        omega
      refine ⟨d, zs, _, rfl, rfl, hd7, small_line' (by omega), ?_⟩
      have st8 := Stay.put m7 (.lst (zs ++ [.ref v]))
      refine ⟨⟨_, _, _, _, rfl⟩, same_put (sm.trans s7) hd0, (bar.trans (.same s7)).trans .draw, zs ++ [.ref v], upd_same, ?_⟩
      rw [urg_take hn, if_pos (by rw [p4, e4]; rfl), List.map_append]
      exact dpAll_app (((Stay.same s7).trans st8).dpAll _ _ (okDs_d2 _) hzs) (.cons (st8.dp _ _ (ok_d2 _) (to_d2 (SqT.of upd_same))) .nil)
  · obtain ⟨⟨y3, y4, y5, y6, rfl⟩, sm, bar, hU⟩ := hI2
    rw [yl, List.take_length] at hU
    dsimp only [gName, tSeq, tAsg]
    refine ⟨.int t, rfl, ?_⟩
    have tt : Builtin.bitAnd t t = t := by
      rw [bitAnd_pp t0 t0, Nat.and_self]
      omega
    refine while_by (fun σ H' => ∃ h, (∃ y3 y4 y5 y6, σ = [some (.ref l), some (.int t), some (.ref d), y3, y4, y5, y6, some (.int h)]) ∧ H' = H2 ∧ 0 ≤ h ∧ h ≤ t ∧ Builtin.bitAnd h t = h ∧ ∀ m, h ≤ m → m < t → Builtin.bitAnd m t = m → allMetI (urgI R t) m = false)
      (fun σ _ => match σ[7]? with | some (some (V.int m)) => m.toNat | _ => 0) ⟨t, ⟨_, _, _, _, rfl⟩, rfl, t0, Int.le_refl _, tt, fun m a b => absurd a (by omega)⟩ (fun σ H' hP => ?_) (fun σ H' Q1 Q2 m h => ?_)
    · obtain ⟨h, ⟨x3, x4, x5, x6, rfl⟩, rfl, h0, hle, hw, hno⟩ := hP
      refine ⟨.int h, rfl, nz h, rfl, ite2 (fun e => ?_) (fun e => ?_)⟩
      · have hn : h ≠ 0 := by simpa [nz] using e
        have hp : 0 < h := by omega
        refine ⟨.int h, rfl, h, 1, rfl, rfl, .int t, rfl, _, _, rfl, rfl, ?_⟩
        obtain ⟨g0, g1, g2⟩ := and_nn (show 0 ≤ h - 1 by omega) t0
        have all' : ∀ m, Builtin.bitAnd (h - 1) t ≤ m → m < t → Builtin.bitAnd m t = m → m = Builtin.bitAnd (h - 1) t ∨ allMetI (urgI R t) m = false := fun m a b c => by
          by_cases lt : m < h
          · have z := within_step h.toNat h t m (Nat.le_refl _) hp (by omega) hw c lt
            exact .inl (by omega)
          · exact .inr (hno m (by omega) b c)
        refine ⟨.ref d, rfl, .int (Builtin.bitAnd (h - 1) t), rfl, d, Builtin.bitAnd (h - 1) t, urgI R t, rfl, hU, _, rfl, ?_⟩
        cases e2 : allMetI (urgI R t) (Builtin.bitAnd (h - 1) t) with
        | true =>
          refine iteT (q false _ sm ⟨(fun z => nomatch z), fun z => ?_⟩)
          rw [z.2 _ g0 (by omega) g2] at e2
          exact nomatch e2
        | false =>
          refine iteF ⟨⟨_, ⟨_, _, _, _, rfl⟩, rfl, g0, by omega, g2, fun m a b c => ?_⟩, ?_⟩
          · rcases all' m a b c with z | z
            · rw [z]
              exact e2
            · exact z
          · show (Builtin.bitAnd (h - 1) t).toNat < h.toNat
            omega
      · have hn : h = 0 := by simpa [nz] using e
        subst hn
        exact q true _ sm ⟨fun _ => ⟨ag, fun m m0 => hno m m0⟩, fun _ => rfl⟩
    · obtain ⟨x, h1, kk, h2, h3⟩ := h
      exact ⟨x, h1, kk, h2, m _ _ h3⟩
end
end Rw
namespace Rw
open PySem PySem.Spec PyProof.Rows L2
/-! ### t[::-1], t a tuple: always a new one -/
section
variable {prog : Program} {w : World} {A : Around} {E : Value → Shared → Prop} {s : Shared}
theorem rev_adjust (n : Nat) : Builtin.Slice.sliceAdjust none none (-1) (n : Int) = ((n : Int) - 1, -1) := by
  unfold Builtin.Slice.sliceAdjust
  simp
theorem rev_places (n : Nat) : Builtin.Slice.slicePlaces ((n : Int) - 1) (-1) (-1) = n := by
  unfold Builtin.Slice.slicePlaces
  have h1 : ¬ ((-1 : Int) > 0) := by decide
  rw [if_neg h1]
  by_cases h : (n : Int) - 1 > -1
  · rw [if_pos h, show (-(-1) : Int) = 1 by decide, Int.ediv_one]
    omega
  · rw [if_neg h]
    omega
theorem fm_congr {α β : Type} {f g : α → Option β} : ∀ {l : List α}, (∀ k ∈ l, f k = g k) → l.filterMap f = l.filterMap g
  | [], _ => rfl
  | a :: l, h => by
    rw [List.filterMap_cons, List.filterMap_cons, h a List.mem_cons_self, fm_congr fun k hk => h k (List.mem_cons_of_mem _ hk)]
theorem rev_pick (xs : Array Value) : ((List.range xs.size).filterMap fun (k : Nat) => xs[(((xs.size : Int) - 1) + (k : Int) * (-1)).toNat]?).toArray = xs.toList.reverse.toArray := by
  have e : ∀ k ∈ List.range xs.size, xs[(((xs.size : Int) - 1) + (k : Int) * (-1)).toNat]? = xs[xs.size - 1 - k]? := fun k hk => by
    have := List.mem_range.mp hk
    congr 1
    omega
  rw [fm_congr e, show (fun k => xs[xs.size - 1 - k]?) = (fun x : Nat => xs[x]?) ∘ fun k => xs.size - 1 - k from rfl, ← List.filterMap_map, PySem.W.krv_range, List.filterMap_reverse, PySem.W.krv_all]
theorem sliceApplied_rev {sl : Addr} {vl vu vs : Value} {n : Nat} {Q : Int × Int × Nat → Shared → Prop} (hs : s.heap.IsSliceOf sl vl vu vs) (pl : IsPart vl none) (pu : IsPart vu none) (ps : IsPart vs (some (-1)))
    (h : Q ((n : Int) - 1, -1, n) s) : wpAny (model prog w) A (Builtin.Slice.sliceApplied (.ref sl) (pure (n : Int))) Q E s := by
  obtain ⟨os, hos, hcs, hds⟩ := id hs
  unfold Builtin.Slice.sliceApplied Builtin.Slice.sliceFields
  refine wpAny_bind (wpAny_bind (wpAny_field hos hds (x := vl) rfl (wpAny_bind (wpAny_field hos hds (x := vu) rfl (wpAny_bind (wpAny_field hos hds (x := vs) rfl (wpAny_pure ?_)))))))
  refine wpAny_bind (HT.slicePart_ ps ?_)
  show wpAny _ _ (if ((-1 : Int) == 0) = true then _ else _) _ _ s
  rw [if_neg (by decide)]
  refine wpAny_bind (HT.slicePart_ pl (wpAny_bind (HT.slicePart_ pu (wpAny_bind (wpAny_pure ?_)))))
  show wpAny _ _ (match Builtin.Slice.sliceAdjust none none (-1) (n : Int) with | (lo, hi) => pure (lo, (-1 : Int), Builtin.Slice.slicePlaces lo hi (-1))) _ _ s
  rw [rev_adjust n]
  show wpAny _ _ (pure ((n : Int) - 1, (-1 : Int), Builtin.Slice.slicePlaces ((n : Int) - 1) (-1) (-1))) _ _ s
  rw [rev_places]
  exact wpAny_pure h
theorem getItem_tuple_rev {t sl : Addr} {items : Array Value} {vl vu vs : Value} {Q : Value → Shared → Prop} (ht : IsTup s.heap t items) (hs : s.heap.IsSliceOf sl vl vu vs) (pl : IsPart vl none) (pu : IsPart vu none) (ps : IsPart vs (some (-1)))
    (h : Q (.ref s.heap.objs.size) { s with heap := s.heap.push { cls := .type "tuple", data := .seq items.toList.reverse.toArray } })
    (hsz : items.size ≤ sizeLine) : wpAny (model prog w) A (getItem (.ref t) (.ref sl)) Q E s := by
  have htake : sizeOk (.seq items.toList.reverse.toArray) := by
    show items.toList.reverse.toArray.size ≤ sizeLine
    rw [List.size_toArray, List.length_reverse, Array.length_toList]
    exact hsz
  obtain ⟨os, hos, hcs, hds⟩ := id hs
  have hTs : s.TypeIs (.ref sl) "slice" := ⟨os, hos, hcs⟩
  unfold getItem
  try with_reducible refine wpAny_holding ?_
  first | refine wpAny_bind (wpAny_pure ?_) | skip
  refine wpAny_bind (wpAny_sequenceKey ht.typeIs (by decide) ?_)
  refine wpAny_bind (wpAny_callSpecial?_slot (name := Str.ofString "__getitem__") ht.typeIs PyProof.Rows.slot_tuple_getitem
    (wpAny_call_entry PyProof.Rows.slot_tuple_getitem ht.typeIs PyProof.Rows.entry_tuple_getitem ?_ (PyProof.Rows.args_tuple_getitem _ _)))
  show wpAny _ _ (Builtin.Tuple.tupleItemsOf (.ref t) >>= _) _ _ s
  refine wpAny_bind (PyProof.Rows.tupleItemsOf_ ht ?_)
  refine wpAny_bind (wpAny_typeOf hTs ?_)
  rw [if_pos (by decide)]
  refine wpAny_bind (sliceApplied_rev hs pl pu ps ?_)
  have hno : ¬ ((((items.size : Int) - 1) == 0 && (-1 : Int) == 1 && items.size == items.size) = true) := by
    intro q
    rw [Bool.and_eq_true, Bool.and_eq_true] at q
    exact absurd q.1.2 (by decide)
  show wpAny _ _ (if (((items.size : Int) - 1) == 0 && (-1 : Int) == 1 && items.size == items.size) = true then _ else _) _ _ s
  rw [if_neg hno, rev_pick]
  first
    | exact wpAny_bind (m := Builtin.Tuple.tupleExact _) (wpAny_newObj_type (wpAny_pure ⟨_, rfl, wpAny_pure h⟩) htake)
    | exact wpAny_bind (m := Builtin.Tuple.tupleExact _) (wpAny_newObj_type (wpAny_bind (wpAny_pure (wpAny_pure ⟨_, rfl, wpAny_pure h⟩))) htake)
    | exact wpAny_bind (wpAny_bind (m := Builtin.Tuple.tupleExact _) (wpAny_newObj_type (wpAny_pure (wpAny_pure ⟨_, rfl, wpAny_pure h⟩)) htake))
    | exact wpAny_bind (wpAny_bind (m := Builtin.Tuple.tupleExact _) (wpAny_newObj_type (wpAny_pure ⟨_, rfl, wpAny_pure h⟩) htake))
end
section
variable {X : Cx}
def tRevT (K : PySem.W.Frag) (te : TE) : TE := fun σ H Q => te σ H fun x H1 => ∃ a xs, x = .ref a ∧ SqT K H1 a xs ∧ ∀ p, H1 p = none → Q (.ref p) (upd H1 p (.tup xs.reverse))
theorem pe_revT {e : Expr} {te : TE} {k : Nat} {p1 p2 p3 pos : Pos} (he : PE X e te) : PE X (.Subscript e (.Slice none none (some (.UnaryOp .USub (.Constant (.int 1) k p1) p2)) p3) pos) (tRevT X.K te) := by
  refine ⟨fun pins s σ H Q I h => ?_⟩
  refine Subscript_ (thn (he.run pins s σ H _ I h) fun v s1 ⟨x, H1, I1, r1, q1⟩ => ?_)
  obtain ⟨a, xs, ex, hx, q⟩ := q1
  subst ex
  cases r1
  have hst : PO X (some (.UnaryOp .USub (.Constant (.int 1) k p1) p2)) (tPart (tUn (rU fun i => .int (-i)) (tC (.int 1)))) := po_some (pe_un un_neg pe_int)
  refine wpAny_Slice (thn (po_none.run pins s1 σ H1 (fun o H2 => o = none ∧ H2 = H1) I1 ⟨rfl, rfl⟩) fun vl s2 ⟨l, H2, I2, pl, el, e2⟩ => ?_)
  subst el e2
  refine thn (po_none.run pins s2 σ H2 (fun o H3 => o = none ∧ H3 = H2) I2 ⟨rfl, rfl⟩) fun vu s3 ⟨u, H3, I3, pu, eu, e3⟩ => ?_
  subst eu e3
  refine thn (hst.run pins s3 σ H3 (fun o H4 => o = some (-1) ∧ H4 = H3) I3 ⟨1, rfl, -1, rfl, rfl, rfl⟩) fun vs s4 ⟨o, H4, I4, ps, eo, e4⟩ => ?_
  subst eo e4
  have I5 : Inv X pins σ H4 { s4 with heap := s4.heap.push { cls := .type "slice", data := .fields #[vl, vu, vs] } } := I4.kept (t' := s4.toks) fun b ob q => Heap.get?_push_of_some _ q
  obtain ⟨its, r, ht, hz⟩ := I5.tuple hx
  have hlen := r.length
  show wpAny (model X.prog X.w) X.A (subscriptTail e (.Slice none none (some (.UnaryOp .USub (.Constant (.int 1) k p1) p2)) p3) (.ref a) (.ref s4.heap.objs.size)) (EP X pins σ Q) X.xe { s4 with heap := s4.heap.push { cls := .type "slice", data := .fields #[vl, vu, vs] } }
  refine tail_any (ops := [.ref a, .ref s4.heap.objs.size]) ht.typeIs (PyProof.Rows.slot_tuple_getitem.lookup) ?_ (by with_unfolding_all rfl)
  refine getItem_tuple_rev ht (Heap.IsSliceOf.new _ vl vu vs) pl pu ps ?_ (by rw [List.size_toArray]; omega)
  refine ⟨.ref _, _, I5.laid (t' := s4.toks) (o := .tup xs.reverse) (fun b ob q => Heap.get?_push_of_some _ q) (Nat.le_refl _) ?_, rfl, q _ (I5.hok.fresh (Nat.le_refl _))⟩
  exact ⟨by rw [List.length_reverse]; exact hz, _, r.reverse, IsTup.new _ _⟩
end
end Rw
namespace Rw
open PySem PySem.Spec PyProof.Rows L2
/-! ### _every_world -/
abbrev nEvery : List Str := ["names", "found", "name", "begun", "world"]
theorem scEvery : FnScope nEvery ["names"] (defScope sEvery) := ⟨rfl, rfl, rfl, by decide +kernel, rfl, by decide +kernel, by decide +kernel⟩
/-- a list of worlds -/
def WLs (K : PySem.W.Frag) (H : Hp) (l : Addr) (S : List W) : Prop := ∃ ys, H l = some (.lst ys) ∧ DpAll K H ys (S.map wd)
theorem okDs_wds (S : List W) : okDs (S.map wd) = true := okDs_all fun d hd => by
  obtain ⟨n, _, rfl⟩ := List.mem_map.mp hd
  exact ok_wd n
theorem WLs.same {K : PySem.W.Frag} {H H' : Hp} {l : Addr} {S : List W} (h : WLs K H l S) (e : Same H H') : WLs K H' l S := by
  obtain ⟨ys, h1, h2⟩ := h
  exact ⟨ys, e _ _ h1, (Stay.same e).dpAll _ _ (okDs_wds S) h2⟩
theorem dps_app12 {K : PySem.W.Frag} {H : Hp} {ys : List V} {es : List PyData} (h2 : DpAll K H ys es) : ∀ {xs : List V} {ds : List PyData}, DpAll K H xs ds → DpAll K H (xs ++ ys) (ds ++ es)
  | [], [], .nil => h2
  | _ :: _, _ :: _, .cons h t => .cons h (dps_app12 h2 t)
theorem dps_tail {K : PySem.W.Frag} {H : Hp} : ∀ {xs : List V} {ds : List PyData}, DpAll K H xs ds → DpAll K H xs.tail ds.tail
  | [], [], .nil => .nil
  | _ :: _, _ :: _, .cons h t => t
theorem rev_at {own : W} {i : Nat} {x : V} (h : (own.map V.str).reverse[i]? = some x) : ∃ z, x = .str z ∧ i < own.length ∧ own.drop (own.length - (i + 1)) = z :: own.drop (own.length - i) := by
  obtain ⟨hi, e⟩ := List.getElem?_eq_some_iff.mp h
  have hi' : i < own.length := by simpa using hi
  rw [List.getElem_reverse, List.getElem_map] at e
  have e3 : (own.map V.str).length - 1 - i = own.length - (i + 1) := by
    rw [List.length_map]
    omega
  have lt : own.length - (i + 1) < own.length := by omega
  refine ⟨own[own.length - (i + 1)], ?_, hi', ?_⟩
  · rw [← e]
    congr 1
    simp only [e3]
  · rw [List.drop_eq_getElem_cons lt, show own.length - (i + 1) + 1 = own.length - i by omega]
theorem cut_tail (xs : List V) (h : 1 ≤ xs.length) : cutV xs (some 1) none = xs.tail := by
  cases xs with
  | nil => exact absurd h (by simp)
  | cons x xs =>
    unfold cutV
    have e1 : HT.sIx (x :: xs).length 0 (some 1) = 1 := by
      have z := HT.sIx_nat (x :: xs).length 0 1
      rw [show ((1 : Nat) : Int) = 1 from rfl] at z
      rw [z, List.length_cons]
      omega
    rw [e1, HT.sIx_none]
    simp
section
variable {P : Program} {w : World} {K : PySem.W.Frag} {mg : Str → Option Value} {base : Heap} {f : Addr} {fd : FuncData} {k : Nat}
def spEvery (K : PySem.W.Frag) : Sp := fun vs H Q _ => ∃ (a : Addr) (own : W), vs = [.ref a] ∧ SqT K H a (own.map V.str) ∧ own.length ≤ 10 ∧ ∀ H' l, Same H H' → H l = none → WLs K H' l (everyW own) → Q (.ref l) H'
theorem ok_every (F : Fun K "_every_world" "_every_world" sEvery f fd) : FnOk P w K mg base CX0 (k + 1) f fd ["names"] (spEvery K) := by
  refine F.ok scEvery (fun vs H Q E h => ?_) (fun cdv A outer s H vs Q E hr h => ?_)
  · obtain ⟨a, own, rfl, _⟩ := h
    rfl
  obtain ⟨a, own, rfl, hT, few, q⟩ := h
  refine ⟨_, pss_cons (ps_set (i := 1) scEvery.nd rfl (.inl rfl) (pe_lst (pa_cons (pe_tup pa_nil) pa_nil)))
    (pss_cons (ps_for PassesOwn.never rfl (pi_tup (pe_revT (pv 0))) (pg_name (i := 2) scEvery.nd rfl (.inr rfl))
      (pss_cons (ps_setLc (i := 3) (own := [("world", 4)]) (g := gName 4) (te := tTup (tCons (tVar 2) (StX.tStar K (tVar 4) tNil))) (by rfl) scEvery.nd rfl rfl (sw_true rfl rfl rfl (by decide +kernel)) (pi_list (pv 1)) (blkOk_by (N := nEvery) (sc := defScope sEvery) (by decide +kernel))
        (fun _ _ _ _ _ => pg_name (i := 4) scEvery.nd rfl (Or.inl rfl)) (fun _ _ _ _ _ => pts_nil) (fun _ _ _ _ _ => pe_tup (pa_cons (pv 2) (StX.pa_star (pv 4) pa_nil))))
      (pss_one (ps_set (i := 1) scEvery.nd rfl (.inl rfl) (pe_op op_cat (pe_op op_cat (pe_lst (pa_cons (pe_tup pa_nil) pa_nil)) (pv 3)) (pe_slice sl_list (pv 1) (po_some pe_int) po_none))))))
    (pss_one (ps_ret (pv 1)))), ?_⟩
  refine ⟨by show 0 ≤ sizeLine; decide, fun t0 ht0 => ?_⟩
  have s0 := same_new ht0 (.tup [])
  refine ⟨by show 1 ≤ sizeLine; decide, fun l0 hl0 => ?_⟩
  have s1 := same_new hl0 (.lst [.ref t0])
  have s01 := s0.trans s1
  refine ⟨.ref a, rfl, a, _, rfl, same_tup s01 hT, fun r hr0 => ?_⟩
  have s2 := same_new hr0 (.tup (own.map V.str).reverse)
  have s02 := s01.trans s2
  refine ⟨r, rfl, ⟨_, SqT.of upd_same⟩, ?_⟩
  let HR : Hp := upd (upd (upd H t0 (.tup [])) l0 (.lst [.ref t0])) r (.tup (own.map V.str).reverse)
  have hrT : SqT K HR r (own.map V.str).reverse := SqT.of upd_same
  refine for_tup (xs := (own.map V.str).reverse) (fun i σ H2 => (∃ l y2 y3, σ = [some (.ref a), some (.ref l), y2, y3, none] ∧ H l = none ∧ WLs K H2 l (everyW (own.drop (own.length - i)))) ∧ Same HR H2) ⟨⟨l0, _, _, rfl, none_back s0 hl0, ?_⟩, fun _ _ e => e⟩ (fun i σ H2 _ hI2 => same_tup hI2.2 hrT) (fun i x σ H2 hx hI2 => ?_) (fun σ H2 hI2 => ?_)
  · rw [Nat.sub_zero, List.drop_length]
    refine ⟨[.ref t0], s2 _ _ upd_same, .cons (to_wd (ns := []) ?_) .nil⟩
    exact same_tup (s1.trans s2) (SqT.of upd_same)
  · obtain ⟨⟨l, y2, y3, rfl, hln, ys, hl, hys⟩, sm⟩ := hI2
    obtain ⟨z, rfl, il, ed⟩ := rev_at hx
    rw [ed]
    generalize hS : everyW (own.drop (own.length - i)) = S at hys
    have Sl : S.length ≤ 1024 := by
      rw [← hS, every_len, List.length_drop]
      have : 2 ^ (own.length - (own.length - i)) ≤ 2 ^ 10 := Nat.pow_le_pow_right (by decide) (by omega)
      omega
    have S1 : 1 ≤ S.length := by
      rw [← hS, every_len]
      exact Nat.pow_pos (by decide)
    have yl : ys.length = S.length := by rw [dpAll_len hys, List.length_map]
    have en : everyW (z :: own.drop (own.length - i)) = [] :: (S.map (fun t => z :: t) ++ S.tail) := by
      show [] :: ((everyW (own.drop (own.length - i))).map (fun t => z :: t) ++ (everyW (own.drop (own.length - i))).tail) = _
      rw [hS]
    rw [en]
    refine ⟨.ref l, rfl, l, rfl, ⟨_, SqL.of hl⟩, fun D hD => ?_⟩
    refine lc_list (xs := ys) (fun j H3 => Same H2 H3 ∧ ∃ zs, H3 D = some (.lst zs) ∧ DpAll K H3 zs ((S.take j).map fun t => wd (z :: t))) ⟨same_new hD _, [], upd_same, .nil⟩ (fun j H3 _ h => SqL.of (h.1 _ _ hl)) (fun j y H3 hy h => ?_) (fun H3 h => ?_)
    · obtain ⟨s3, zs, hd, hzs⟩ := h
      obtain ⟨de, hde, hyd⟩ := dpAll_at' hys hy
      obtain ⟨t, ht, rfl⟩ := map_at hde
      obtain ⟨b, rfl, hB⟩ := of_wd ((Stay.same s3).wd hyd)
      have tl : t.length ≤ 10 := by
        have z2 : t ∈ S := List.mem_of_getElem? ht
        rw [← hS] at z2
        have := (mem_every.mp z2).length_le
        rw [List.length_drop] at this
        omega
      refine ⟨rfl, .str z, rfl, .ref b, rfl, b, _, rfl, .inl hB, ?_⟩
      refine ⟨by
        show (V.str z :: (t.map V.str ++ [])).length ≤ sizeLine
        rw [List.append_nil, List.length_cons, List.length_map]
        exact small_line (by omega), fun u hu => ?_⟩
      have eu : (V.str z :: (t.map V.str ++ [])) = (z :: t).map V.str := by
        rw [List.append_nil]
        rfl
      rw [eu]
      have s4 := same_new hu (.tup ((z :: t).map V.str))
      have hd4 := s4 _ _ hd
      have m4 : Mut ((upd H3 u (.tup ((z :: t).map V.str))) D) := by
        rw [hd4]
        exact True.intro
      have jl : j < S.length := (List.getElem?_eq_some_iff.mp ht).1
      have st5 := Stay.put m4 (.lst (zs ++ [.ref u]))
      refine ⟨zs, hd4, small_line' (by rw [dpAll_len hzs, List.length_map, List.length_take]; omega), same_put (s3.trans s4) hD, zs ++ [.ref u], upd_same, ?_⟩
      rw [take_snoc ht, List.map_append]
      refine dps_app12 (.cons (st5.wd (to_wd (SqT.of upd_same))) .nil) (((Stay.same s4).trans st5).dpAll _ _ (okDs_all fun d hd => ?_) hzs)
      obtain ⟨q, _, rfl⟩ := List.mem_map.mp hd
      exact ok_wd _
    · obtain ⟨s3, zs, hd, hzs⟩ := h
      rw [yl, List.take_length] at hzs
      have zl : zs.length = S.length := by rw [dpAll_len hzs, List.length_map]
      refine ⟨by show 0 ≤ sizeLine; decide, fun t1 ht1 => ?_⟩
      have s4 := same_new ht1 (.tup [])
      refine ⟨by show 1 ≤ sizeLine; decide, fun l1 hl1 => ?_⟩
      have s5 := same_new hl1 (.lst [.ref t1])
      have s45 := s4.trans s5
      refine ⟨.ref D, rfl, l1, D, [.ref t1], zs, rfl, rfl, upd_same, s45 _ _ hd, small_line (by rw [List.length_singleton, zl]; omega), fun p hp => ?_⟩
      have s6 := same_new hp (.lst ([.ref t1] ++ zs))
      have s46 := s45.trans s6
      refine ⟨.ref l, rfl, 1, rfl, l, ys, rfl, SqL.of ((s3.trans s46) _ _ hl), fun p2 hp2 => ?_⟩
      rw [cut_tail ys (by omega)]
      have s7 := same_new hp2 (.lst ys.tail)
      have s47 := s46.trans s7
      refine ⟨p, p2, [.ref t1] ++ zs, ys.tail, rfl, rfl, s7 _ _ upd_same, upd_same, small_line (by rw [List.length_append, List.length_singleton, List.length_tail]; omega), fun p3 hp3 => ?_⟩
      have s8 := same_new hp3 (.lst ([.ref t1] ++ zs ++ ys.tail))
      have s48 := s47.trans s8
      have sAll := sm.trans (s3.trans s48)
      refine ⟨⟨p3, _, _, rfl, none_back (s02.trans (sm.trans (s3.trans s47))) hp3, _, upd_same, ?_⟩, sAll⟩
      rw [List.map_cons, List.map_append, List.map_map, ← List.cons_append]
      have h1 := (Stay.same s48).dpAll _ _ (okDs_all fun d hd => by
        obtain ⟨q, _, rfl⟩ := List.mem_map.mp hd
        exact ok_wd _) hzs
      have h2 := (Stay.same (s3.trans s48)).dpAll _ _ (okDs_wds S) hys
      have h3 : DpAll K _ ys.tail (S.map wd).tail := dps_tail h2
      rw [← List.map_tail] at h3
      refine dps_app12 h3 (.cons ?_ h1)
      exact to_wd (ns := []) (same_tup (s5.trans (s6.trans (s7.trans s8))) (SqT.of upd_same))
  · obtain ⟨⟨l, y2, y3, rfl, hln, hW⟩, sm⟩ := hI2
    rw [List.length_reverse, List.length_map, Nat.sub_self, List.drop_zero] at hW
    exact ⟨.ref l, rfl, q H2 l (s02.trans sm) hln hW⟩
end
end Rw
namespace Rw
open PySem PySem.Spec PyProof.Rows L2
/-! ### answers, is_answer -/
abbrev nAnswers : List Str := ["program", "own", "bits", "rows", "world"]
theorem scAnswers : FnScope nAnswers ["program"] (defScope sAnswers) := ⟨rfl, rfl, rfl, by decide +kernel, rfl, by decide +kernel, by decide +kernel⟩
theorem scIsAnswer : FnScope ["program", "world", "own", "bits"] ["program", "world"] (defScope sIsAnswer) := ⟨rfl, rfl, rfl, by decide +kernel, rfl, by decide +kernel, by decide +kernel⟩
/-- a set of names is an answer, told by numbers -/
noncomputable def fdB (S : List Rl) (own w : W) : Bool := @decide (FoundI (S.map (numR own)) (num own w)) (Classical.propDecidable _)
theorem fdB_of {S : List Rl} {own w : W} {b : Bool} (h : b = true ↔ FoundI (S.map (numR own)) (num own w)) : b = fdB S own w := by
  unfold fdB
  cases b with
  | true => exact (@decide_eq_true _ (Classical.propDecidable _) (h.mp rfl)).symm
  | false => exact (@decide_eq_false _ (Classical.propDecidable _) (fun z => nomatch h.mpr z)).symm
theorem few_own {S : List Rl} {own bd : W} (h : IsW own) (m : ∀ z, z ∈ own ↔ z ∈ namesL S) (hb : ∀ z ∈ namesL S, z ∈ bd) : own.length ≤ bd.length := len_le (upX_nodup h.up) fun z hz => hb z ((m z).mp hz)
section
variable {P : Program} {w : World} {K : PySem.W.Frag} {mg : Str → Option Value} {base : Heap} {f : Addr} {fd : FuncData} {k : Nat}
def spAnswers (K : PySem.W.Frag) (C CP : Addr) : Sp := fun vs H Q E => ∃ v : V, vs = [v] ∧ ((∃ (S : List Rl) (bd : W), PgAt K C H v S ∧ (∀ r ∈ S, IsR r) ∧ S.length < 76 ∧ (∀ z ∈ namesL S, z ∈ bd) ∧ bd.length ≤ 10 ∧ ∀ H' l own, Same H H' → H l = none → IsW own → (∀ z, z ∈ own ↔ z ∈ namesL S) → WLs K H' l ((everyW own).filter (fdB S own)) → Q (.ref l) H') ∨
  (∃ d, Dp K H v d ∧ ∀ dx, H dx = none → E (.ref CP) (some dx) (upd H dx (.xd [(("thing" : Str), v)]))))
theorem ok_answers {C CP pN f1 f2 f3 f4 f5 f6 f7 : Addr} {fd1 fd2 fd3 fd4 fd5 fd6 fd7 : FuncData} (F : Fun K "answers" "answers" sAnswers f fd) (c : Cls K C) (hp : PropOf K C "names" pN f2)
    (G1 : FnOk P w K mg base (L2.CX P w) (k + 1) f1 fd1 ["thing"] (spCheckProgram K C CP)) (b1 : Binds K fd1 ["thing"] []) (k1 : PySem.W.keepIn K (.ref f1) = true) (m1 : mg "check_program" = some (.ref f1))
    (G2 : FnOk P w K mg base CX0 k f2 fd2 ["self"] (spNames K C)) (b2 : Binds K fd2 ["self"] [])
    (G3 : FnOk P w K mg base CX0 (k + 1) f3 fd3 ["names"] (spBitsOf K)) (b3 : Binds K fd3 ["names"] []) (k3 : PySem.W.keepIn K (.ref f3) = true) (m3 : mg "_bits_of" = some (.ref f3))
    (G4 : FnOk P w K mg base CX0 (k + 1) f4 fd4 ["program", "bits"] (spNumbered K C)) (b4 : Binds K fd4 ["program", "bits"] []) (k4 : PySem.W.keepIn K (.ref f4) = true) (m4 : mg "_numbered" = some (.ref f4))
    (G5 : FnOk P w K mg base CX0 (k + 1) f5 fd5 ["names"] (spEvery K)) (b5 : Binds K fd5 ["names"] []) (k5 : PySem.W.keepIn K (.ref f5) = true) (m5 : mg "_every_world" = some (.ref f5))
    (G6 : FnOk P w K mg base CX0 (k + 1) f6 fd6 ["rows", "there"] (spIsFounded K)) (b6 : Binds K fd6 ["rows", "there"] []) (k6 : PySem.W.keepIn K (.ref f6) = true) (m6 : mg "_is_founded" = some (.ref f6))
    (G7 : FnOk P w K mg base CX0 (k + 1) f7 fd7 ["world", "bits"] (spNumber K)) (b7 : Binds K fd7 ["world", "bits"] []) (k7 : PySem.W.keepIn K (.ref f7) = true) (m7 : mg "_number" = some (.ref f7)) :
    FnOk P w K mg base (L2.CX P w) (k + 2) f fd ["program"] (spAnswers K C CP) := by
  refine F.okX scAnswers (fun vs H Q E h => ?_) (fun cdv A outer s H vs Q E hr h => ?_)
  · obtain ⟨v, rfl, _⟩ := h
    rfl
  obtain ⟨v, rfl, h⟩ := h
  refine ⟨_, pss_cons (ps_expr (pe_call G1 hr (by rfl) m1 k1 b1 .nil (passes_call (takes_of rfl rfl rfl rfl) (fun _ _ _ _ h => h)) (pa_cons (pv 0) pa_nil)))
    (pss_cons (ps_set (i := 1) scAnswers.nd rfl (.inl rfl) (pe_prop (pv 0) c hp G2 hr b2 .nil pass0 rfl))
    (pss_cons (ps_set (i := 2) scAnswers.nd rfl (.inr rfl) (pe_call G3 hr (by rfl) m3 k3 b3 .nil pass0 (pa_cons (pv 1) pa_nil)))
    (pss_cons (ps_set (i := 3) scAnswers.nd rfl (.inr rfl) (pe_call G4 hr (by rfl) m4 k4 b4 .nil pass0 (pa_cons (pv 0) (pa_cons (pv 2) pa_nil))))
    (pss_one (ps_ret (pe_lc (own := [("world", 4)]) (g := gName 4) (by rfl) scAnswers.nd (pi_list (pe_call G5 hr (by rfl) m5 k5 b5 .nil pass0 (pa_cons (pv 1) pa_nil))) (blkOk_by (N := nAnswers) (sc := defScope sAnswers) (by decide +kernel))
        (fun _ _ _ _ _ => pg_name (i := 4) scAnswers.nd rfl (Or.inl rfl)) (fun _ _ _ _ _ => pts_one (pt_val (pe_call G6 hr (by rfl) m6 k6 b6 .nil pass0 (pa_cons (pv 3) (pa_cons (pe_call G7 hr (by rfl) m7 k7 b7 .nil pass0 (pa_cons (pv 4) (pa_cons (pv 2) pa_nil))) pa_nil))))) (fun _ _ _ _ _ => pv 4))))))), ?_⟩
  rcases h with ⟨S, bd, hS, hI, few, hbd, lbd, q⟩ | ⟨d, hd, q⟩
  · refine ⟨v, rfl, v, rfl, .inl ⟨S, hS, ?_⟩⟩
    obtain ⟨a, dx, t0, ys0, rfl, i1, i2, i3⟩ := id hS
    refine ⟨.ref a, rfl, a, dx, _, rfl, i1, .ref a, S, bd, rfl, hS, hI, hbd, by omega, fun H1 tn own s1 htn hown hmem => ?_⟩
    have ol := few_own hown hmem hbd
    have nd := upX_nodup hown.up
    refine ⟨.ref tn, rfl, tn, own, rfl, htn, nd, by omega, fun H2 D s2 hD hB => ?_⟩
    have s12 := s1.trans s2
    refine ⟨.ref a, rfl, .ref D, rfl, .ref a, D, S, own, rfl, hS.same s12, hI, few, hB, nd, fun H3 l s3 hl hL => ?_⟩
    refine ⟨.ref tn, rfl, tn, own, rfl, same_tup (s2.trans s3) htn, by omega, fun H4 e s4 he hW => ?_⟩
    obtain ⟨ys, hy, hys⟩ := id hW
    have s14 := s12.trans (s3.trans s4)
    have yl : ys.length = (everyW own).length := by rw [dpAll_len hys, List.length_map]
    have el : (everyW own).length ≤ 1024 := by
      rw [every_len]
      exact Nat.pow_le_pow_right (n := 2) (by decide) (show own.length ≤ 10 by omega)
    refine ⟨e, rfl, ⟨_, SqL.of hy⟩, fun DD hDD => ?_⟩
    refine lc_list (xs := ys) (fun i H5 => Same H4 H5 ∧ WLs K H5 DD (((everyW own).take i).filter (fdB S own))) ⟨same_new hDD _, [], upd_same, .nil⟩ (fun i H5 _ h => SqL.of (h.1 _ _ hy)) (fun i y H5 hyi h => ?_) (fun H5 h => ?_)
    · obtain ⟨s5, zs, hd5, hzs⟩ := h
      obtain ⟨de, hde, hyd⟩ := dpAll_at' hys hyi
      obtain ⟨t, ht, rfl⟩ := map_at hde
      have hyd5 := (Stay.same s5).wd hyd
      have sub : t.Sublist own := mem_every.mp (List.mem_of_getElem? ht)
      have tl := sub.length_le
      refine ⟨rfl, .ref l, rfl, y, rfl, .ref D, rfl, y, D, t, own, rfl, hyd5, (s3.trans (s4.trans s5)) _ _ hB, nd, nd.sublist sub, by omega, fun H6 s6 => ?_⟩
      have s56 := s4.trans (s5.trans s6)
      refine ⟨l, num own t, _, rfl, hL.same s56, by rw [List.length_map]; exact few, num_nn own t, fun b H7 s7 hb => ⟨b, rfl, ?_⟩⟩
      have eb := fdB_of hb
      have s57 := s5.trans (s6.trans s7)
      have hd7 := (s6.trans s7) _ _ hd5
      have hzs7 := (Stay.same (s6.trans s7)).dpAll _ _ (okDs_wds _) hzs
      cases b with
      | false =>
        refine iteF ⟨s57, ?_⟩
        rw [filt_take ht, if_neg (by rw [← eb]; exact Bool.false_ne_true), List.append_nil]
        exact ⟨zs, hd7, hzs7⟩
      | true =>
        refine iteT ⟨y, rfl, zs, hd7, small_line' ?_, same_put s57 hDD, ?_⟩
        · rw [dpAll_len hzs, List.length_map]
          have := List.length_filter_le (fdB S own) ((everyW own).take i)
          rw [List.length_take] at this
          omega
        · rw [filt_take ht, if_pos eb.symm]
          have m7 : Mut (H7 DD) := by
            rw [hd7]
            exact True.intro
          have st8 := Stay.put m7 (.lst (zs ++ [y]))
          refine ⟨zs ++ [y], upd_same, ?_⟩
          rw [List.map_append]
          exact dps_app12 (.cons (((Stay.same (s6.trans s7)).trans st8).wd hyd5) .nil) (st8.dpAll _ _ (okDs_wds _) hzs7)
    · obtain ⟨s5, hW5⟩ := h
      rw [yl, List.take_length] at hW5
      exact q H5 DD own (s14.trans s5) (none_back s14 hDD) hown hmem hW5
  · exact ⟨v, rfl, v, rfl, .inr ⟨d, hd, q⟩⟩
def spIsAnswer (K : PySem.W.Frag) (C CP CW : Addr) : Sp := fun vs H Q E => ∃ v x : V, vs = [v, x] ∧ ((∃ (S : List Rl) (bd : W) (d : PyData), PgAt K C H v S ∧ (∀ r ∈ S, IsR r) ∧ S.length < 76 ∧ (∀ z ∈ namesL S, z ∈ bd) ∧ bd.length ≤ 40 ∧ WQ K H x d ∧
    ∀ H', Same H H' → (∀ own ws, IsW own → (∀ z, z ∈ own ↔ z ∈ namesL S) → IsW ws → d = wd ws → Q (.bl (sub ws own && fdB S own ws)) H') ∧ (worldD d = false → ∀ dx, H' dx = none → E (.ref CW) (some dx) (upd H' dx (.xd [(("thing" : Str), x)])))) ∨
  (∃ d, Dp K H v d ∧ ∀ dx, H dx = none → E (.ref CP) (some dx) (upd H dx (.xd [(("thing" : Str), v)]))))
theorem ok_isAnswer {C CP CW pN f1 f2 f3 f4 f6 f7 f8 f9 : Addr} {fd1 fd2 fd3 fd4 fd6 fd7 fd8 fd9 : FuncData} (F : Fun K "is_answer" "is_answer" sIsAnswer f fd) (c : Cls K C) (hp : PropOf K C "names" pN f2)
    (G1 : FnOk P w K mg base (L2.CX P w) (k + 1) f1 fd1 ["thing"] (spCheckProgram K C CP)) (b1 : Binds K fd1 ["thing"] []) (k1 : PySem.W.keepIn K (.ref f1) = true) (m1 : mg "check_program" = some (.ref f1))
    (G8 : FnOk P w K mg base (L2.CX P w) (k + 1) f8 fd8 ["thing"] (spCheckWorldQ K CW)) (b8 : Binds K fd8 ["thing"] []) (k8 : PySem.W.keepIn K (.ref f8) = true) (m8 : mg "check_world" = some (.ref f8))
    (G2 : FnOk P w K mg base CX0 k f2 fd2 ["self"] (spNames K C)) (b2 : Binds K fd2 ["self"] [])
    (G3 : FnOk P w K mg base CX0 (k + 1) f3 fd3 ["names"] (spBitsOf K)) (b3 : Binds K fd3 ["names"] []) (k3 : PySem.W.keepIn K (.ref f3) = true) (m3 : mg "_bits_of" = some (.ref f3))
    (G4 : FnOk P w K mg base CX0 (k + 1) f4 fd4 ["program", "bits"] (spNumbered K C)) (b4 : Binds K fd4 ["program", "bits"] []) (k4 : PySem.W.keepIn K (.ref f4) = true) (m4 : mg "_numbered" = some (.ref f4))
    (G9 : FnOk P w K mg base CX0 (k + 1) f9 fd9 ["names", "wanted"] (spHasAll K)) (b9 : Binds K fd9 ["names", "wanted"] []) (k9 : PySem.W.keepIn K (.ref f9) = true) (m9 : mg "has_all" = some (.ref f9))
    (G6 : FnOk P w K mg base CX0 (k + 1) f6 fd6 ["rows", "there"] (spIsFounded K)) (b6 : Binds K fd6 ["rows", "there"] []) (k6 : PySem.W.keepIn K (.ref f6) = true) (m6 : mg "_is_founded" = some (.ref f6))
    (G7 : FnOk P w K mg base CX0 (k + 1) f7 fd7 ["world", "bits"] (spNumber K)) (b7 : Binds K fd7 ["world", "bits"] []) (k7 : PySem.W.keepIn K (.ref f7) = true) (m7 : mg "_number" = some (.ref f7)) :
    FnOk P w K mg base (L2.CX P w) (k + 2) f fd ["program", "world"] (spIsAnswer K C CP CW) := by
  refine F.okX scIsAnswer (fun vs H Q E h => ?_) (fun cdv A outer s H vs Q E hr h => ?_)
  · obtain ⟨v, x, rfl, _⟩ := h
    rfl
  obtain ⟨v, x, rfl, h⟩ := h
  refine ⟨_, pss_cons (ps_expr (pe_call G1 hr (by rfl) m1 k1 b1 .nil (passes_call (takes_of rfl rfl rfl rfl) (fun _ _ _ _ h => h)) (pa_cons (pv 0) pa_nil)))
    (pss_cons (ps_expr (pe_call G8 hr (by rfl) m8 k8 b8 .nil (passes_call (takes_of rfl rfl rfl rfl) (fun _ _ _ _ h => h)) (pa_cons (pv 1) pa_nil)))
    (pss_cons (ps_set (i := 2) scIsAnswer.nd rfl (.inl rfl) (pe_prop (pv 0) c hp G2 hr b2 .nil pass0 rfl))
    (pss_cons (ps_set (i := 3) scIsAnswer.nd rfl (.inl rfl) (pe_call G3 hr (by rfl) m3 k3 b3 .nil pass0 (pa_cons (pv 2) pa_nil)))
    (pss_one (ps_ret (pe_and (pe_call G9 hr (by rfl) m9 k9 b9 .nil pass0 (pa_cons (pv 2) (pa_cons (pv 1) pa_nil))) (pe_one (pe_call G6 hr (by rfl) m6 k6 b6 .nil pass0 (pa_cons (pe_call G4 hr (by rfl) m4 k4 b4 .nil pass0 (pa_cons (pv 0) (pa_cons (pv 3) pa_nil))) (pa_cons (pe_call G7 hr (by rfl) m7 k7 b7 .nil pass0 (pa_cons (pv 1) (pa_cons (pv 3) pa_nil))) pa_nil)))))))))), ?_⟩
  rcases h with ⟨S, bd, d, hS, hI, few, hbd, lbd, hx, q⟩ | ⟨d, hd, q⟩
  · refine ⟨v, rfl, v, rfl, .inl ⟨S, hS, ?_⟩⟩
    refine ⟨x, rfl, x, d, rfl, hx, fun H0 s0 => ⟨fun wt => ?_, (q H0 s0).2⟩⟩
    obtain ⟨ws, hws, rfl, hxw⟩ := (hx.same s0).wd wt
    have hS0 := hS.same s0
    obtain ⟨a, dx, t0, ys0, rfl, i1, i2, i3⟩ := id hS0
    refine ⟨.ref a, rfl, a, dx, _, rfl, i1, .ref a, S, bd, rfl, hS0, hI, hbd, lbd, fun H1 tn own s1 htn hown hmem => ?_⟩
    have ol := few_own hown hmem hbd
    have nd := upX_nodup hown.up
    refine ⟨.ref tn, rfl, tn, own, rfl, htn, nd, by omega, fun H2 D s2 hD hB => ?_⟩
    have s12 := s1.trans s2
    have wl := hws.few
    refine ⟨.ref tn, rfl, x, rfl, .ref tn, x, own, ws, rfl, ⟨tn, rfl, .inr (same_tup s2 htn)⟩, .wd ((Stay.same s12).wd hxw), by omega, fun H3 s3 => ⟨_, rfl, ite2 (fun e => ?_) (fun e => ?_)⟩⟩
    · have s13 := s12.trans s3
      refine ⟨.ref a, rfl, .ref D, rfl, .ref a, D, S, own, rfl, hS0.same s13, hI, few, s3 _ _ hB, nd, fun H4 l s4 hl hL => ?_⟩
      refine ⟨x, rfl, .ref D, rfl, x, D, ws, own, rfl, (Stay.same (s13.trans s4)).wd hxw, (s3.trans s4) _ _ hB, nd, upX_nodup hws.up, by omega, fun H5 s5 => ?_⟩
      refine ⟨l, num own ws, _, rfl, hL.same s5, by rw [List.length_map]; exact few, num_nn own ws, fun b H6 s6 hb => ?_⟩
      have z := (q H6 (s0.trans (s13.trans (s4.trans (s5.trans s6))))).1 own ws hown hmem hws rfl
      rw [e, ← fdB_of hb, Bool.true_and] at z
      exact z
    · have e' : sub ws own = false := by simpa using e
      have z := (q H3 (s0.trans (s12.trans s3))).1 own ws hown hmem hws rfl
      rw [e', Bool.false_and] at z
      exact z
  · exact ⟨v, rfl, v, rfl, .inr ⟨d, hd, q⟩⟩
end
end Rw
namespace Rw
open PySem PySem.Spec PyProof.Rows L2
/-! ### a + b, a - b of instances of one class, v in a, len(a): by the class's own methods -/
section
variable {X : Cx}
def rBinP (C : Addr) (sp : Sp) (E : XK) : R2 := fun x y H Q => ∃ a dx fs b dy gs, x = .ref a ∧ y = .ref b ∧ H a = some (.ins C dx fs) ∧ H b = some (.ins C dy gs) ∧ sp [x, y] H Q E
theorem op_binP {CX : CXT} {op : Operator} {C g : Addr} {n : Nat} {sp : Sp} {E : XK} (hc : PySem.W.selfFirst X.K C = true) (hs : PySem.W.findIn X.K (.ref C) (PySem.dunder op.info.2) = some (some (.ref g))) (hf : PySem.W.isFn X.K (.ref g) = true) (F : FnR X.prog X.w X.K X.mg X.base CX n g sp) (hr : Room n X.A) (hx : Passes CX X E) :
    OpR X (binaryOp op) (rBinP C sp E) := by
  intro pins s σ H x y v u Q I rx ry h
  obtain ⟨a, dx, fs, b, dy, gs, rfl, rfl, ha, hb, q⟩ := h
  obtain rfl : v = Value.ref a := rx
  obtain rfl : u = Value.ref b := ry
  obtain ⟨mA, J, _⟩ := ins_get I.hok ha
  obtain ⟨mB, J', _⟩ := ins_get I.hok hb
  obtain ⟨od, J, _⟩ := J.look
  obtain ⟨od', J', _⟩ := J'.look
  obtain ⟨m, hF⟩ := I.fr
  refine PySem.W.binop_K hF I.ok.mod.kin J J'.type hc hs hf ?_
  refine wpAny_mono (wpAny_call (run_fnR F hr hx I (vs := [.ref a, .ref b]) (.cons rfl (.cons rfl .nil)) q)) (fun r s' h => ?_) fun e s' h => h
  obtain ⟨z, H', I', r, q⟩ := h
  exact SlX.cmpback r ⟨z, H', I', r, q⟩
/-- v in a: the method tells a bool -/
def rInP (C : Addr) (sp : Sp) (E : XK) : R2 := fun x y H Q => ∃ b dy gs, y = .ref b ∧ H b = some (.ins C dy gs) ∧ sp [y, x] H (fun v H' => ∃ t, v = .bl t ∧ Q (.bl t) H') E
theorem op_inP {CX : CXT} {C g : Addr} {n : Nat} {sp : Sp} {E : XK} (hs : PySem.W.findIn X.K (.ref C) "__contains__" = some (some (.ref g))) (hf : PySem.W.isFn X.K (.ref g) = true) (F : FnR X.prog X.w X.K X.mg X.base CX n g sp) (hr : Room n X.A) (hx : Passes CX X E) :
    OpR X (compareOp .In) (rInP C sp E) := by
  intro pins s σ H x y v u Q I rx ry h
  obtain ⟨b, dy, gs, rfl, hb, q⟩ := h
  obtain rfl : u = Value.ref b := ry
  obtain ⟨mB, J, _⟩ := ins_get I.hok hb
  obtain ⟨od, J, _⟩ := J.look
  obtain ⟨m, hF⟩ := I.fr
  refine PySem.W.in_K hF I.ok.mod.kin J hs hf ?_
  refine wpAny_mono (wpAny_call (run_fnR F hr hx I (vs := [.ref b, x]) (.cons rfl (.cons rx .nil)) q)) (fun r s' h => ?_) fun e s' h => h
  obtain ⟨z, H', I', r, t, rfl, q⟩ := h
  obtain rfl : _ = Value.bool t := r
  exact wpAny_pure ⟨.bl t, H', I', rfl, q⟩
/-- len(a) -/
def rLenP (C : Addr) (sp : Sp) (E : XK) : List V → Hp → VK → Prop := fun xs H Q => ∃ b dy gs, xs = [.ref b] ∧ H b = some (.ins C dy gs) ∧ sp xs H (fun v H' => ∃ i : Int, v = .int i ∧ 0 ≤ i ∧ i < 2 ^ 62 ∧ Q (.int i) H') E
theorem call_lenP {CX : CXT} {C g : Addr} {n : Nat} {sp : Sp} {E : XK} (hs : PySem.W.findIn X.K (.ref C) "__len__" = some (some (.ref g))) (hf : PySem.W.isFn X.K (.ref g) = true) (F : FnR X.prog X.w X.K X.mg X.base CX n g sp) (hr : Room (n + 1) X.A) (hx : Passes CX X E) :
    CallR X (.builtin "len") (rLenP C sp E) := by
  intro pins s σ H xs us Q I r h
  obtain ⟨b, dy, gs, rfl, hb, q⟩ := h
  rw [Vals.ref1 r]
  obtain ⟨mB, J, _⟩ := ins_get I.hok hb
  obtain ⟨od, J, _⟩ := J.look
  obtain ⟨m, hF⟩ := I.fr
  refine PySem.W.len_K hF I.ok.mod.kin J hs hf ?_
  have e0 := I.env0
  have e1 : Env0 X.prog X.w X.K X.mg X.base X.A.in1 X.stack s H := ⟨e0.frames, e0.mod, e0.bs, e0.bsz, e0.funs, e0.frf, e0.hok, e0.bare⟩
  refine wpAny_call (codeAny_mono (F X.A.in1 X.stack s H [.ref b] [.ref b] _ E hr.in1 e1 (.cons rfl .nil) q) fun r s' h => ?_)
  cases r with
  | error e => exact hx pins σ H s e s' I h
  | ok f =>
    cases f with
    | ret v =>
      obtain ⟨z, H', I', r, i, rfl, i0, i1, q⟩ := I.after h
      obtain ⟨t, rfl⟩ := r
      exact ⟨⟨i0, by omega⟩, .int i, H', I'.tok _, ⟨_, rfl⟩, q⟩
    | _ => exact h.elim
end
end Rw
namespace Rw
open PySem PySem.Spec PyProof.Rows L2
/-! ### Program's kind, +, in, len, == -/
theorem scAdd : FnScope ["self", "other", "rows"] ["self", "other"] (defScope sAdd) := ⟨rfl, rfl, rfl, by decide +kernel, rfl, by decide +kernel, by decide +kernel⟩
theorem scContains : FnScope ["self", "thing"] ["self", "thing"] (defScope sContains) := ⟨rfl, rfl, rfl, by decide +kernel, rfl, by decide +kernel, by decide +kernel⟩
theorem scPLen : FnScope ["self"] ["self"] (defScope sPLen) := ⟨rfl, rfl, rfl, by decide +kernel, rfl, by decide +kernel, by decide +kernel⟩
theorem scPEq : FnScope ["self", "other"] ["self", "other"] (defScope sPEq) := ⟨rfl, rfl, rfl, by decide +kernel, rfl, by decide +kernel, by decide +kernel⟩
def rLenK (K : PySem.W.Frag) : List V → Hp → VK → Prop := fun xs H Q => ∃ p ys, xs = [V.ref p] ∧ (SqL K H p ys ∨ SqT K H p ys) ∧ Q (.int ys.length) H
def kindS (S : List Rl) : Str := if S.any (fun r => decide (0 < r.2.1.length)) then ("any" : Str) else if S.any (fun r => decide (1 < r.1.length)) then ("plain" : Str) else ("single" : Str)
theorem catA_w {K : PySem.W.Frag} {H : Hp} {a b : Addr} {xs ys : List V} {Q : VK} (ha : SqT K H a xs) (hb : SqT K H b ys) (hz : xs.length + ys.length ≤ sizeLine) (q : ∀ c H0, Same H H0 → SqT K H0 c (xs ++ ys) → Q (.ref c) H0) : rCatA K (.ref a) (.ref b) H Q := by
  refine ⟨a, b, xs, ys, rfl, rfl, ha, hb, hz, fun e => ?_, fun _ e => ?_, fun _ _ p hp => ?_⟩
  · subst e
    exact q b H (fun _ _ e => e) hb
  · subst e
    exact q a H (fun _ _ e => e) (by rw [List.append_nil]; exact ha)
  · exact q p _ (same_new hp _) (SqT.of upd_same)
theorem ty_ins {K : PySem.W.Frag} {C : Addr} {mg : Str → Option Value} (G : PgC K mg C) {H : Hp} {a dx : Addr} {fs : List (Str × V)} (h : H a = some (.ins C dx fs)) : TyX K H (.ref a) (.ref C) := .base (.ins h G.cls G.cg G.sp G.tk G.mro)
end Rw
namespace Rw
open PySem PySem.Spec PyProof.Rows L2
/-! ### rules as data -/
theorem eqv_rds : ∀ a b : List Rl, PyData.eqvAll (a.map rd) (b.map rd) = decide (a = b)
  | [], [] => by simp [PyData.eqvAll]
  | [], _ :: _ => by simp [PyData.eqvAll]
  | _ :: _, [] => by simp [PyData.eqvAll]
  | x :: a, y :: b => by
    rw [List.map_cons, List.map_cons, PyData.eqvAll, eqv_rds a b, eqv_rd]
    by_cases h : x = y
    · subst h
      by_cases h2 : a = b <;> simp [h2]
    · simp [h]
theorem lay_rdsAll {S : List Rl} (h : ∀ r ∈ S, IsR r) : PyData.canLayAll0 (S.map rd) = true ∧ PyData.depthAll (S.map rd) ≤ 2 := by
  induction S with
  | nil => exact ⟨rfl, Nat.zero_le _⟩
  | cons r S ih =>
    obtain ⟨h1, h2⟩ := List.forall_mem_cons.mp h
    obtain ⟨i1, i2⟩ := ih h2
    have d := depth_rd r
    refine ⟨?_, ?_⟩
    · rw [List.map_cons, PyData.canLayAll0, lay_rd h1, i1]
      rfl
    · rw [List.map_cons, PyData.depthAll]
      omega
theorem shaped_rdT {S : List Rl} (h : ∀ r ∈ S, IsR r) : SeqAt.shaped (.tuple (S.map rd)) = true := by
  obtain ⟨i1, i2⟩ := lay_rdsAll h
  refine shaped_of ?_ ?_
  · rw [PyData.canLay0]
    exact i1
  · rw [PyData.depth]
    omega
section
variable {P : Program} {w : World} {K : PySem.W.Frag} {mg : Str → Option Value} {base : Heap} {f : Addr} {fd : FuncData} {k : Nat}
/-- one + other -/
def spAdd (K : PySem.W.Frag) (C CP : Addr) : Sp := fun vs H Q E => ∃ (x y : V) (S1 : List Rl), vs = [x, y] ∧ PgAt K C H x S1 ∧ (∀ r ∈ S1, IsR r) ∧
  ((∃ S2 : List Rl, PgAt K C H y S2 ∧ (∀ r ∈ S2, IsR r) ∧ S1.length + S2.length < 76 ∧ ∀ H' v S, Same H H' → Srt S (S1 ++ S2) → S.length < 76 → PgAt K C H' v S → Q v H') ∨
   (∃ d, Dp K H y d ∧ ∀ dx, H dx = none → E (.ref CP) (some dx) (upd H dx (.xd [(("thing" : Str), y)]))))
theorem ok_add {C CP fI : Addr} (F : Fun K "__add__" "Program.__add__" sAdd f fd) (T : Bl mg) (G : PgC K mg C) (n : NoAttr K C "_rules") (X : ErrT P w K mg base k "NotAProgram" "thing" CP) (M : Mk K C fI) (GI : FnR P w K mg base CX0 k fI (spInit K C)) : FnOk P w K mg base (L2.CX P w) (k + 2) f fd ["self", "other"] (spAdd K C CP) := by
  obtain ⟨fE, fdE, i1, i2, i3, i4⟩ := X.ex
  refine F.okX scAdd (fun vs H Q E h => ?_) (fun cdv A outer s H vs Q E hr h => ?_)
  · obtain ⟨x, y, S, rfl, _⟩ := h
    rfl
  obtain ⟨x, y, S1, rfl, ⟨a, dx, t, ys, rfl, h1, h2, h3⟩, hI, h⟩ := h
  refine ⟨_, pss_cons (ps_if (pt_not (pt_val (pe_callB call_isi (by rfl) T.isi PyProof.Rows.boot_isinstance (pa_cons (pv 1) (pa_cons (pe_glob (v := .ref C) (by rfl) G.m rfl) pa_nil)))))
      (pss_one (ps_raise rfl (takes_of rfl rfl rfl rfl) (pmk_oex X.oex i1 i2 i3 hr i4 .nil pass0 (by rfl) X.m (pa_cons (pv 1) pa_nil)))) pss_nil)
    (pss_cons (ps_set (i := 2) scAdd.nd rfl (.inl rfl) (pe_op op_catA (pe_fld (pv 0) rfl) (pe_fld (pv 1) rfl)))
    (pss_one (ps_ret (pe_makeS M GI hr (by rfl) G.m pass0 (pv 2))))), ?_⟩
  rcases h with ⟨S2, ⟨b, dy, u, zs, rfl, g1, g2, g3⟩, hI2, few, q⟩ | ⟨d, hd, q⟩
  · refine ⟨.ref b, rfl, .ref b, .ref C, .ref C, .ref C, true, rfl, .own C, ty_ins G g1, G.yes, true, rfl, iteF ?_⟩
    refine ⟨.ref a, rfl, a, C, dx, _, .ref t, rfl, h1, G.cls, n, rfl, .ref b, rfl, b, C, dy, _, .ref u, rfl, g1, G.cls, n, rfl, ?_⟩
    have l1 := dpAll_len h3
    have l2 := dpAll_len g3
    rw [List.length_map] at l1 l2
    refine catA_w h2 g2 (small_line (by omega)) fun c H1 s1 hc => ?_
    have hx : DpAll K H1 (ys ++ zs) ((S1 ++ S2).map rd) := by
      rw [List.map_append]
      exact dps_app12 ((Stay.same s1).dpAll _ _ (okDs_rd S2) g3) ((Stay.same s1).dpAll _ _ (okDs_rd S1) h3)
    have hL : ∀ r ∈ S1 ++ S2, IsR r := fun r hr => (List.mem_append.mp hr).elim (hI r) (hI2 r)
    exact ⟨.ref c, rfl, c, _, rfl, .inl hc, made_ok hx hL (by rw [List.length_append]; exact few) fun H' v S s2 => q H' v S (s1.trans s2)⟩
  · exact ⟨y, rfl, y, .ref C, .type (tyName d), .ref C, false, rfl, .own C, tyx_dp hd, G.odd d, false, rfl, iteT ⟨y, rfl, err_made q⟩⟩
/-- len(one) -/
def spPLen (K : PySem.W.Frag) (C : Addr) : Sp := fun vs H Q _ => ∃ (v : V) (S : List Rl), vs = [v] ∧ PgAt K C H v S ∧ Q (.int (S.length : Nat)) H
theorem ok_pLen {C : Addr} (F : Fun K "__len__" "Program.__len__" sPLen f fd) (T : Bl mg) (c : Cls K C) (n : NoAttr K C "_rules") : FnOk P w K mg base CX0 (k + 1) f fd ["self"] (spPLen K C) := by
  refine F.ok scPLen (fun vs H Q E h => ?_) (fun cdv A outer s H vs Q E hr h => ?_)
  · obtain ⟨v, S, rfl, _⟩ := h
    rfl
  obtain ⟨v, S, rfl, ⟨a, dx, t, ys, rfl, h1, h2, h3⟩, q⟩ := h
  refine ⟨_, pss_one (ps_ret (pe_callB call_len_seq (by rfl) T.len PySem.boot_len (pa_cons (pe_fld (pv 0) rfl) pa_nil))), ?_⟩
  refine ⟨.ref a, rfl, a, C, dx, _, .ref t, rfl, h1, c, n, rfl, t, _, rfl, .inr h2, ?_⟩
  rw [dpAll_len h3, List.length_map]
  exact q
/-- one == other -/
def spPEqG (K : PySem.W.Frag) (C : Addr) : Sp := fun vs H Q _ => ∃ (x y : V) (S1 : List Rl), vs = [x, y] ∧ PgAt K C H x S1 ∧ (∀ r ∈ S1, IsR r) ∧ ((∃ S2, PgAt K C H y S2 ∧ (∀ r ∈ S2, IsR r) ∧ Q (.bl (decide (S1 = S2))) H) ∨ (∃ d, Dp K H y d ∧ Q (.bl false) H))
theorem ok_pEqG {C : Addr} (F : Fun K "__eq__" "Program.__eq__" sPEq f fd) (T : Bl mg) (G : PgC K mg C) (n : NoAttr K C "_rules") : FnOk P w K mg base CX0 (k + 1) f fd ["self", "other"] (spPEqG K C) := by
  refine F.ok scPEq (fun vs H Q E h => ?_) (fun cdv A outer s H vs Q E hr h => ?_)
  · obtain ⟨x, y, S, rfl, _⟩ := h
    rfl
  obtain ⟨x, y, S1, rfl, ⟨a, dx, t, ys, rfl, h1, h2, h3⟩, hI, h⟩ := h
  refine ⟨_, pss_one (ps_ret (pe_and (pe_callB call_isi (by rfl) T.isi PyProof.Rows.boot_isinstance (pa_cons (pv 1) (pa_cons (pe_glob (v := .ref C) (by rfl) G.m rfl) pa_nil))) (pe_one (pe_cmpR (op_eqD hr.units) (pe_fld (pv 0) rfl) (pe_fld (pv 1) rfl) (nomark _))))), ?_⟩
  rcases h with ⟨S2, ⟨b, dy, u, zs, rfl, g1, g2, g3⟩, hI2, q⟩ | ⟨d, hd, q⟩
  · refine ⟨.ref b, rfl, .ref b, .ref C, .ref C, .ref C, true, rfl, .own C, ty_ins G g1, G.yes, true, rfl, iteT ?_⟩
    refine ⟨.ref a, rfl, a, C, dx, _, .ref t, rfl, h1, G.cls, n, rfl, .ref b, rfl, b, C, dy, _, .ref u, rfl, g1, G.cls, n, rfl, ?_⟩
    refine ⟨.tuple (S1.map rd), .tuple (S2.map rd), .tup h2 h3, .tup g2 g3, shaped_rdT hI, shaped_rdT hI2, ?_⟩
    rw [PyData.eqv, eqv_rds]
    exact q
  · exact ⟨y, rfl, y, .ref C, .type (tyName d), .ref C, false, rfl, .own C, tyx_dp hd, G.odd d, false, rfl, iteF q⟩
end
end Rw
namespace Rw
open PySem PySem.Spec PyProof.Rows L2
/-! ### rule, choice -/
section
variable {P : Program} {w : World} {K : PySem.W.Frag} {mg : Str → Option Value} {base : Heap} {f : Addr} {fd : FuncData} {k : Nat}
/-- _are_names of a list of names -/
def spAreNamesL (K : PySem.W.Frag) : Sp := fun vs H Q _ => ∃ (a : Addr) (ns : W), vs = [.ref a] ∧ SqL K H a (ns.map V.str) ∧ (∀ z ∈ ns, nameB z = true) ∧ ns.length ≤ 1000 ∧ ∀ H', Same H H' → Q (.bl true) H'
theorem ok_areNamesL {f1 : Addr} {fd1 : FuncData} (F : Fun K "_are_names" "_are_names" sAreNames f fd) (T : Bl mg) (G : FnOk P w K mg base CX0 k f1 fd1 ["thing"] (spIsName K)) (b1 : Binds K fd1 ["thing"] []) (k1 : PySem.W.keepIn K (.ref f1) = true) (m1 : mg "is_name" = some (.ref f1)) :
    FnOk P w K mg base CX0 (k + 1) f fd ["thing"] (spAreNamesL K) := by
  refine F.ok scAreNames (fun vs H Q E h => ?_) (fun cdv A outer s H vs Q E hr h => ?_)
  · obtain ⟨a, xs, rfl, _⟩ := h
    rfl
  obtain ⟨a, ns, rfl, hS, hn, few, q⟩ := h
  refine ⟨_, pss_one (ps_ret (pe_and (pe_callB call_isiT (by rfl) T.isi PyProof.Rows.boot_isinstance (pa_cons (pv 0) (pa_cons (pe_tup (pa_cons (pe_bltn (v := .ty "tuple") (by rfl) T.tuple (by decide +kernel) rfl) (pa_cons (pe_bltn (v := .ty "list") (by rfl) T.list (by decide +kernel) rfl) pa_nil))) pa_nil)))
      (pe_one (pe_callB (cr_all rfl) (by rfl) T.all (by decide +kernel) (pa_cons (pe_lc (own := [("item", 1)]) (g := gName 1) (by rfl) scAreNames.nd (pi_list (pv 0)) (blkOk_by (N := ["thing", "item"]) (sc := defScope sAreNames) (by decide +kernel))
        (fun _ _ _ _ _ => pg_name (i := 1) scAreNames.nd rfl (Or.inl rfl)) (fun _ _ _ _ _ => pts_nil) (fun _ _ _ _ _ => pe_call G hr (by rfl) m1 k1 b1 .nil pass0 (pa_cons (pv 1) pa_nil))) pa_nil))))), ?_⟩
  refine ⟨.ref a, rfl, by show 2 ≤ sizeLine; decide, fun T0 hT => ?_⟩
  have s0 : Same H (upd H T0 (.tup [.ty "tuple", .ty "list"])) := same_new hT _
  refine ⟨.ref a, T0, [.ty "tuple", .ty "list"], .type "list", [.type "tuple", .type "list"], true, rfl, upd_same, .cons (.ty _) (.cons (.ty _) .nil), tyx_dp (d := .list (ns.map .str)) (.lst (s0.seq hS) (dps_strs ns)), kitAny_cons (b := false) (kit_ty (by decide +kernel)) (fun _ => kitAny_cons (b := true) (kit_ty (by decide +kernel)) (fun z => nomatch z) fun _ => rfl) (fun z => nomatch z), true, rfl, iteT ?_⟩
  generalize upd H T0 (.tup [.ty "tuple", .ty "list"]) = H0 at s0 ⊢
  refine ⟨.ref a, rfl, a, rfl, ⟨_, s0.seq hS⟩, fun D hD => ?_⟩
  refine lc_list (xs := ns.map V.str) (fun i H1 => Same H0 H1 ∧ H1 D = some (.lst ((ns.take i).map fun d => V.bl true))) ⟨same_new hD _, upd_same⟩ (fun i H1 _ hI => (s0.trans hI.1).seq hS) (fun i x H1 hxi hI => ?_) (fun H1 hI => ?_)
  · obtain ⟨sm, hd⟩ := hI
    obtain ⟨z, hz, rfl⟩ := map_at hxi
    have nz := hn z (List.mem_of_getElem? hz)
    refine ⟨rfl, .str z, rfl, .str z, .str z, rfl, .str _, oddN_name nz, fun H2 sm2 => ⟨_, sm2 _ _ hd, small_line' (by rw [List.length_map, List.length_take]; omega), same_put (sm.trans sm2) hD, ?_⟩⟩
    rw [upd_same, take_snoc hz, List.map_append]
    show some (HO.lst (_ ++ [V.bl (nameB z)])) = _
    rw [nz]
    rfl
  · obtain ⟨sm, hd⟩ := hI
    rw [List.length_map, List.take_length] at hd
    refine ⟨D, ns.map fun _ => true, rfl, SqL.of (by rw [List.map_map]; exact hd), ?_⟩
    have z : (ns.map fun _ => true).all id = true := by simp
    rw [z]
    exact q H1 (s0.trans sm)
/-- names in a list or a tuple -/
def spAreNamesG (K : PySem.W.Frag) : Sp := fun vs H Q _ => ∃ (x : V) (ns : W), vs = [x] ∧ Ws K H x ns ∧ (∀ z ∈ ns, nameB z = true) ∧ ns.length ≤ 1000 ∧ ∀ H', Same H H' → Q (.bl true) H'
theorem ok_areNamesG (G1 : FnOk P w K mg base CX0 k f fd ["thing"] (spAreNames K)) (G2 : FnOk P w K mg base CX0 k f fd ["thing"] (spAreNamesL K)) : FnOk P w K mg base CX0 k f fd ["thing"] (spAreNamesG K) := by
  refine (fn_or G1 G2).imp fun vs H Q E h => ?_
  obtain ⟨x, ns, rfl, ⟨a, rfl, hS | hT⟩, hn, few, q⟩ := h
  · exact .inr ⟨a, ns, rfl, hS, hn, few, q⟩
  · refine .inl ⟨a, _, ns.map .str, rfl, hT, dps_strs ns, fun d hd => ?_, by rw [List.length_map]; exact few, fun H' s => ?_⟩
    · obtain ⟨z, hz, rfl⟩ := List.mem_map.mp hd
      exact oddN_name (hn z hz)
    · have e : (ns.map PyData.str).all nameD = true := by
        rw [List.all_map, List.all_eq_true]
        exact fun z hz => hn z hz
      rw [e]
      exact q H' s
end
theorem scRule : FnScope ["heads", "needs", "bars", "denied", "thing"] ["heads", "needs", "bars", "denied"] (defScope sRule) := ⟨rfl, rfl, rfl, by decide +kernel, rfl, by decide +kernel, by decide +kernel⟩
/-- the set of these names -/
def WOf (ns zs : W) : Prop := UpX zs ∧ ∀ z, z ∈ zs ↔ z ∈ ns
theorem WOf.isW {ns zs bd : W} (h : WOf ns zs) (hn : ∀ z ∈ ns, nameB z = true) (hb : ∀ z ∈ ns, z ∈ bd) (lb : bd.length ≤ 40) : IsW zs :=
  ⟨fun z hz => hn z ((h.2 z).mp hz), h.1, Nat.le_trans (len_le (upX_nodup h.1) fun z hz => hb z ((h.2 z).mp hz)) lb⟩
theorem WOf.one {ns zs zs' : W} (h : WOf ns zs) (h' : WOf ns zs') : zs = zs' := upX_one h.1 h'.1 fun z => (h.2 z).trans (h'.2 z).symm
theorem ws_seq {K : PySem.W.Frag} {H : Hp} {x : V} {ns : W} (h : Ws K H x ns) : ∃ a, x = .ref a ∧ (SqL K H a (ns.map V.str) ∨ SqT K H a (ns.map V.str)) := h
section
variable {P : Program} {w : World} {K : PySem.W.Frag} {mg : Str → Option Value} {base : Heap} {f : Addr} {fd : FuncData} {k : Nat}
/-- lists of valid names -/
def NsOk (K : PySem.W.Frag) (H : Hp) (x : V) (ns : W) : Prop := Ws K H x ns ∧ (∀ z ∈ ns, nameB z = true) ∧ ns.length < 1000
theorem NsOk.same {K : PySem.W.Frag} {H H' : Hp} {x : V} {ns : W} (h : NsOk K H x ns) (e : Same H H') : NsOk K H' x ns := ⟨h.1.same e, h.2⟩
def spRuleG (K : PySem.W.Frag) : Sp := fun vs H Q _ => ∃ (x1 x2 x3 x4 : V) (n1 n2 n3 n4 : W), vs = [x1, x2, x3, x4] ∧ NsOk K H x1 n1 ∧ NsOk K H x2 n2 ∧ NsOk K H x3 n3 ∧ NsOk K H x4 n4 ∧
  ∀ H' v r, Same H H' → Dp K H' v (rd r) → WOf n1 r.1 → WOf n4 r.2.1 → WOf n2 r.2.2.1 → WOf n3 r.2.2.2 → Q v H'
theorem ok_ruleG {f1 f2 : Addr} {fd1 fd2 : FuncData} {dvs : List V} (F : FunD K "rule" "rule" (defArgs sRule) (defBody sRule) (defScope sRule) dvs [] f fd)
    (G1 : FnOk P w K mg base CX0 k f1 fd1 ["thing"] (spAreNamesG K)) (b1 : Binds K fd1 ["thing"] []) (k1 : PySem.W.keepIn K (.ref f1) = true) (m1 : mg "_are_names" = some (.ref f1))
    (G2 : FnOk P w K mg base CX0 k f2 fd2 ["names"] (spSetOf K)) (b2 : Binds K fd2 ["names"] []) (k2 : PySem.W.keepIn K (.ref f2) = true) (m2 : mg "_set_of" = some (.ref f2)) : FnOk P w K mg base CX0 (k + 1) f fd ["heads", "needs", "bars", "denied"] (spRuleG K) := by
  refine F.ok scRule (fun vs H Q E h => ?_) (fun cdv A outer s H vs Q E hr h => ?_)
  · obtain ⟨x1, x2, x3, x4, n1, n2, n3, n4, rfl, _⟩ := h
    rfl
  obtain ⟨x1, x2, x3, x4, n1, n2, n3, n4, rfl, h1, h2, h3, h4, q⟩ := h
  refine ⟨_, PSs.nox (pss_cons (ps_for PassesOwn.never rfl (pi_tup (pe_tup (pa_cons (pv 0) (pa_cons (pv 1) (pa_cons (pv 2) (pa_cons (pv 3) pa_nil)))))) (pg_name (i := 4) scRule.nd rfl (.inl rfl))
      (pss_one (ps_if (pt_not (pt_val (pe_call G1 hr (by rfl) m1 k1 b1 .nil pass0 (pa_cons (pv 4) pa_nil)))) pss_never pss_nil)))
    (pss_one (ps_ret (pe_tup (pa_cons (pe_call G2 hr (by rfl) m2 k2 b2 .nil pass0 (pa_cons (pv 0) pa_nil)) (pa_cons (pe_call G2 hr (by rfl) m2 k2 b2 .nil pass0 (pa_cons (pv 3) pa_nil))
      (pa_cons (pe_call G2 hr (by rfl) m2 k2 b2 .nil pass0 (pa_cons (pv 1) pa_nil)) (pa_cons (pe_call G2 hr (by rfl) m2 k2 b2 .nil pass0 (pa_cons (pv 2) pa_nil)) pa_nil)))))))), ?_⟩
  refine ⟨x1, rfl, x2, rfl, x3, rfl, x4, rfl, by show 4 ≤ sizeLine; decide, fun t ht => ?_⟩
  have s0 := same_new ht (.tup [x1, x2, x3, x4])
  let H0 : Hp := upd H t (.tup [x1, x2, x3, x4])
  have hT0 : SqT K H0 t [x1, x2, x3, x4] := SqT.of upd_same
  have each : ∀ x ∈ [x1, x2, x3, x4], ∃ ns, NsOk K H x ns := fun x hx => by
    simp only [List.mem_cons, List.mem_nil_iff, or_false] at hx
    rcases hx with rfl | rfl | rfl | rfl
    · exact ⟨_, h1⟩
    · exact ⟨_, h2⟩
    · exact ⟨_, h3⟩
    · exact ⟨_, h4⟩
  refine ⟨t, rfl, ⟨_, hT0⟩, for_tup (xs := [x1, x2, x3, x4]) (fun i σ H1 => (∃ y4, σ = [some x1, some x2, some x3, some x4, y4]) ∧ Same H0 H1) ⟨⟨_, rfl⟩, fun _ _ e => e⟩ (fun i σ H1 _ hI => same_tup hI.2 hT0) (fun i x σ H1 hx hI => ?_) (fun σ H1 hI => ?_)⟩
  · obtain ⟨⟨y4, rfl⟩, sm⟩ := hI
    obtain ⟨ns, hw, hn, few⟩ := each x (List.mem_of_getElem? hx)
    exact ⟨x, rfl, x, ns, rfl, hw.same (s0.trans sm), hn, by omega, fun H2 s2 => ⟨true, rfl, iteF ⟨⟨_, rfl⟩, sm.trans s2⟩⟩⟩
  · obtain ⟨⟨y4, rfl⟩, sm⟩ := hI
    have s1 := s0.trans sm
    obtain ⟨a1, rfl, g1⟩ := ws_seq (h1.1.same s1)
    refine ⟨.ref a1, rfl, a1, n1, rfl, g1, h1.2.2, fun H2 p1 z1 s2 e1 u1 m1' => ?_⟩
    have s12 := s1.trans s2
    obtain ⟨a4, rfl, g4⟩ := ws_seq (h4.1.same s12)
    refine ⟨.ref a4, rfl, a4, n4, rfl, g4, h4.2.2, fun H3 p2 z2 s3 e2 u2 m2' => ?_⟩
    have s13 := s12.trans s3
    obtain ⟨a2, rfl, g2⟩ := ws_seq (h2.1.same s13)
    refine ⟨.ref a2, rfl, a2, n2, rfl, g2, h2.2.2, fun H4 p3 z3 s4 e3 u3 m3' => ?_⟩
    have s14 := s13.trans s4
    obtain ⟨a3, rfl, g3⟩ := ws_seq (h3.1.same s14)
    refine ⟨.ref a3, rfl, a3, n3, rfl, g3, h3.2.2, fun H5 p4 z4 s5 e4 u4 m4' => ?_⟩
    have s15 := s14.trans s5
    refine ⟨by show 4 ≤ sizeLine; decide, fun u hu => ?_⟩
    have s6 := same_new hu (.tup [.ref p1, .ref p2, .ref p3, .ref p4])
    exact q _ _ (z1, z2, z3, z4) (s15.trans s6) (.tup (SqT.of upd_same) (.cons (to_wd (SqT.of ((s3.trans (s4.trans (s5.trans s6))) _ _ e1))) (.cons (to_wd (SqT.of ((s4.trans (s5.trans s6)) _ _ e2))) (.cons (to_wd (SqT.of ((s5.trans s6) _ _ e3))) (.cons (to_wd (SqT.of (s6 _ _ e4))) .nil))))) ⟨u1, m1'⟩ ⟨u2, m2'⟩ ⟨u3, m3'⟩ ⟨u4, m4'⟩
theorem isW_one {z : Str} (h : nameB z = true) : IsW [z] := ⟨fun x hx => by rw [List.mem_singleton.mp hx]; exact h, by simp [UpX], by simp⟩
theorem isW_nil : IsW [] := ⟨(fun _ z => nomatch z), List.Pairwise.nil, by decide⟩
end
end Rw
namespace Rw
open PySem PySem.Spec PyProof.Rows L2
/-! ### Program.facts, in -/
theorem scFacts : FnScope ["cls", "world", "rows", "name"] ["cls", "world"] (defScope sFacts) := ⟨rfl, rfl, rfl, by decide +kernel, rfl, by decide +kernel, by decide +kernel⟩
theorem hu65 {k : Nat} {A : Around} (r : Room k A) : A.units + 65 < cLine := by have := r.un; omega
def fact (z : Str) : Rl := ([z], [], [], [])
theorem isR_fact {z : Str} (h : nameB z = true) : IsR (fact z) := ⟨isW_one h, isW_nil, isW_nil, isW_nil⟩
section
variable {X : Cx}
/-- x in y, y a tuple of data -/
def rInDT (K : PySem.W.Frag) : R2 := fun x y H Q => ∃ d ds, Dp K H x d ∧ Dp K H y (.tuple ds) ∧ SeqAt.shaped d = true ∧ SeqAt.shaped (.tuple ds) = true ∧ Q (.bl (ds.any fun z => PyData.eqv z d)) H
theorem op_inDT (hu : X.A.units + 65 < cLine) : OpR X (compareOp .In) (rInDT X.K) := by
  intro pins s σ H x y v u Q I rx ry h
  obtain ⟨d, ds, hd, he, sd, se, q⟩ := h
  obtain ⟨as, r1⟩ := Dp.reads I d x v hd rx
  obtain ⟨bs, r2⟩ := Dp.reads I (.tuple ds) y u he ry
  exact SeqAt.in_tuple_reads r2 r1 (SeqAt.canLay_of_shaped se) (SeqAt.canLay_of_shaped sd) (room_in_shaped sd hu) ⟨.bl _, H, I, rfl, q⟩
end
section
variable {P : Program} {w : World} {K : PySem.W.Frag} {mg : Str → Option Value} {base : Heap} {f : Addr} {fd : FuncData} {k : Nat}
def spFacts (K : PySem.W.Frag) (C : Addr) : Sp := fun vs H Q _ => ∃ (x : V) (ws : W), vs = [.ref C, x] ∧ Dp K H x (wd ws) ∧ IsW ws ∧ ∀ H' v S, Same H H' → Srt S (ws.map fact) → S.length < 76 → PgAt K C H' v S → Q v H'
theorem ok_facts {C fI f1 f2 e1 e2 e3 : Addr} {fd1 fd2 : FuncData} {ds2 : List Value} (F : Fun K "facts" "Program.facts" sFacts f fd) (M : Mk K C fI) (GI : FnR P w K mg base CX0 k fI (spInit K C))
    (G1 : FnOk P w K mg base CX0 (k + 1) f1 fd1 ["thing"] (spIsWorld K)) (b1 : Binds K fd1 ["thing"] []) (k1 : PySem.W.keepIn K (.ref f1) = true) (m1 : mg "is_world" = some (.ref f1))
    (G2 : FnOk P w K mg base CX0 (k + 1) f2 fd2 ["heads", "needs", "bars", "denied"] (spRuleG K)) (b2 : Binds K fd2 ["heads", "needs", "bars", "denied"] ds2) (v2 : Vals [V.ref e1, V.ref e2, V.ref e3] ds2) (k2 : PySem.W.keepIn K (.ref f2) = true) (m2 : mg "rule" = some (.ref f2))
    (n1 : ∀ H, SqT K H e1 []) (n2 : ∀ H, SqT K H e2 []) (n3 : ∀ H, SqT K H e3 []) : FnOk P w K mg base CX0 (k + 2) f fd ["cls", "world"] (spFacts K C) := by
  refine F.ok scFacts (fun vs H Q E h => ?_) (fun cdv A outer s H vs Q E hr h => ?_)
  · obtain ⟨x, ws, rfl, _⟩ := h
    rfl
  obtain ⟨x, ws, rfl, hx, hw, q⟩ := h
  obtain ⟨a, rfl, hT⟩ := of_wd hx
  refine ⟨_, pss_cons (ps_if (pt_not (pt_val (pe_call G1 hr (by rfl) m1 k1 b1 .nil pass0 (pa_cons (pv 1) pa_nil)))) pss_never pss_nil)
    (pss_cons (ps_setLc (i := 2) (own := [("name", 3)]) (g := gName 3) (by rfl) scFacts.nd rfl rfl (sw_true rfl rfl rfl (by decide +kernel)) (pi_tup (pv 1)) (blkOk_by (N := ["cls", "world", "rows", "name"]) (sc := defScope sFacts) (by decide +kernel))
        (fun _ _ _ _ _ => pg_name (i := 3) scFacts.nd rfl (Or.inl rfl)) (fun _ _ _ _ _ => pts_nil) (fun _ _ _ _ _ => pe_call G2 hr (by rfl) m2 k2 b2 v2 pass0 (pa_cons (pe_tup (pa_cons (pv 3) pa_nil)) pa_nil)))
    (pss_one (ps_ret (pe_makeSL (i := 0) M GI hr rfl (.inl rfl) pass0 (pv 2))))), ?_⟩
  refine ⟨.ref a, rfl, .ref a, wd ws, rfl, hx, oddW_wd hw, fun H1 s1 => ⟨worldD (wd ws), rfl, ?_⟩⟩
  rw [worldD_wd hw]
  refine iteF ?_
  have few := hw.few
  refine ⟨.ref a, rfl, a, rfl, ⟨_, same_tup s1 hT⟩, fun D hD => ?_⟩
  refine lc_tup (xs := ws.map V.str) (fun i H2 => Same H1 H2 ∧ ∃ zs, H2 D = some (.lst zs) ∧ DpAll K H2 zs ((ws.take i).map fun z => rd (fact z))) ⟨same_new hD _, [], upd_same, .nil⟩ (fun i H2 _ hI => same_tup (s1.trans hI.1) hT) (fun i x H2 hx hI => ?_) (fun H2 hI => ?_)
  · obtain ⟨sm, zs, hd, hzs⟩ := hI
    obtain ⟨z, hz, rfl⟩ := map_at hx
    have nz := hw.names z (List.mem_of_getElem? hz)
    have il : i < ws.length := (List.getElem?_eq_some_iff.mp hz).1
    refine ⟨rfl, .str z, rfl, by show 1 ≤ sizeLine; decide, fun u hu => ?_⟩
    have su := same_new hu (.tup [.str z])
    have e0 : ∀ (e : Addr) H', (∀ H, SqT K H e []) → NsOk K H' (.ref e) [] := fun e H' h => ⟨⟨e, rfl, .inr (h H')⟩, (fun _ z => nomatch z), by decide⟩
    refine ⟨.ref u, .ref e1, .ref e2, .ref e3, [z], [], [], [], rfl, ⟨⟨u, rfl, .inr (SqT.of upd_same)⟩, (fun y hy => by rw [List.mem_singleton.mp hy]; exact nz), by show 1 < 1000; decide⟩, e0 e1 _ n1, e0 e2 _ n2, e0 e3 _ n3, fun H3 v r s3 hv w1 w4 w2 w3 => ?_⟩
    have er : r = fact z := by
      obtain ⟨r1, r2, r3, r4⟩ := r
      have z1 : r1 = [z] := w1.one ⟨(isW_one nz).up, fun _ => Iff.rfl⟩
      have z2 : r2 = [] := w4.one ⟨List.Pairwise.nil, fun _ => Iff.rfl⟩
      have z3 : r3 = [] := w2.one ⟨List.Pairwise.nil, fun _ => Iff.rfl⟩
      have z4 : r4 = [] := w3.one ⟨List.Pairwise.nil, fun _ => Iff.rfl⟩
      subst z1 z2 z3 z4
      rfl
    subst er
    have s23 := su.trans s3
    have hd3 := s23 _ _ hd
    have m3 : Mut (H3 D) := by
      rw [hd3]
      exact True.intro
    have st := Stay.put m3 (.lst (zs ++ [v]))
    refine ⟨zs, hd3, small_line' (by rw [dpAll_len hzs, List.length_map, List.length_take]; omega), same_put (sm.trans s23) hD, zs ++ [v], upd_same, ?_⟩
    rw [take_snoc hz, List.map_append]
    refine dps_app12 (.cons (st.rd hv) .nil) (((Stay.same s23).trans st).dpAll _ _ (okDs_all fun d hd => ?_) hzs)
    obtain ⟨y, _, rfl⟩ := List.mem_map.mp hd
    exact ok_rd _
  · obtain ⟨sm, zs, hd, hzs⟩ := hI
    rw [List.length_map, List.take_length, show (fun z => rd (fact z)) = rd ∘ fact from rfl, ← List.map_map] at hzs
    refine ⟨rfl, .ref D, rfl, D, zs, rfl, .inr (SqL.of hd), made_ok hzs (fun r hr => ?_) (by rw [List.length_map]; omega) fun H3 v S s3 => q H3 v S (s1.trans (sm.trans s3))⟩
    obtain ⟨z, hz, rfl⟩ := List.mem_map.mp hr
    exact isR_fact (hw.names z hz)
/-- thing in one -/
def spContains (K : PySem.W.Frag) (C : Addr) : Sp := fun vs H Q _ => ∃ (x y : V) (S : List Rl) (d : PyData), vs = [x, y] ∧ PgAt K C H x S ∧ (∀ r ∈ S, IsR r) ∧ Dp K H y d ∧ SeqAt.shaped d = true ∧ Q (.bl ((S.map rd).any fun z => PyData.eqv z d)) H
theorem ok_contains {C : Addr} (F : Fun K "__contains__" "Program.__contains__" sContains f fd) (c : Cls K C) (n : NoAttr K C "_rules") : FnOk P w K mg base CX0 (k + 1) f fd ["self", "thing"] (spContains K C) := by
  refine F.ok scContains (fun vs H Q E h => ?_) (fun cdv A outer s H vs Q E hr h => ?_)
  · obtain ⟨x, y, S, d, rfl, _⟩ := h
    rfl
  obtain ⟨x, y, S, d, rfl, ⟨a, dx, t, ys, rfl, h1, h2, h3⟩, hI, hy, sh, q⟩ := h
  refine ⟨_, pss_one (ps_ret (pe_cmpR (op_inDT (hu65 hr)) (pv 1) (pe_fld (pv 0) rfl) (by rfl))), ?_⟩
  exact ⟨y, rfl, .ref a, rfl, a, C, dx, _, .ref t, rfl, h1, c, n, rfl, d, S.map rd, hy, .tup h2 h3, sh, shaped_rdT hI, q⟩
end
end Rw
namespace Rw
open PySem PySem.Spec PyProof.Rows L2
/-! ### the law's own defs: numbers -/
theorem scLawAt : FnScope ["script", "k"] ["script", "k"] (defScope sLawAt) := ⟨rfl, rfl, rfl, by decide +kernel, rfl, by decide +kernel, by decide +kernel⟩
theorem scLawMixed : FnScope ["cell", "k", "number"] ["cell", "k"] (defScope sLawMixed) := ⟨rfl, rfl, rfl, by decide +kernel, rfl, by decide +kernel, by decide +kernel⟩
theorem scLawPurse : FnScope ["script", "at", "cell"] ["script", "at"] (defScope sLawPurse) := ⟨rfl, rfl, rfl, by decide +kernel, rfl, by decide +kernel, by decide +kernel⟩
theorem scLawDraw : FnScope ["purse", "out_of", "drawn"] ["purse", "out_of"] (defScope sLawDraw) := ⟨rfl, rfl, rfl, by decide +kernel, rfl, by decide +kernel, by decide +kernel⟩
section
variable {P : Program} {w : World} {K : PySem.W.Frag} {mg : Str → Option Value} {base : Heap} {f : Addr} {fd : FuncData} {k : Nat}
def spLawAt (K : PySem.W.Frag) : Sp := fun vs H Q _ => ∃ (a : Addr) (ns : List Int) (j : Nat), vs = [.ref a, .int j] ∧ SqL K H a (ns.map V.int) ∧ ns.length ≤ 63 ∧ ∀ r, Q (.int r) H
theorem ok_lawAt (F : Fun K "_law_at" "_law_at" sLawAt f fd) (T : Bl mg) : FnOk P w K mg base CX0 (k + 1) f fd ["script", "k"] (spLawAt K) := by
  refine F.ok scLawAt (fun vs H Q E h => ?_) (fun cdv A outer s H vs Q E hr h => ?_)
  · obtain ⟨a, ns, j, rfl, _⟩ := h
    rfl
  obtain ⟨a, ns, j, rfl, hS, hl, q⟩ := h
  refine ⟨_, pss_cons (ps_if (pt_cmpR op_lt (pv 1) (pe_callB call_len_seq (by rfl) T.len PySem.boot_len (pa_cons (pv 0) pa_nil)) (nomark _)) (pss_one (ps_ret (pe_ix ix_list (pv 0) (pv 1) (fun _ _ => rfl)))) pss_nil) (pss_one (ps_ret pe_int)), ?_⟩
  refine ⟨.int j, rfl, .ref a, rfl, a, _, rfl, .inl hS, j, _, rfl, rfl, _, rfl, ite2 (fun e => ?_) (fun _ => ?_)⟩
  · have hlt : j < (ns.map V.int).length := by
      have := of_decide_eq_true e
      omega
    have hlt' : j < ns.length := by rwa [List.length_map] at hlt
    refine ⟨.ref a, rfl, .int j, rfl, a, _, j, .int ns[j], rfl, rfl, hS, atI_nat (j := j) ?_, q _⟩
    rw [List.getElem?_map, List.getElem?_eq_getElem hlt']
    rfl
  · exact q _
def spLawMixed : Sp := fun vs H Q _ => ∃ c k : Int, vs = [.int c, .int k] ∧ 0 ≤ c ∧ c < 2147483647 ∧ 0 ≤ k ∧ k ≤ 2000000 ∧ ∀ r, 0 ≤ r → Q (.int r) H
theorem ok_lawMixed (F : Fun K "_law_mixed" "_law_mixed" sLawMixed f fd) (T : Bl mg) : FnOk P w K mg base CX0 (k + 1) f fd ["cell", "k"] spLawMixed := by
  refine F.ok scLawMixed (fun vs H Q E h => ?_) (fun cdv A outer s H vs Q E hr h => ?_)
  · obtain ⟨c, k, rfl, _⟩ := h
    rfl
  obtain ⟨c, k, rfl, c0, c1, k0, k1, q⟩ := h
  refine ⟨_, pss_cons (ps_set (i := 2) scLawMixed.nd rfl (.inl rfl) (pe_op op_mod (pe_callTy call_int1 (by rfl) T.int (by decide +kernel) (pa_cons (pe_op op_add (pe_op op_add (pe_op op_add (pe_op op_mul (pv 0) pe_int) (pe_op op_mul (pe_op op_mul pe_int (pv 1)) (pv 1))) (pv 1)) pe_int) pa_nil)) pe_int))
    (pss_cons (ps_set (i := 2) scLawMixed.nd rfl (.inl rfl) (pe_op op_mod (pe_callTy call_int1 (by rfl) T.int (by decide +kernel) (pa_cons (pe_op op_add (pe_op op_mul (pv 2) (pv 2)) pe_int) pa_nil)) pe_int))
    (pss_one (ps_ret (pe_op op_mod (pe_callTy call_int1 (by rfl) T.int (by decide +kernel) (pa_cons (pe_op op_mul (pv 2) pe_int) pa_nil)) pe_int)))), ?_⟩
  refine ⟨.int c, rfl, c, _, rfl, rfl, .inl ⟨by omega, by omega⟩, .int k, rfl, _, k, rfl, rfl, .inl ⟨by decide, by decide⟩, .int k, rfl, _, k, rfl, rfl, .inl ⟨by omega, by omega⟩, ?_⟩
  refine ⟨_, _, rfl, rfl, .int k, rfl, _, k, rfl, rfl, _, _, rfl, rfl, .inl ⟨_, rfl, _, _, rfl, rfl, by show (0 : Int) < 2147483647; decide, ?_⟩⟩
  refine ⟨_, rfl, _, rfl, _, _, rfl, rfl, .inl (b64 (Int.emod_nonneg _ (by decide)) (Int.emod_lt_of_pos _ (by decide))), _, _, rfl, rfl, .inl ⟨_, rfl, _, _, rfl, rfl, by show (0 : Int) < 2147483629; decide, ?_⟩⟩
  refine ⟨_, rfl, _, _, rfl, rfl, .inl (b64 (Int.emod_nonneg _ (by decide)) (Int.lt_trans (Int.emod_lt_of_pos _ (by decide)) (by decide))), .inl ⟨_, rfl, _, _, rfl, rfl, by show (0 : Int) < 2147483587; decide, q _ (Int.emod_nonneg _ (by decide))⟩⟩
def spLawPurse (K : PySem.W.Frag) : Sp := fun vs H Q _ => ∃ (a : Addr) (ns : List Int) (j : Nat), vs = [.ref a, .int j] ∧ SqL K H a (ns.map V.int) ∧ ns.length ≤ 63 ∧ j ≤ 100 ∧ ∀ H' p, Same H H' → H p = none → Pur H' p 100000 → Q (.ref p) H'
theorem ok_lawPurse {f1 : Addr} {fd1 : FuncData} (F : Fun K "_law_purse" "_law_purse" sLawPurse f fd) (T : Bl mg) (G1 : FnOk P w K mg base CX0 k f1 fd1 ["script", "k"] (spLawAt K)) (b1 : Binds K fd1 ["script", "k"] []) (k1 : PySem.W.keepIn K (.ref f1) = true) (m1 : mg "_law_at" = some (.ref f1)) :
    FnOk P w K mg base CX0 (k + 1) f fd ["script", "at"] (spLawPurse K) := by
  refine F.ok scLawPurse (fun vs H Q E h => ?_) (fun cdv A outer s H vs Q E hr h => ?_)
  · obtain ⟨a, ns, j, rfl, _⟩ := h
    rfl
  obtain ⟨a, ns, j, rfl, hS, hl, hj, q⟩ := h
  refine ⟨_, pss_cons (ps_set (i := 2) scLawPurse.nd rfl (.inl rfl) (pe_call G1 hr (by rfl) m1 k1 b1 .nil pass0 (pa_cons (pv 0) (pa_cons (pv 1) pa_nil))))
    (pss_one (ps_ret (pe_lst (pa_cons (pe_op op_mod (pe_callTy call_int1 (by rfl) T.int (by decide +kernel) (pa_cons (pe_callB (call_max2 rfl) (by rfl) T.max (by decide +kernel) (pa_cons (pe_op op_sub (pv 2) (pe_op op_pow pe_int pe_int)) (pa_cons pe_int pa_nil))) pa_nil)) (pe_op op_powB (pe_op op_pow pe_int pe_int) pe_int))
      (pa_cons (pe_op op_mod (pe_callTy call_int1 (by rfl) T.int (by decide +kernel) (pa_cons (pv 2) pa_nil)) pe_int) (pa_cons (pe_op op_mul pe_int (pv 1)) pa_nil)))))), ?_⟩
  refine ⟨.ref a, rfl, .int j, rfl, a, ns, j, rfl, hS, hl, fun c => ?_⟩
  refine ⟨.int c, rfl, _, _, rfl, rfl, ⟨by decide, by decide, by decide⟩, _, _, rfl, rfl, _, _, rfl, .inl ⟨_, rfl, _, _, rfl, rfl, ⟨by decide, by decide, by decide⟩, _, _, rfl, rfl, ⟨by decide, by decide +kernel⟩, _, _, rfl, rfl, by show (0 : Int) < (10 ^ Int.toNat 60) ^ Int.toNat 10; decide +kernel, ?_⟩⟩
  refine ⟨.int c, rfl, .inl ⟨_, rfl, _, _, rfl, rfl, by show (0 : Int) < 2147483647; decide, .int j, rfl, _, _, rfl, rfl, .inl ⟨by decide, by decide⟩, by show 3 ≤ sizeLine; decide, fun p hp => ?_⟩⟩
  refine q _ p (same_new hp _) hp ⟨_, _, _, upd_same, Int.emod_nonneg _ (by decide +kernel), Int.emod_nonneg _ (by decide), Int.emod_lt_of_pos _ (by decide), ?_, ?_⟩
  · show (0 : Int) ≤ 1000 * (j : Int)
    omega
  · show 1000 * (j : Int) ≤ 100000
    omega
def spLawDraw : Sp := fun vs H Q _ => ∃ (p : Addr) (n c : Int), vs = [.ref p, .int n] ∧ Pur H p c ∧ c ≤ 1000000 ∧ 1 ≤ n ∧ n ≤ 1000 ∧ ∀ r us, 0 ≤ r → r < n → Pur (upd H p (.lst us)) p (c + 1) → Q (.int r) (upd H p (.lst us))
theorem ok_lawDraw {f1 : Addr} {fd1 : FuncData} (F : Fun K "_law_draw" "_law_draw" sLawDraw f fd) (T : Bl mg) (G1 : FnOk P w K mg base CX0 k f1 fd1 ["cell", "k"] spLawMixed) (b1 : Binds K fd1 ["cell", "k"] []) (k1 : PySem.W.keepIn K (.ref f1) = true) (m1 : mg "_law_mixed" = some (.ref f1)) :
    FnOk P w K mg base CX0 (k + 1) f fd ["purse", "out_of"] spLawDraw := by
  refine F.ok scLawDraw (fun vs H Q E h => ?_) (fun cdv A outer s H vs Q E hr h => ?_)
  · obtain ⟨p, n, c, rfl, _⟩ := h
    rfl
  obtain ⟨p, n, c, rfl, ⟨a, b, e, hp, a0, b0, b1', e0, e1⟩, c1, n0, n1, q⟩ := h
  refine ⟨_, pss_cons (ps_if (pt_cmpR op_gt (pe_ix ix_list (pv 0) pe_int (fun _ _ => rfl)) pe_int (nomark _))
      (pss_cons (ps_set (i := 2) scLawDraw.nd rfl (.inl rfl) (pe_op op_mod (pe_callTy call_int1 (by rfl) T.int (by decide +kernel) (pa_cons (pe_ix ix_list (pv 0) pe_int (fun _ _ => rfl)) pa_nil)) (pv 1)))
      (pss_cons (ps_asg (pe_op op_fdiv (pe_ix ix_list (pv 0) pe_int (fun _ _ => rfl)) (pv 1)) (pg_sub (pv 0) pe_int set_list)) (pss_one (ps_ret (pv 2))))) pss_nil)
    (pss_cons (ps_asg (pe_op op_add (pe_ix ix_list (pv 0) pe_int (fun _ _ => rfl)) pe_int) (pg_sub (pv 0) pe_int set_list))
    (pss_one (ps_ret (pe_op op_mod (pe_callTy call_int1 (by rfl) T.int (by decide +kernel) (pa_cons (pe_call G1 hr (by rfl) m1 k1 b1 .nil pass0 (pa_cons (pe_ix ix_list (pv 0) pe_int (fun _ _ => rfl)) (pa_cons (pe_ix ix_list (pv 0) pe_int (fun _ _ => rfl)) pa_nil))) pa_nil)) (pv 1))))), ?_⟩
  have hS : SqL K H p [.int a, .int b, .int e] := SqL.of hp
  refine ⟨.ref p, rfl, p, _, 0, .int a, rfl, rfl, hS, atI_nat (j := 0) rfl, _, _, rfl, rfl, _, rfl, ite2 (fun g => ?_) (fun _ => ?_)⟩
  · refine ⟨.ref p, rfl, p, _, 0, .int a, rfl, rfl, hS, atI_nat (j := 0) rfl, .inl ⟨_, rfl, .int n, rfl, _, _, rfl, rfl, by show 0 < n; omega, ?_⟩⟩
    refine ⟨.ref p, rfl, p, _, 0, .int a, rfl, rfl, hS, atI_nat (j := 0) rfl, .int n, rfl, _, _, rfl, rfl, ⟨by omega, by omega⟩, .ref p, rfl, p, _, 0, 0, rfl, rfl, hp, rfl, ?_⟩
    refine ⟨.int (a % n), rfl, q _ _ (Int.emod_nonneg _ (by omega)) (Int.emod_lt_of_pos _ (by omega)) ⟨a / n, b, e, upd_same, Int.ediv_nonneg a0 (by omega), b0, b1', e0, by omega⟩⟩
  · refine ⟨.ref p, rfl, p, _, 2, .int e, rfl, rfl, hS, atI_nat (j := 2) rfl, _, _, rfl, rfl, .ref p, rfl, p, _, 2, 2, rfl, rfl, hp, rfl, ?_⟩
    have hS2 : SqL K (upd H p (.lst [.int a, .int b, .int (e + 1)])) p [.int a, .int b, .int (e + 1)] := SqL.of upd_same
    refine ⟨.ref p, rfl, p, _, 1, .int b, rfl, rfl, hS2, atI_nat (j := 1) rfl, .ref p, rfl, p, _, 2, .int (e + 1), rfl, rfl, hS2, atI_nat (j := 2) rfl, b, e + 1, rfl, b0, b1', by omega, by omega, fun r r0 => ?_⟩
    refine .inl ⟨r, rfl, .int n, rfl, _, _, rfl, rfl, by show 0 < n; omega, ?_⟩
    exact q _ _ (Int.emod_nonneg _ (by omega)) (Int.emod_lt_of_pos _ (by omega)) ⟨a, b, e + 1, upd_same, a0, b0, b1', by omega, by omega⟩
end
end Rw
namespace Rw
open PySem PySem.Spec PyProof.Rows L2
/-! ### _law_some -/
abbrev nLawSome : List Str := ["purse", "names", "most", "found", "turn"]
theorem scLawSome : FnScope nLawSome ["purse", "names", "most"] (defScope sLawSome) := ⟨rfl, rfl, rfl, by decide +kernel, rfl, by decide +kernel, by decide +kernel⟩
section
variable {P : Program} {w : World} {K : PySem.W.Frag} {mg : Str → Option Value} {base : Heap} {f : Addr} {fd : FuncData} {k : Nat}
def spLawSome (K : PySem.W.Frag) : Sp := fun vs H Q _ => ∃ (p l : Addr) (c m : Int) (ns : W), vs = [.ref p, .ref l, .int m] ∧ Pur H p c ∧ c ≤ 900000 ∧ 0 ≤ m ∧ m ≤ 38 ∧ SqT K H l (ns.map V.str) ∧ 1 ≤ ns.length ∧ IsW ns ∧
  ∀ (H' : Hp) (t : Addr) (zs : W), Bar p H H' → Pur H' p (c + 40) → SqT K H' t (zs.map V.str) → IsW zs → (∀ z ∈ zs, z ∈ ns) → Q (.ref t) H'
theorem ok_lawSome {f1 : Addr} {fd1 : FuncData} (F : Fun K "_law_some" "_law_some" sLawSome f fd) (T : Bl mg) (G1 : FnOk P w K mg base CX0 k f1 fd1 ["purse", "out_of"] spLawDraw) (b1 : Binds K fd1 ["purse", "out_of"] []) (k1 : PySem.W.keepIn K (.ref f1) = true) (m1 : mg "_law_draw" = some (.ref f1)) :
    FnOk P w K mg base CX0 (k + 1) f fd ["purse", "names", "most"] (spLawSome K) := by
  refine F.ok scLawSome (fun vs H Q E h => ?_) (fun cdv A outer s H vs Q E hr h => ?_)
  · obtain ⟨p, l, c, m, ns, rfl, _⟩ := h
    rfl
  obtain ⟨p, l, c, m, ns, rfl, hP, hc, m0, m38, hl, n1, hn, q⟩ := h
  have n40 := hn.few
  refine ⟨_, pss_cons (ps_setLc (i := 3) (own := [("turn", 4)]) (g := gName 4) (by rfl) scLawSome.nd rfl rfl (sw_true rfl rfl rfl (by decide +kernel)) (pi_range1 rfl T.range (pa_cons (pe_call G1 hr (by rfl) m1 k1 b1 .nil pass0 (pa_cons (pv 0) (pa_cons (pe_op op_add (pv 2) pe_int) pa_nil))) pa_nil)) (blkOk_by (N := nLawSome) (sc := defScope sLawSome) (by decide +kernel))
        (fun _ _ _ _ _ => pg_name (i := 4) scLawSome.nd rfl (Or.inl rfl)) (fun _ _ _ _ _ => pts_nil) (fun _ _ _ _ _ => pe_ix (r := rIxT K) ix_tup (pv 1) (pe_call G1 hr (by rfl) m1 k1 b1 .nil pass0 (pa_cons (pv 0) (pa_cons (pe_callB (r := rLenK K) call_len_seq (by rfl) T.len PySem.boot_len (pa_cons (pv 1) pa_nil)) pa_nil))) (fun _ _ => rfl)))
    (pss_one (ps_ret (pe_callTy call_tuple_of (by rfl) T.tuple (by decide +kernel) (pa_cons (pe_callB (cr_sortX rfl hr.units) (by rfl) T.sorted (by decide +kernel) (pa_cons (pe_callTy (cr_setX rfl hr.units) (by rfl) T.set (by decide +kernel) (pa_cons (pv 3) pa_nil)) pa_nil)) pa_nil)))), ?_⟩
  refine ⟨.ref p, rfl, .int m, rfl, _, _, rfl, rfl, p, _, c, rfl, hP, by omega, by omega, by omega, fun r us r0 r1 hP1 => ?_⟩
  have barA : Bar p H (upd H p (.lst us)) := .draw
  have r1' : r < m + 1 := r1
  refine ⟨r, rfl, by omega, by omega, fun D hD => ?_⟩
  have nDp := hP1.some hD
  have hD0 := none_bar barA hP1 hD
  have sD := same_new hD (.lst [])
  have stl : ∀ H', Bar p H H' → SqT K H' l (ns.map V.str) := fun H' b => (b.stay hP.mut).seq hl
  refine lc_range (fun i H1 => Bar p H H1 ∧ Pur H1 p (c + 1 + i) ∧ ∃ zs : W, H1 D = some (.lst (zs.map V.str)) ∧ zs.length = i ∧ ∀ z ∈ zs, z ∈ ns) ⟨barA.trans (.same sD), (hP1.same sD).le (by omega), [], upd_same, rfl, (fun _ z => nomatch z)⟩ (fun i H1 il hI => ?_) (fun H1 hI => ?_)
  · obtain ⟨bar, pu, zs, hd, hL, hR⟩ := hI
    have ln : ((ns.map V.str).length : Int) = ns.length := by rw [List.length_map]
    refine ⟨rfl, .ref l, rfl, .ref p, rfl, .ref l, rfl, l, _, rfl, .inr (stl _ bar), p, _, _, rfl, pu, by omega, by rw [ln]; omega, by rw [ln]; omega, fun r2 us2 r20 r21 hP2 => ?_⟩
    obtain ⟨j, rfl⟩ := Int.eq_ofNat_of_zero_le r20
    have lt : j < ns.length := by
      rw [ln] at r21
      omega
    have hx : (ns.map V.str)[j]? = some (.str ns[j]) := by rw [List.getElem?_map, List.getElem?_eq_getElem lt]; rfl
    have bar2 : Bar p H (upd H1 p (.lst us2)) := bar.trans .draw
    refine ⟨l, _, j, _, rfl, rfl, stl _ bar2, atI_nat hx, ?_⟩
    have hd2 : (upd H1 p (.lst us2)) D = some (.lst (zs.map V.str)) := by
      rw [upd_ne nDp]
      exact hd
    refine ⟨_, hd2, small_line' (by rw [List.length_map]; omega), bar2.put hD0, (hP2.put nDp).le (by omega), zs ++ [ns[j]], ?_, by rw [List.length_append, hL]; rfl, fun z hz => ?_⟩
    · rw [upd_same, List.map_append]
      rfl
    · rcases List.mem_append.mp hz with h | h
      · exact hR z h
      · rw [List.mem_singleton.mp h]
        exact List.getElem_mem lt
  · obtain ⟨bar, pu, zs, hd, hL, hR⟩ := hI
    refine ⟨.ref D, rfl, D, zs, rfl, .inl (SqL.of hd), by omega, fun b ms hb nd hm hl' => ?_⟩
    refine ⟨b, ms, rfl, upd_same, by omega, fun zs2 p2 hz nz hlz rz hp => ?_⟩
    refine ⟨p2, zs2.map V.str, rfl, .inl ⟨SqL.of upd_same, fun l2 hl2 => ?_⟩⟩
    have sm := (same_new hb (XSetO P w b ms)).trans ((same_new hp (.lst (zs2.map V.str))).trans (same_new hl2 (.tup (zs2.map V.str))))
    have mem : ∀ z, z ∈ zs2 ↔ z ∈ zs := fun z => (hz z).trans (hm z)
    have sub : ∀ z ∈ zs2, z ∈ ns := fun z h => hR z ((mem z).mp h)
    refine q _ l2 zs2 (bar.trans (.same sm)) ((pu.same sm).le (by omega)) (SqT.of upd_same) ⟨fun z h => hn.names z (sub z h), upX_of rz nz, ?_⟩ sub
    have := len_le nz sub
    omega
end
end Rw
namespace Rw
open PySem PySem.Spec PyProof.Rows L2
/-! ### _law_row -/
theorem scLawRow : FnScope ["purse", "names", "way", "wide", "heads", "denied"] ["purse", "names", "way"] (defScope sLawRow) := ⟨rfl, rfl, rfl, by decide +kernel, rfl, by decide +kernel, by decide +kernel⟩
theorem slA_w {K : PySem.W.Frag} {H : Hp} {a : Addr} {xs : List V} {lo hi : Option Int} {Q : VK} (hx : SqT K H a xs) (q : ∀ c H0, Same H H0 → SqT K H0 c (cutV xs lo hi) → Q (.ref c) H0) : rSlA K (.ref a) lo hi H Q := by
  refine ⟨a, xs, rfl, hx, fun ⟨e1, e2⟩ => q a H (fun _ _ e => e) ?_, fun _ p hp => q p _ (same_new hp _) (SqT.of upd_same)⟩
  unfold cutV
  rw [e1, e2, List.drop_zero, Nat.sub_zero, List.take_length]
  exact hx
theorem cut_map (zs : W) (j : Int) : ∃ m, cutV (zs.map V.str) none (some j) = (zs.take m).map V.str := by
  refine ⟨HT.sIx (zs.map V.str).length (zs.map V.str).length (some j), ?_⟩
  unfold cutV
  show ((zs.map V.str).drop 0).take (_ - 0) = _
  rw [List.drop_zero, Nat.sub_zero, List.map_take]
theorem isW_sub {ns zs : W} (h : IsW ns) (s : zs.Sublist ns) : IsW zs := ⟨fun x hx => h.names x (s.subset hx), List.Pairwise.sublist s h.up, Nat.le_trans s.length_le h.few⟩
theorem three_at {way : Int} (h : way = 0 ∨ way = 1 ∨ way = 2) : ∃ j : Int, atI [V.int 2, V.int 3, V.int 1] way = some (.int j) ∧ 0 ≤ j ∧ j ≤ 3 := by
  rcases h with rfl | rfl | rfl
  · exact ⟨2, rfl, by decide, by decide⟩
  · exact ⟨3, rfl, by decide, by decide⟩
  · exact ⟨1, rfl, by decide, by decide⟩
/-- a rule over the names -/
def ROf (ns : W) (r : Rl) : Prop := IsR r ∧ ∀ t ∈ parts r, ∀ z ∈ t, z ∈ ns
section
variable {P : Program} {w : World} {K : PySem.W.Frag} {mg : Str → Option Value} {base : Heap} {f : Addr} {fd : FuncData} {k : Nat}
def spLawRow (K : PySem.W.Frag) : Sp := fun vs H Q _ => ∃ (p l : Addr) (c way : Int) (ns : W), vs = [.ref p, .ref l, .int way] ∧ (way = 0 ∨ way = 1 ∨ way = 2) ∧ Pur H p c ∧ c ≤ 800000 ∧ SqT K H l (ns.map V.str) ∧ 1 ≤ ns.length ∧ IsW ns ∧
  ∀ (H' : Hp) (v : V) (r : Rl), Bar p H H' → Pur H' p (c + 300) → Dp K H' v (rd r) → ROf ns r → Q v H'
theorem ok_lawRow {f1 f2 : Addr} {fd1 fd2 : FuncData} (F : Fun K "_law_row" "_law_row" sLawRow f fd) (T : Bl mg) (G1 : FnOk P w K mg base CX0 k f1 fd1 ["purse", "out_of"] spLawDraw) (b1 : Binds K fd1 ["purse", "out_of"] []) (k1 : PySem.W.keepIn K (.ref f1) = true) (m1 : mg "_law_draw" = some (.ref f1))
    (G2 : FnOk P w K mg base CX0 k f2 fd2 ["purse", "names", "most"] (spLawSome K)) (b2 : Binds K fd2 ["purse", "names", "most"] []) (k2 : PySem.W.keepIn K (.ref f2) = true) (m2 : mg "_law_some" = some (.ref f2)) :
    FnOk P w K mg base CX0 (k + 1) f fd ["purse", "names", "way"] (spLawRow K) := by
  refine F.ok scLawRow (fun vs H Q E h => ?_) (fun cdv A outer s H vs Q E hr h => ?_)
  · obtain ⟨p, l, c, way, ns, rfl, _⟩ := h
    rfl
  obtain ⟨p, l, c, way, ns, rfl, hway, hP, hc, hl, n1, hn, q⟩ := h
  refine ⟨_, pss_cons (ps_set (i := 3) scLawRow.nd rfl (.inl rfl) (pe_callTy call_int1 (by rfl) T.int (by decide +kernel) (pa_cons (pe_cmpR op_eq (pe_call G1 hr (by rfl) m1 k1 b1 .nil pass0 (pa_cons (pv 0) (pa_cons pe_int pa_nil))) pe_int (nomark _)) pa_nil)))
    (pss_cons (ps_set (i := 4) scLawRow.nd rfl (.inl rfl) (pe_call G2 hr (by rfl) m2 k2 b2 .nil pass0 (pa_cons (pv 0) (pa_cons (pv 1) (pa_cons (pe_op op_add (pe_ix ix_list (pe_lst (pa_cons pe_int (pa_cons pe_int (pa_cons pe_int pa_nil)))) (pv 2) (fun _ _ => rfl)) (pe_op op_mul pe_int (pv 3))) pa_nil)))))
    (pss_cons (ps_set (i := 5) scLawRow.nd rfl (.inl rfl) (pe_tup pa_nil))
    (pss_mid (ps_if (pt_cmpR op_eq (pv 2) pe_int (nomark _)) (pss_one (ps_set (i := 5) scLawRow.nd rfl (.inl rfl) (pe_call G2 hr (by rfl) m2 k2 b2 .nil pass0 (pa_cons (pv 0) (pa_cons (pv 1) (pa_cons (pe_op op_add pe_int (pv 3)) pa_nil)))))) pss_nil)
    (pss_mid (ps_if (pt_cmpR op_eq (pv 2) pe_int (nomark _)) (pss_one (ps_set (i := 4) scLawRow.nd rfl (.inl rfl) (pe_slice sl_tupA (pv 4) po_none (po_some pe_int)))) pss_nil)
    (pss_one (ps_ret (pe_tup (pa_cons (pv 4) (pa_cons (pv 5)
      (pa_cons (pe_call G2 hr (by rfl) m2 k2 b2 .nil pass0 (pa_cons (pv 0) (pa_cons (pv 1) (pa_cons (pe_op op_add pe_int (pe_op op_mul pe_int (pv 3))) pa_nil))))
      (pa_cons (pe_call G2 hr (by rfl) m2 k2 b2 .nil pass0 (pa_cons (pv 0) (pa_cons (pv 1) (pa_cons (pe_op op_add pe_int (pe_op op_mul pe_int (pv 3))) pa_nil)))) pa_nil))))))))))), ?_⟩
  have sty : ∀ H', Bar p H H' → SqT K H' l (ns.map V.str) := fun H' b => (b.stay hP.mut).seq hl
  have sortV : ∀ j : Int, ∃ b : Bool, V.bl (decide (V.int way = V.int j)) = V.bl b ∧ (b = true ↔ way = j) := fun j => by
    by_cases e : way = j
    · exact ⟨true, congrArg V.bl (decide_eq_true (by rw [e])), by simp [e]⟩
    · exact ⟨false, congrArg V.bl (decide_eq_false fun z => e (by injection z)), by simp [e]⟩
  refine ⟨.ref p, rfl, p, 4, c, rfl, hP, by omega, by decide, by decide, fun r us r0 r1 hP1 => ?_⟩
  refine ⟨rfl, .inr ⟨decide (V.int r = V.int 0), rfl, ?_⟩⟩
  have bar1 : Bar p H (upd H p (.lst us)) := .draw
  obtain ⟨wd', ew, w0, w1⟩ : ∃ i : Int, (if decide (V.int r = V.int 0) = true then (1 : Int) else 0) = i ∧ 0 ≤ i ∧ i ≤ 1 := by
    refine ⟨_, rfl, ?_, ?_⟩ <;> split <;> decide
  rw [ew]
  have cm : CMul 2 wd' := .inl ⟨by decide, by decide⟩
  refine ⟨.ref p, rfl, .ref l, rfl, by show 3 ≤ sizeLine; decide, fun q4 hq4 => ?_⟩
  have s4 := same_new hq4 (.lst [.int 2, .int 3, .int 1])
  obtain ⟨j, hj, j0, j3⟩ := three_at hway
  have bar4 := bar1.trans (.same s4)
  refine ⟨.int way, rfl, q4, _, way, .int j, rfl, rfl, SqL.of upd_same, hj, .int wd', rfl, 2, wd', rfl, rfl, cm, j, _, rfl, rfl, p, l, _, _, ns, rfl, hP1.same s4, by omega, by omega, by omega, sty _ bar4, n1, hn, fun H2 t zs bar2 pu2 ht hzs hsub => ?_⟩
  have bar2' := bar4.trans bar2
  refine ⟨by show 0 ≤ sizeLine; decide, fun t6 ht6 => ?_⟩
  have s6 := same_new ht6 (.tup [])
  have bar6 := bar2'.trans (.same s6)
  have pu6 := pu2.same s6
  refine ⟨fun σ H7 => ∃ (t7 : Addr) (ds : W), σ = [some (.ref p), some (.ref l), some (.int way), some (.int wd'), some (.ref t), some (.ref t7)] ∧ Bar p H H7 ∧ Pur H7 p (c + 100) ∧ SqT K H7 t (zs.map V.str) ∧ SqT K H7 t7 (ds.map V.str) ∧ IsW ds ∧ ∀ z ∈ ds, z ∈ ns, ?_, ?_⟩
  · obtain ⟨b0, e0, hb0⟩ := sortV 0
    refine ⟨.int way, rfl, rfl, b0, e0, ?_⟩
    cases b0 with
    | false => exact iteF ⟨t6, [], rfl, bar6, pu6.le (by omega), same_tup s6 ht, SqT.of upd_same, isW_nil, fun _ z => nomatch z⟩
    | true =>
      refine iteT ⟨.ref p, rfl, .ref l, rfl, .int wd', rfl, 1, wd', rfl, rfl, p, l, _, _, ns, rfl, pu6, by omega, by omega, by omega, sty _ bar6, n1, hn, fun H8 t8 z8 bar8 pu8 h8 hz8 hs8 => ?_⟩
      exact ⟨t8, z8, rfl, bar6.trans bar8, pu8.le (by omega), (((Bar.same s6).trans bar8).stay pu2.mut).seq ht, h8, hz8, hs8⟩
  rintro σ7 H7 ⟨t7, ds, rfl, bar7, pu7, ht7, hd7, hds, hdsub⟩
  refine ⟨fun σ H8 => ∃ (t8 : Addr) (hs : W), σ = [some (.ref p), some (.ref l), some (.int way), some (.int wd'), some (.ref t8), some (.ref t7)] ∧ Bar p H H8 ∧ Pur H8 p (c + 100) ∧ SqT K H8 t8 (hs.map V.str) ∧ SqT K H8 t7 (ds.map V.str) ∧ IsW hs ∧ ∀ z ∈ hs, z ∈ ns, ?_, ?_⟩
  · obtain ⟨b2', e2, hb2⟩ := sortV 2
    refine ⟨.int way, rfl, rfl, b2', e2, ?_⟩
    cases b2' with
    | false => exact iteF ⟨t, zs, rfl, bar7, pu7, ht7, hd7, hzs, hsub⟩
    | true =>
      refine iteT ⟨.ref t, rfl, 1, rfl, slA_w ht7 fun t5 H5 s5 ht5 => ?_⟩
      obtain ⟨mm, em⟩ := cut_map zs 1
      rw [em] at ht5
      exact ⟨t5, zs.take mm, rfl, bar7.trans (.same s5), pu7.same s5, ht5, same_tup s5 hd7, isW_sub hzs (List.take_sublist _ _), fun z hz => hsub z (List.mem_of_mem_take hz)⟩
  rintro σ8 H8 ⟨t8, hs, rfl, bar8, pu8, ht8, hd8, hhs, hhsub⟩
  refine ⟨.ref t8, rfl, .ref t7, rfl, .ref p, rfl, .ref l, rfl, .int wd', rfl, 2, wd', rfl, rfl, cm, 2, _, rfl, rfl, p, l, _, _, ns, rfl, pu8, by omega, by omega, by omega, sty _ bar8, n1, hn, fun H9 t9 z9 bar9 pu9 h9 hz9 hs9 => ?_⟩
  refine ⟨.ref p, rfl, .ref l, rfl, .int wd', rfl, 2, wd', rfl, rfl, cm, 2, _, rfl, rfl, p, l, _, _, ns, rfl, pu9, by omega, by omega, by omega, sty _ (bar8.trans bar9), n1, hn, fun HA tA zA barA puA hA hzA hsA => ?_⟩
  refine ⟨by show 4 ≤ sizeLine; decide, fun tB hB => ?_⟩
  have sB := same_new hB (.tup [.ref t8, .ref t7, .ref t9, .ref tA])
  have yA := (barA.stay pu9.mut).trans (.same sB)
  have y9 := (bar9.stay pu8.mut).trans yA
  refine q _ (.ref tB) (hs, ds, z9, zA) (((bar8.trans bar9).trans barA).trans (.same sB)) ((puA.same sB).le (by omega)) ?_ ⟨⟨hhs, hds, hz9, hzA⟩, fun t ht => ?_⟩
  · exact .tup (SqT.of upd_same) (.cons (to_wd (y9.seq ht8)) (.cons (to_wd (y9.seq hd8)) (.cons (to_wd (yA.seq h9)) (.cons (to_wd ((Stay.same sB).seq hA)) .nil))))
  · unfold parts at ht
    simp only [List.mem_cons, List.mem_nil_iff, or_false] at ht
    rcases ht with e | e | e | e <;> subst e
    · exact hhsub
    · exact hdsub
    · exact hs9
    · exact hsA
end
end Rw
namespace Rw
open PySem PySem.Spec PyProof.Rows L2
/-! ### _law_rows -/
abbrev nLawRows : List Str := ["purse", "names", "most", "way", "turn"]
theorem scLawRows : FnScope nLawRows ["purse", "names", "most"] (defScope sLawRows) := ⟨rfl, rfl, rfl, by decide +kernel, rfl, by decide +kernel, by decide +kernel⟩
theorem none_same {H H' : Hp} {l : Addr} (s : Same H H') (n : H' l = none) : H l = none := by
  cases e : H l with
  | none => rfl
  | some u =>
    rw [s _ _ e] at n
    cases n
/-- a list of rules -/
def RL (K : PySem.W.Frag) (H : Hp) (l : Addr) (S : List Rl) : Prop := ∃ ys, H l = some (.lst ys) ∧ DpAll K H ys (S.map rd)
theorem RL.same {K : PySem.W.Frag} {H H' : Hp} {l : Addr} {S : List Rl} (h : RL K H l S) (e : Same H H') : RL K H' l S := by
  obtain ⟨ys, h1, h2⟩ := h
  exact ⟨ys, e _ _ h1, (Stay.same e).dpAll _ _ (okDs_rd S) h2⟩
section
variable {P : Program} {w : World} {K : PySem.W.Frag} {mg : Str → Option Value} {base : Heap} {f : Addr} {fd : FuncData} {k : Nat}
def spLawRows (K : PySem.W.Frag) : Sp := fun vs H Q _ => ∃ (p l : Addr) (c most : Int) (ns : W), vs = [.ref p, .ref l, .int most] ∧ 0 ≤ most ∧ most ≤ 40 ∧ Pur H p c ∧ c ≤ 700000 ∧ SqT K H l (ns.map V.str) ∧ 1 ≤ ns.length ∧ IsW ns ∧
  ∀ (H' : Hp) (a : Addr) (S : List Rl), Bar p H H' → Pur H' p (c + 15000) → H a = none → RL K H' a S → (S.length : Int) ≤ most → (∀ r ∈ S, ROf ns r) → Q (.ref a) H'
theorem ok_lawRows {f1 f2 : Addr} {fd1 fd2 : FuncData} (F : Fun K "_law_rows" "_law_rows" sLawRows f fd) (T : Bl mg) (G1 : FnOk P w K mg base CX0 k f1 fd1 ["purse", "out_of"] spLawDraw) (b1 : Binds K fd1 ["purse", "out_of"] []) (k1 : PySem.W.keepIn K (.ref f1) = true) (m1 : mg "_law_draw" = some (.ref f1))
    (G2 : FnOk P w K mg base CX0 k f2 fd2 ["purse", "names", "way"] (spLawRow K)) (b2 : Binds K fd2 ["purse", "names", "way"] []) (k2 : PySem.W.keepIn K (.ref f2) = true) (m2 : mg "_law_row" = some (.ref f2)) :
    FnOk P w K mg base CX0 (k + 1) f fd ["purse", "names", "most"] (spLawRows K) := by
  refine F.ok scLawRows (fun vs H Q E h => ?_) (fun cdv A outer s H vs Q E hr h => ?_)
  · obtain ⟨p, l, c, most, ns, rfl, _⟩ := h
    rfl
  obtain ⟨p, l, c, most, ns, rfl, m0, m40, hP, hc, hl, n1, hn, q⟩ := h
  refine ⟨_, pss_cons (ps_set (i := 3) scLawRows.nd rfl (.inr rfl) (pe_call G1 hr (by rfl) m1 k1 b1 .nil pass0 (pa_cons (pv 0) (pa_cons pe_int pa_nil))))
    (pss_one (ps_ret (pe_lc (own := [("turn", 4)]) (g := gName 4) (by rfl) scLawRows.nd (pi_range1 rfl T.range (pa_cons (pe_call G1 hr (by rfl) m1 k1 b1 .nil pass0 (pa_cons (pv 0) (pa_cons (pe_op op_add (pv 2) pe_int) pa_nil))) pa_nil)) (blkOk_by (N := nLawRows) (sc := defScope sLawRows) (by decide +kernel))
        (fun _ _ _ _ _ => pg_name (i := 4) scLawRows.nd rfl (Or.inl rfl)) (fun _ _ _ _ _ => pts_nil) (fun _ _ _ _ _ => pe_call G2 hr (by rfl) m2 k2 b2 .nil pass0 (pa_cons (pv 0) (pa_cons (pv 1) (pa_cons (pv 3) pa_nil))))))), ?_⟩
  refine ⟨.ref p, rfl, p, 3, c, rfl, hP, by omega, by decide, by decide, fun way us0 w0 w1 hP0 => ?_⟩
  have bar0 : Bar p H (upd H p (.lst us0)) := .draw
  refine ⟨.ref p, rfl, .int most, rfl, _, _, rfl, rfl, p, _, _, rfl, hP0, by omega, by omega, by omega, fun r us r0 r1 hP1 => ?_⟩
  have barA : Bar p H (upd (upd H p (.lst us0)) p (.lst us)) := bar0.trans .draw
  have r1' : r < most + 1 := r1
  refine ⟨r, rfl, by omega, by omega, fun D hD => ?_⟩
  have nDp := hP1.some hD
  have hD0 := none_bar barA hP1 hD
  have sD := same_new hD (.lst [])
  have sty : ∀ H', Bar p H H' → SqT K H' l (ns.map V.str) := fun H' b => (b.stay hP.mut).seq hl
  refine lc_range (fun i H1 => Bar p H H1 ∧ Pur H1 p (c + 2 + 300 * i) ∧ ∃ (zs : List V) (L : List Rl), H1 D = some (.lst zs) ∧ DpAll K H1 zs (L.map rd) ∧ L.length = i ∧ ∀ r ∈ L, ROf ns r) ⟨barA.trans (.same sD), (hP1.same sD).le (by omega), [], [], upd_same, .nil, rfl, (fun _ z => nomatch z)⟩ (fun i H1 il hI => ?_) (fun H1 hI => ?_)
  · obtain ⟨bar, pu, zs, L, hd, hzs, hL, hR⟩ := hI
    refine ⟨rfl, .ref p, rfl, .ref l, rfl, .int way, rfl, p, l, _, way, ns, rfl, by omega, pu, by omega, sty _ bar, n1, hn, fun H2 v r2 bar2 pu2 hv hr2 => ?_⟩
    have hd2 := bar2 _ _ nDp hd
    have st : Stay H2 (upd H2 D (.lst (zs ++ [v]))) := .put (by rw [hd2]; exact True.intro) _
    refine ⟨zs, hd2, small_line' ?_, (bar.trans bar2).put hD0, (pu2.put nDp).le (by omega), zs ++ [v], L ++ [r2], upd_same, ?_, by rw [List.length_append, hL]; rfl, fun r hr => ?_⟩
    · rw [dpAll_len hzs, List.length_map]
      omega
    · rw [List.map_append]
      exact dpAll_app (((bar2.stay pu.mut).trans st).dpAll _ _ (okDs_rd L) hzs) (.cons (st.dp _ _ (ok_rd r2) hv) .nil)
    · rcases List.mem_append.mp hr with h | h
      · exact hR r h
      · rw [List.mem_singleton.mp h]
        exact hr2
  · obtain ⟨bar, pu, zs, L, hd, hzs, hL, hR⟩ := hI
    exact q _ D L bar (pu.le (by omega)) hD0 ⟨zs, hd, hzs⟩ (by omega) hR
end
end Rw
namespace Rw
open PySem PySem.Spec PyProof.Rows L2
/-! ### filters read in one step -/
theorem asg12 {t : TE} {g : TG} {u : TS} {D : Ends} {σ : L2.St} {H : Hp} (h : tAsg t g { D with nx := u D } σ H) : tSeq (tAsg t g) u D σ H := h
theorem lc_filt {K : PySem.W.Frag} {σ : L2.St} {H : Hp} {Q : VK} {t c : Addr} {i j x : Nat} {ns ms : W} {neg : Bool} (h0 : σ[i]? = some (some (.ref t))) (hj : j ≠ x) (hσ : σ[j]? = some (some (.ref c))) (hl : x < σ.length) (hc : SqL K H c (ms.map V.str) ∨ SqT K H c (ms.map V.str)) (ht : SqT K H t (ns.map V.str)) (few : ns.length ≤ 1000)
    (q : ∀ H' D, Same H H' → H D = none → H' D = some (.lst ((ns.filter fun z => if neg then !decide (z ∈ ms) else decide (z ∈ ms)).map V.str)) → Q (.ref D) H') :
    tLc (iTup K (tVar i)) (gName x) (tTest (tOp (rIn K neg) (tVar x) (tVar j))) (tVar x) [x] σ H Q := by
  refine ⟨.ref t, h0, t, rfl, ⟨_, ht⟩, fun D hD => ?_⟩
  refine lc_tup (xs := ns.map V.str) (fun n H1 => Same H H1 ∧ H1 D = some (.lst (((ns.take n).filter fun z => if neg then !decide (z ∈ ms) else decide (z ∈ ms)).map V.str))) ⟨same_new hD _, upd_same⟩ (fun n H1 _ h => same_tup h.1 ht) (fun n y H1 hx h => ?_) (fun H1 h => ?_)
  · obtain ⟨sm, hd⟩ := h
    obtain ⟨z, hz, rfl⟩ := map_at hx
    have il : n < ns.length := (List.getElem?_eq_some_iff.mp hz).1
    have w9 : ((wipe σ [x]).set x (some (V.str z)))[x]? = some (some (V.str z)) := by
      show ((σ.set x none).set x (some (V.str z)))[x]? = _
      rw [List.set_set, List.getElem?_set_self hl]
    have wj : ((wipe σ [x]).set x (some (V.str z)))[j]? = some (some (V.ref c)) := by
      show ((σ.set x none).set x (some (V.str z)))[j]? = _
      rw [List.set_set, List.getElem?_set_ne (Ne.symm hj)]
      exact hσ
    have ww : wipe ((wipe σ [x]).set x (some (V.str z))) [x] = wipe σ [x] := by
      show ((σ.set x none).set x (some (V.str z))).set x none = σ.set x none
      rw [List.set_set, List.set_set]
    refine ⟨ww, .str z, w9, .ref c, wj, c, ms.map V.str, rfl, hc.elim (fun h => .inl (sm.seq h)) (fun h => .inr (same_tup sm h)), rfl, flat_strs ms, _, rfl, ?_⟩
    rw [inV_str]
    refine ite2 (fun e => ?_) (fun e => ?_)
    · refine ⟨.str z, w9, _, hd, small_line' ?_, same_put sm hD, ?_⟩
      · rw [List.length_map]
        have := List.length_filter_le (fun z => if neg then !decide (z ∈ ms) else decide (z ∈ ms)) (ns.take n)
        rw [List.length_take] at this
        omega
      · rw [upd_same, filt_take hz, if_pos (show (if neg then !decide (z ∈ ms) else decide (z ∈ ms)) = true from e), List.map_append]
        rfl
    · refine ⟨sm, ?_⟩
      rw [filt_take hz, if_neg (show ¬ (if neg then !decide (z ∈ ms) else decide (z ∈ ms)) = true from e), List.append_nil]
      exact hd
  · obtain ⟨sm, hd⟩ := h
    rw [List.length_map, List.take_length] at hd
    exact q H1 D sm hD hd
def innW (ns ms : W) : W := ns.filter fun z => decide (z ∈ ms)
def neL (zs : W) : Bool := !decide (zs = [])
theorem eqv_nil (zs : W) : PyData.eqv (.list (zs.map .str)) (.list []) = decide (zs = []) := by
  rw [PyData.eqv]
  have z := eqv_strs zs []
  rw [List.map_nil] at z
  exact z
theorem ne_nil {K : PySem.W.Frag} {H : Hp} {D e : Addr} {zs : W} {Q : VK} (hz : SqL K H D (zs.map V.str)) (he : SqL K H e []) (hn : ∀ x ∈ zs, nameB x = true) (q : Q (.bl (neL zs)) H) : rNeD K (.ref D) (.ref e) H Q := by
  refine ⟨.list (zs.map .str), .list [], .lst hz (dps_strs _), .lst he .nil, shaped_strs hn, by decide, ?_⟩
  rw [eqv_nil]
  exact q
/-- [x for x in ns if x not in ms] != [], and with in -/
theorem filt_ne {K : PySem.W.Frag} {σ : L2.St} {H : Hp} {Q : VK} {t c : Addr} {i j x : Nat} {ns ms : W} {neg : Bool} (h0 : σ[i]? = some (some (.ref t))) (hj : j ≠ x) (hσ : σ[j]? = some (some (.ref c))) (hl : x < σ.length) (hc : SqL K H c (ms.map V.str) ∨ SqT K H c (ms.map V.str)) (ht : SqT K H t (ns.map V.str)) (few : ns.length ≤ 1000)
    (hn : ∀ z ∈ ns, nameB z = true) (q : ∀ H', Same H H' → Q (.bl (neL (ns.filter fun z => if neg then !decide (z ∈ ms) else decide (z ∈ ms)))) H') :
    tOp (rNeD K) (tLc (iTup K (tVar i)) (gName x) (tTest (tOp (rIn K neg) (tVar x) (tVar j))) (tVar x) [x]) (tLst tNil) σ H Q := by
  refine lc_filt h0 hj hσ hl hc ht few fun H1 D s1 nD hD => ⟨by show 0 ≤ sizeLine; decide, fun e he => ?_⟩
  have s2 := same_new he (.lst [])
  exact ne_nil (SqL.of (s2 _ _ hD)) (SqL.of upd_same) (fun z hz => hn z (List.mem_filter.mp hz).1) (q _ (s1.trans s2))
/-! ### _law_stands -/
abbrev nLawStands : List Str := ["row", "here", "there", "heads", "denied", "needs", "bars", "x"]
theorem scLawStands : FnScope nLawStands ["row", "here", "there"] (defScope sLawStands) := ⟨rfl, rfl, rfl, by decide +kernel, rfl, by decide +kernel, by decide +kernel⟩
def standsB (r : Rl) (h t : W) : Bool := (neL (minus r.2.2.1 h) || neL (innW r.2.2.2 t)) || (neL (innW r.1 h) || neL (minus r.2.1 t))
section
variable {P : Program} {w : World} {K : PySem.W.Frag} {mg : Str → Option Value} {base : Heap} {f : Addr} {fd : FuncData} {k : Nat}
def spLawStands (K : PySem.W.Frag) : Sp := fun vs H Q _ => ∃ (x y z : V) (r : Rl) (h t : W), vs = [x, y, z] ∧ Dp K H x (rd r) ∧ IsR r ∧ Dp K H y (wd h) ∧ Dp K H z (wd t) ∧ ∀ H', Same H H' → Q (.bl (standsB r h t)) H'
theorem ok_lawStands (F : Fun K "_law_stands" "_law_stands" sLawStands f fd) : FnOk P w K mg base CX0 (k + 1) f fd ["row", "here", "there"] (spLawStands K) := by
  refine F.ok scLawStands (fun vs H Q E h => ?_) (fun cdv A outer s H vs Q E hr h => ?_)
  · obtain ⟨x, y, z, r, h, t, rfl, _⟩ := h
    rfl
  obtain ⟨x, y, z, r, h, t, rfl, hx, hR, hy, hz, q⟩ := h
  refine ⟨_, pss_cons (ps_asg (pv 0) (pg_tup (by rfl) (pgs_cons (pg_name (i := 3) scLawStands.nd rfl (.inl rfl)) (pgs_cons (pg_name (i := 4) scLawStands.nd rfl (.inl rfl)) (pgs_cons (pg_name (i := 5) scLawStands.nd rfl (.inl rfl)) (pgs_cons (pg_name (i := 6) scLawStands.nd rfl (.inl rfl)) pgs_nil))))))
    (pss_cons (ps_if (PW.pt (pw_or (pt_cmpR (op_neD hr.units) (pe_lc (own := [("x", 7)]) (g := gName 7) (by rfl) scLawStands.nd (pi_tup (pv 5)) (blkOk_by (N := nLawStands) (sc := defScope sLawStands) (by decide +kernel)) (fun _ _ _ _ _ => pg_name (i := 7) scLawStands.nd rfl (Or.inl rfl)) (fun _ _ _ _ _ => pts_one (pt_cmpR (r := rIn K true) op_notIn_seq (pv 7) (pv 1) (by rfl))) (fun _ _ _ _ _ => pv 7)) (pe_lst pa_nil) (nomark _))
      (pw_or1 (pt_cmpR (op_neD hr.units) (pe_lc (own := [("x", 7)]) (g := gName 7) (by rfl) scLawStands.nd (pi_tup (pv 6)) (blkOk_by (N := nLawStands) (sc := defScope sLawStands) (by decide +kernel)) (fun _ _ _ _ _ => pg_name (i := 7) scLawStands.nd rfl (Or.inl rfl)) (fun _ _ _ _ _ => pts_one (pt_cmpR (r := rIn K false) op_in_seq (pv 7) (pv 2) (by rfl))) (fun _ _ _ _ _ => pv 7)) (pe_lst pa_nil) (nomark _)))))
      (pss_one (ps_ret pe_bl)) pss_nil)
    (pss_one (ps_ret (pe_or (pe_cmpR (op_neD hr.units) (pe_lc (own := [("x", 7)]) (g := gName 7) (by rfl) scLawStands.nd (pi_tup (pv 3)) (blkOk_by (N := nLawStands) (sc := defScope sLawStands) (by decide +kernel)) (fun _ _ _ _ _ => pg_name (i := 7) scLawStands.nd rfl (Or.inl rfl)) (fun _ _ _ _ _ => pts_one (pt_cmpR (r := rIn K false) op_in_seq (pv 7) (pv 1) (by rfl))) (fun _ _ _ _ _ => pv 7)) (pe_lst pa_nil) (nomark _))
      (pe_one (pe_cmpR (op_neD hr.units) (pe_lc (own := [("x", 7)]) (g := gName 7) (by rfl) scLawStands.nd (pi_tup (pv 4)) (blkOk_by (N := nLawStands) (sc := defScope sLawStands) (by decide +kernel)) (fun _ _ _ _ _ => pg_name (i := 7) scLawStands.nd rfl (Or.inl rfl)) (fun _ _ _ _ _ => pts_one (pt_cmpR (r := rIn K true) op_notIn_seq (pv 7) (pv 2) (by rfl))) (fun _ _ _ _ _ => pv 7)) (pe_lst pa_nil) (nomark _))))))), ?_⟩
  obtain ⟨b0, v1, v2, v3, v4, rfl, hT, h1, h2, h3, h4⟩ := of_rd hx
  obtain ⟨a1, rfl, t1⟩ := of_wd h1
  obtain ⟨a2, rfl, t2⟩ := of_wd h2
  obtain ⟨a3, rfl, t3⟩ := of_wd h3
  obtain ⟨a4, rfl, t4⟩ := of_wd h4
  obtain ⟨y, rfl, ty⟩ := of_wd hy
  obtain ⟨z, rfl, tz⟩ := of_wd hz
  have f1 := hR.h.few
  have f2 := hR.d.few
  have f3 := hR.n.few
  have f4 := hR.b.few
  refine ⟨.ref b0, rfl, b0, _, rfl, hT, rfl, _, _, rfl, _, _, rfl, _, _, rfl, _, [], rfl, rfl, ?_⟩
  refine filt_ne (neg := true) (i := 5) (j := 1) (x := 7) rfl (by decide) rfl (by show 7 < 8; decide) (.inr ty) t3 (by omega) hR.n.names fun H1 s1 => ⟨_, rfl, ite2 (fun e => ?_) (fun e => ?_)⟩
  · refine iteT ?_
    have z := q H1 s1
    rw [show standsB r h t = true by
      unfold standsB
      rw [show neL (minus r.2.2.1 h) = true from e]
      rfl] at z
    exact z
  refine filt_ne (neg := false) (i := 6) (j := 2) (x := 7) rfl (by decide) rfl (by show 7 < 8; decide) (.inr (same_tup s1 tz)) (same_tup s1 t4) (by omega) hR.b.names fun H2 s2 => ⟨_, rfl, ?_⟩
  have s12 := s1.trans s2
  have e' : neL (minus r.2.2.1 h) = false := Bool.eq_false_iff.mpr e
  refine ite2 (fun e2 => ?_) (fun e2 => ?_)
  · have z := q H2 s12
    rw [show standsB r h t = true by
      unfold standsB
      rw [e', show neL (innW r.2.2.2 t) = true from e2]
      rfl] at z
    exact z
  have e2' : neL (innW r.2.2.2 t) = false := Bool.eq_false_iff.mpr e2
  refine filt_ne (neg := false) (i := 3) (j := 1) (x := 7) rfl (by decide) rfl (by show 7 < 8; decide) (.inr (same_tup s12 ty)) (same_tup s12 t1) (by omega) hR.h.names fun H3 s3 => ⟨_, rfl, ite2 (fun e3 => ?_) (fun e3 => ?_)⟩
  · have z := q H3 (s12.trans s3)
    rw [show standsB r h t = true by
      unfold standsB
      rw [e', e2', show neL (innW r.1 h) = true from e3]
      rfl] at z
    exact z
  have e3' : neL (innW r.1 h) = false := Bool.eq_false_iff.mpr e3
  have s13 := s12.trans s3
  refine filt_ne (neg := true) (i := 4) (j := 2) (x := 7) rfl (by decide) rfl (by show 7 < 8; decide) (.inr (same_tup s13 tz)) (same_tup s13 t2) (by omega) hR.d.names fun H4 s4 => ?_
  have z := q H4 (s13.trans s4)
  rw [show standsB r h t = neL (minus r.2.1 t) by
      unfold standsB
      rw [e', e2', e3']
      rfl] at z
  exact z
end
end Rw
namespace Rw
open PySem PySem.Spec PyProof.Rows L2
/-! ### the order of worlds -/
theorem ltW_nil (a : W) : PySem.W.dataLt (wd a) (wd []) = false := by
  cases a with
  | nil => rw [PySem.W.dataLt]; exact lex_irrefl _
  | cons x a =>
    unfold wd
    rw [PySem.W.dataLt_tuple, List.map_cons, PySem.W.toks_all_cons]
    rfl
theorem ltW_same (x : Str) (a b : W) : PySem.W.dataLt (wd (x :: b)) (wd (x :: a)) = PySem.W.dataLt (wd b) (wd a) := by
  unfold wd
  rw [PySem.W.dataLt_tuple, PySem.W.dataLt_tuple, List.map_cons, List.map_cons, PySem.W.dataLt_cons (by rfl), if_pos]
  rw [PyData.eqv]
  exact decide_eq_true rfl
theorem ltW_less {x y : Str} (h : x.cps.toList < y.cps.toList) (a b : W) : PySem.W.dataLt (wd (y :: b)) (wd (x :: a)) = false := by
  unfold wd
  rw [PySem.W.dataLt_tuple, List.map_cons, List.map_cons, PySem.W.dataLt_cons (by rfl), if_neg, PySem.W.dataLt_str]
  · exact decide_eq_false fun z => List.lt_asymm h z
  · rw [PyData.eqv]
    intro z
    have e : y = x := of_decide_eq_true z
    rw [e] at h
    exact List.lt_irrefl _ h
theorem every_tail : ∀ {own t : W}, t ∈ (everyW own).tail → t ≠ []
  | [], t, h => nomatch h
  | x :: own, t, h => by
    have h : t ∈ (everyW own).map (fun t => x :: t) ++ (everyW own).tail := h
    rcases List.mem_append.mp h with h | h
    · obtain ⟨s, _, rfl⟩ := List.mem_map.mp h
      exact List.cons_ne_nil _ _
    · exact every_tail h
theorem every_rising : ∀ {own : W}, UpX own → Rising ((everyW own).map wd)
  | [], _ => List.pairwise_singleton _ _
  | x :: own, h => by
    obtain ⟨h1, h2⟩ := List.pairwise_cons.mp h
    have ih := every_rising h2
    unfold everyW
    rw [List.map_cons, List.map_append]
    refine List.pairwise_cons.mpr ⟨fun d hd => ?_, List.pairwise_append.mpr ⟨?_, ?_, fun d hd e he => ?_⟩⟩
    · have : ∃ t, d = wd t := by
        rcases List.mem_append.mp hd with hd | hd <;> obtain ⟨t, _, rfl⟩ := List.mem_map.mp hd <;> exact ⟨t, rfl⟩
      obtain ⟨t, rfl⟩ := this
      show (!PySem.W.dataLt (wd t) (wd [])) = true
      rw [ltW_nil]
      rfl
    · rw [List.map_map]
      refine List.pairwise_map.mpr ((List.pairwise_map.mp ih).imp fun {a b} z => ?_)
      show (!PySem.W.dataLt (wd (x :: b)) (wd (x :: a))) = true
      rw [ltW_same]
      exact z
    · rw [List.map_tail]
      exact List.Pairwise.sublist (List.tail_sublist _) ih
    · obtain ⟨s, hs, rfl⟩ := List.mem_map.mp hd
      obtain ⟨a, _, rfl⟩ := List.mem_map.mp hs
      obtain ⟨b, hb, rfl⟩ := List.mem_map.mp he
      cases b with
      | nil => exact absurd rfl (every_tail hb)
      | cons y b =>
        have hy : y ∈ own := (mem_every.mp (every_ne hb)).subset List.mem_cons_self
        show (!PySem.W.dataLt (wd (y :: b)) (wd (x :: a))) = true
        rw [ltW_less (h1 y hy)]
        rfl
theorem every_nodup : ∀ {own : W}, own.Nodup → (everyW own).Nodup
  | [], _ => by simp [everyW]
  | x :: own, h => by
    obtain ⟨h1, h2⟩ := List.nodup_cons.mp h
    have ih := every_nodup h2
    unfold everyW
    refine List.nodup_cons.mpr ⟨fun z => ?_, List.nodup_append.mpr ⟨?_, List.Sublist.nodup (List.tail_sublist _) ih, fun a ha b hb e => ?_⟩⟩
    · rcases List.mem_append.mp z with z | z
      · obtain ⟨s, _, e⟩ := List.mem_map.mp z
        exact absurd e (List.cons_ne_nil _ _)
      · exact every_tail z rfl
    · exact List.Pairwise.map _ (fun a b (hab : a ≠ b) (e : x :: a = x :: b) => hab (List.cons.inj e).2) ih
    · subst e
      obtain ⟨s, _, rfl⟩ := List.mem_map.mp ha
      exact h1 ((mem_every.mp (every_ne hb)).subset List.mem_cons_self)
/-! ### _law_holds, _law_parts -/
theorem scLawHolds : FnScope ["rows", "here", "there", "row"] ["rows", "here", "there"] (defScope sLawHolds) := ⟨rfl, rfl, rfl, by decide +kernel, rfl, by decide +kernel, by decide +kernel⟩
theorem scLawParts : FnScope ["names", "found", "x", "part"] ["names"] (defScope sLawParts) := ⟨rfl, rfl, rfl, by decide +kernel, rfl, by decide +kernel, by decide +kernel⟩
def holdsB (S : List Rl) (h t : W) : Bool := S.all fun r => standsB r t t && standsB r h t
theorem shaped_rds {S : List Rl} (h : ∀ r ∈ S, IsR r) : SeqAt.shaped (.list (S.map rd)) = true := by
  have all : ∀ {S : List Rl}, (∀ r ∈ S, IsR r) → PyData.canLayAll0 (S.map rd) = true ∧ PyData.depthAll (S.map rd) ≤ 2 := by
    intro S
    induction S with
    | nil => intro _; exact ⟨rfl, Nat.zero_le _⟩
    | cons r S ih =>
      intro h
      obtain ⟨h1, h2⟩ := List.forall_mem_cons.mp h
      obtain ⟨i1, i2⟩ := ih h2
      have d := depth_rd r
      refine ⟨?_, ?_⟩
      · rw [List.map_cons, PyData.canLayAll0, lay_rd h1, i1]
        rfl
      · rw [List.map_cons, PyData.depthAll]
        omega
  obtain ⟨i1, i2⟩ := all h
  refine shaped_of ?_ ?_
  · rw [PyData.canLay0]
    exact i1
  · rw [PyData.depth]
    omega
theorem eqv_nilR (S : List Rl) : PyData.eqv (.list (S.map rd)) (.list []) = decide (S = []) := by
  cases S with
  | nil => decide +kernel
  | cons z zs => rfl
section
variable {P : Program} {w : World} {K : PySem.W.Frag} {mg : Str → Option Value} {base : Heap} {f : Addr} {fd : FuncData} {k : Nat}
def spLawHolds (K : PySem.W.Frag) : Sp := fun vs H Q _ => ∃ (l : Addr) (y z : V) (S : List Rl) (h t : W), vs = [.ref l, y, z] ∧ RL K H l S ∧ (∀ r ∈ S, IsR r) ∧ S.length ≤ 100 ∧ Dp K H y (wd h) ∧ Dp K H z (wd t) ∧ ∀ H', Same H H' → Q (.bl (holdsB S h t)) H'
theorem ok_lawHolds {f1 : Addr} {fd1 : FuncData} (F : Fun K "_law_holds" "_law_holds" sLawHolds f fd) (G1 : FnOk P w K mg base CX0 k f1 fd1 ["row", "here", "there"] (spLawStands K)) (b1 : Binds K fd1 ["row", "here", "there"] []) (k1 : PySem.W.keepIn K (.ref f1) = true) (m1 : mg "_law_stands" = some (.ref f1)) : FnOk P w K mg base CX0 (k + 1) f fd ["rows", "here", "there"] (spLawHolds K) := by
  refine F.ok scLawHolds (fun vs H Q E h => ?_) (fun cdv A outer s H vs Q E hr h => ?_)
  · obtain ⟨l, y, z, S, h, t, rfl, _⟩ := h
    rfl
  obtain ⟨l, y, z, S, h, t, rfl, hL, hI, few, hy, hz, q⟩ := h
  obtain ⟨ys, hl, hys⟩ := id hL
  refine ⟨_, pss_one (ps_ret (pe_cmpR (op_eqD hr.units) (pe_lc (own := [("row", 3)]) (g := gName 3) (by rfl) scLawHolds.nd (pi_list (pv 0)) (blkOk_by (N := ["rows", "here", "there", "row"]) (sc := defScope sLawHolds) (by decide +kernel))
    (fun _ _ _ _ _ => pg_name (i := 3) scLawHolds.nd rfl (Or.inl rfl)) (fun _ _ _ _ _ => pts_one (PW.pt (pw_or (pt_not (pt_val (pe_call G1 hr (by rfl) m1 k1 b1 .nil pass0 (pa_cons (pv 3) (pa_cons (pv 2) (pa_cons (pv 2) pa_nil)))))) (pw_or1 (pt_not (pt_val (pe_call G1 hr (by rfl) m1 k1 b1 .nil pass0 (pa_cons (pv 3) (pa_cons (pv 1) (pa_cons (pv 2) pa_nil)))))))))) (fun _ _ _ _ _ => pv 3)) (pe_lst pa_nil) (nomark _))), ?_⟩
  have yl : ys.length = S.length := by rw [dpAll_len hys, List.length_map]
  let p : Rl → Bool := fun r => !standsB r t t || !standsB r h t
  refine ⟨.ref l, rfl, l, rfl, ⟨_, SqL.of hl⟩, fun D hD => ?_⟩
  refine lc_list (xs := ys) (fun i H1 => Same H H1 ∧ RL K H1 D ((S.take i).filter p)) ⟨same_new hD _, [], upd_same, .nil⟩ (fun i H1 _ hI => SqL.of (hI.1 _ _ hl)) (fun i x H1 hx hI => ?_) (fun H1 hI => ?_)
  · obtain ⟨sm, zs, hd, hzs⟩ := hI
    obtain ⟨dd, hdd, hxd⟩ := dpAll_at' hys hx
    obtain ⟨r, hr0, rfl⟩ := map_at hdd
    have hr' := hI r (List.mem_of_getElem? hr0)
    have hx1 := dp_same sm _ _ hxd
    have fin : ∀ H2, Same H1 H2 → p r = true → ∃ acc, H2 D = some (.lst acc) ∧ acc.length < sizeLine ∧ Same H (upd H2 D (.lst (acc ++ [x]))) ∧ RL K (upd H2 D (.lst (acc ++ [x]))) D ((S.take (i + 1)).filter p) := fun H2 s2 e => by
      have hd2 := s2 _ _ hd
      have m2 : Mut (H2 D) := by
        rw [hd2]
        exact True.intro
      have st := Stay.put m2 (.lst (zs ++ [x]))
      refine ⟨zs, hd2, small_line' ?_, same_put (sm.trans s2) hD, zs ++ [x], upd_same, ?_⟩
      · rw [dpAll_len hzs, List.length_map]
        have := List.length_filter_le p (S.take i)
        rw [List.length_take] at this
        omega
      · rw [filt_take hr0, if_pos e, List.map_append]
        exact dpAll_app (((Stay.same s2).trans st).dpAll _ _ (okDs_rd _) hzs) (.cons (((Stay.same s2).trans st).rd hx1) .nil)
    refine ⟨rfl, x, rfl, z, rfl, z, rfl, x, z, z, r, t, t, rfl, hx1, hr', (Stay.same sm).wd hz, (Stay.same sm).wd hz, fun H2 s2 => ⟨_, rfl, ite2 (fun e => ?_) (fun e => ?_)⟩⟩
    · exact iteT ⟨x, rfl, fin H2 s2 (by show (!standsB r t t || !standsB r h t) = true; rw [e]; rfl)⟩
    have e' : (!standsB r t t) = false := Bool.eq_false_iff.mpr e
    have sm2 := sm.trans s2
    refine ⟨x, rfl, y, rfl, z, rfl, x, y, z, r, h, t, rfl, dp_same s2 _ _ hx1, hr', (Stay.same sm2).wd hy, (Stay.same sm2).wd hz, fun H3 s3 => ⟨_, rfl, ?_⟩⟩
    have pe : p r = !standsB r h t := by
      show (!standsB r t t || !standsB r h t) = _
      rw [e', Bool.false_or]
    cases e3 : standsB r h t with
    | false => exact iteT ⟨x, rfl, fin H3 (s2.trans s3) (by rw [pe, e3]; rfl)⟩
    | true =>
      refine iteF ⟨sm2.trans s3, ?_⟩
      rw [filt_take hr0, if_neg (by rw [pe, e3]; exact Bool.false_ne_true), List.append_nil]
      exact RL.same ⟨zs, hd, hzs⟩ (s2.trans s3)
  · obtain ⟨sm, zs, hd, hzs⟩ := hI
    rw [yl, List.take_length] at hzs
    refine ⟨by show 0 ≤ sizeLine; decide, fun e he => ?_⟩
    have s2 := same_new he (.lst [])
    refine ⟨.list ((S.filter p).map rd), .list [], .lst (SqL.of (s2 _ _ hd)) ((Stay.same s2).dpAll _ _ (okDs_rd _) hzs), .lst (SqL.of upd_same) .nil, shaped_rds fun r hr => hI r (List.mem_filter.mp hr).1, by decide, ?_⟩
    rw [eqv_nilR]
    have ep : decide (S.filter p = []) = holdsB S h t := by
      unfold holdsB
      rw [Bool.eq_iff_iff, decide_eq_true_iff, List.filter_eq_nil_iff, List.all_eq_true]
      refine ⟨fun z r hr => ?_, fun z r hr => ?_⟩
      · have := z r hr
        show (standsB r t t && standsB r h t) = true
        have e : ¬ (!standsB r t t || !standsB r h t) = true := this
        revert e
        cases standsB r t t <;> cases standsB r h t <;> simp
      · have e : (standsB r t t && standsB r h t) = true := z r hr
        show ¬ (!standsB r t t || !standsB r h t) = true
        revert e
        cases standsB r t t <;> cases standsB r h t <;> simp
    rw [ep]
    exact q _ (sm.trans s2)
def spLawParts (K : PySem.W.Frag) : Sp := fun vs H Q _ => ∃ (x : V) (ns : W), vs = [x] ∧ Dp K H x (wd ns) ∧ ns.length ≤ 5 ∧ IsW ns ∧ ∀ H' p, Same H H' → H p = none → WLs K H' p (everyW ns) → Q (.ref p) H'
theorem ok_lawParts (F : Fun K "_law_parts" "_law_parts" sLawParts f fd) (T : Bl mg) : FnOk P w K mg base CX0 (k + 1) f fd ["names"] (spLawParts K) := by
  refine F.ok scLawParts (fun vs H Q E h => ?_) (fun cdv A outer s H vs Q E hr h => ?_)
  · obtain ⟨x, ns, rfl, _⟩ := h
    rfl
  obtain ⟨x, ns, rfl, hx, few, hns, q⟩ := h
  obtain ⟨a, rfl, hS⟩ := of_wd hx
  refine ⟨_, pss_cons (ps_set (i := 1) scLawParts.nd rfl (.inl rfl) (pe_lst (pa_cons (pe_tup pa_nil) pa_nil)))
    (pss_cons (ps_for PassesOwn.never rfl (pi_tup (pv 0)) (pg_name (i := 2) scLawParts.nd rfl (.inr rfl))
      (pss_one (ps_set (i := 1) scLawParts.nd rfl (.inl rfl) (pe_op op_cat (pv 1) (pe_lc (own := [("part", 3)]) (g := gName 3) (te := tOp (rCatA K) (tVar 3) (tTup (tCons (tVar 2) tNil))) (by rfl) scLawParts.nd (pi_list (pv 1)) (blkOk_by (N := ["names", "found", "x", "part"]) (sc := defScope sLawParts) (by decide +kernel))
        (fun _ _ _ _ _ => pg_name (i := 3) scLawParts.nd rfl (Or.inl rfl)) (fun _ _ _ _ _ => pts_nil) (fun _ _ _ _ _ => pe_op op_catA (pv 3) (pe_tup (pa_cons (pv 2) pa_nil))))))))
    (pss_one (ps_ret (pe_callB (cr_sortL hr.units) (by rfl) T.sorted (by decide +kernel) (pa_cons (pv 1) pa_nil))))), ?_⟩
  refine ⟨by show 0 ≤ sizeLine; decide, fun t0 ht0 => ⟨by show 1 ≤ sizeLine; decide, fun l0 hl0 => ?_⟩⟩
  have s0 : Same H (upd (upd H t0 (.tup [])) l0 (.lst [.ref t0])) := (same_new ht0 _).trans (same_new hl0 _)
  refine ⟨.ref a, rfl, a, rfl, ⟨_, same_tup s0 hS⟩, for_tup (xs := ns.map V.str) (fun i σ H1 => ∃ l y2 y3, σ = [some (.ref a), some (.ref l), y2, y3] ∧ Same H H1 ∧ ∃ ys, H1 l = some (.lst ys) ∧ DpAll K H1 ys ((subs (ns.take i)).map wd))
    ⟨l0, none, none, rfl, s0, _, upd_same, ?_⟩ (fun i σ H1 _ hI => by obtain ⟨_, _, _, _, sm, _⟩ := hI; exact same_tup sm hS) (fun i x σ H1 hxi hI => ?_) (fun σ H1 hI => ?_)⟩
  · refine .cons (.tup (SqT.of (xs := []) ?_) .nil) .nil
    exact (same_new hl0 _) _ _ upd_same
  · obtain ⟨l, y2, y3, rfl, sm, ys, hl, hys⟩ := hI
    obtain ⟨z, hz, rfl⟩ := map_at hxi
    have il : i < ns.length := (List.getElem?_eq_some_iff.mp hz).1
    have yl : ys.length = (subs (ns.take i)).length := by rw [dpAll_len hys, List.length_map]
    have yl' : ys.length ≤ 32 := by
      rw [yl, subs_len, List.length_take]
      exact Nat.le_trans (Nat.pow_le_pow_right (by decide) (show min i ns.length ≤ 5 by omega)) (by decide)
    refine ⟨.ref l, rfl, .ref l, rfl, l, rfl, ⟨_, SqL.of hl⟩, fun D hD => ?_⟩
    refine lc_list (xs := ys) (fun j H2 => Same H1 H2 ∧ ∃ zs, H2 D = some (.lst zs) ∧ DpAll K H2 zs ((((subs (ns.take i)).take j).map fun t => t ++ [z]).map wd)) ⟨same_new hD _, [], upd_same, by rw [List.take_zero]; exact .nil⟩ (fun j H2 _ hI => SqL.of (hI.1 _ _ hl)) (fun j u H2 hu hI => ?_) (fun H2 hI => ?_)
    · obtain ⟨sm2, zs, hdz, hzs⟩ := hI
      obtain ⟨du, hdu, hud⟩ := dpAll_at' hys hu
      obtain ⟨t, ht, rfl⟩ := map_at hdu
      obtain ⟨c, rfl, hc⟩ := of_wd ((Stay.same sm2).wd hud)
      have jl : j < (subs (ns.take i)).length := (List.getElem?_eq_some_iff.mp ht).1
      have fin : ∀ v H4, Same H2 H4 → SqT K H4 v ((t ++ [z]).map V.str) → ∃ acc, H4 D = some (.lst acc) ∧ acc.length < sizeLine ∧ (Same H1 (upd H4 D (.lst (acc ++ [.ref v]))) ∧ ∃ zs, (upd H4 D (.lst (acc ++ [.ref v]))) D = some (.lst zs) ∧ DpAll K (upd H4 D (.lst (acc ++ [.ref v]))) zs ((((subs (ns.take i)).take (j + 1)).map fun t => t ++ [z]).map wd)) := by
        intro v H4 s4 hv
        have hd4 := s4 _ _ hdz
        have st : Stay H4 (upd H4 D (.lst (zs ++ [.ref v]))) := .put (by rw [hd4]; exact True.intro) _
        refine ⟨zs, hd4, small_line' ?_, same_put (sm2.trans s4) hD, _, upd_same, ?_⟩
        · rw [dpAll_len hzs, List.length_map, List.length_map, List.length_take]
          omega
        · rw [take_snoc ht, List.map_append, List.map_append]
          exact dpAll_app (((Stay.same s4).trans st).dpAll _ _ (okDs_wds _) hzs) (.cons (st.wd (to_wd hv)) .nil)
      refine ⟨rfl, .ref c, rfl, .str z, rfl, by show 1 ≤ sizeLine; decide, fun e he => ?_⟩
      have se := same_new he (.tup [.str z])
      refine ⟨c, e, t.map V.str, [.str z], rfl, rfl, same_tup se hc, SqT.of upd_same, ?_, fun e0 => ?_, fun _ e1 => (nomatch e1), fun _ _ p hp => ?_⟩
      · have tl : t.length ≤ 5 := Nat.le_trans (mem_subs.mp (List.mem_of_getElem? ht)).length_le (by rw [List.length_take]; omega)
        rw [List.length_map]
        exact small_line (by show t.length + 1 ≤ 10000; omega)
      · have t0 : t = [] := List.map_eq_nil_iff.mp e0
        subst t0
        exact fin e _ se (SqT.of upd_same)
      · refine fin p _ (se.trans (same_new hp _)) (SqT.of ?_)
        rw [List.map_append]
        exact upd_same
    · obtain ⟨sm2, zs, hdz, hzs⟩ := hI
      rw [yl, List.take_length] at hzs
      have hl2 := sm2 _ _ hl
      have zl : zs.length = (subs (ns.take i)).length := by rw [dpAll_len hzs, List.length_map, List.length_map]
      refine ⟨l, D, ys, zs, rfl, rfl, hl2, hdz, small_line (by omega), fun p hp => ?_⟩
      have sp := same_new hp (.lst (ys ++ zs))
      refine ⟨p, _, _, rfl, sm.trans (sm2.trans sp), _, upd_same, ?_⟩
      rw [take_snoc hz, subs_snoc, List.map_append]
      exact dpAll_app ((Stay.same (sm2.trans sp)).dpAll _ _ (okDs_wds _) hys) ((Stay.same sp).dpAll _ _ (okDs_wds _) hzs)
  · obtain ⟨l, y2, y3, rfl, sm, ys, hl, hys⟩ := hI
    rw [List.length_map, List.take_length] at hys
    refine ⟨.ref l, rfl, l, ys, (subs ns).map wd, rfl, SqL.of hl, hys, (fun d hd => by obtain ⟨t, _, rfl⟩ := List.mem_map.mp hd; exact good_wd t), ?_, fun zs es p perm ris hzs hp => ?_⟩
    · intro d hd d' hd'
      obtain ⟨t, _, rfl⟩ := List.mem_map.mp hd
      obtain ⟨t', _, rfl⟩ := List.mem_map.mp hd'
      exact alike_wd t t'
    · obtain ⟨S, rfl⟩ := all_wd (ds := es) fun d hd => by
        obtain ⟨t, _, rfl⟩ := List.mem_map.mp (perm.mem_iff.mp hd)
        exact ⟨t, rfl⟩
      have sp := same_new hp (.lst zs)
      have pm : S.Perm (subs ns) := perm_of_map (fun _ _ e => wd_inj e) perm
      have nodS : S.Nodup := pm.nodup_iff.mpr (subs_nodup (upX_nodup hns.up))
      have eS : S = everyW ns := worlds_one ris (every_rising hns.up) nodS (every_nodup (upX_nodup hns.up)) fun t => by rw [pm.mem_iff, mem_subs, mem_every]
      subst eS
      exact q _ p (sm.trans sp) (none_back sm hp) ⟨zs, upd_same, (Stay.same sp).dpAll _ _ (okDs_wds _) hzs⟩
end
end Rw
namespace Rw
open PySem PySem.Spec PyProof.Rows L2
/-! ### _law_pairs -/
abbrev nLawPairs : List Str := ["rows", "names", "found", "there", "here"]
theorem scLawPairs : FnScope nLawPairs ["rows", "names"] (defScope sLawPairs) := ⟨rfl, rfl, rfl, by decide +kernel, rfl, by decide +kernel, by decide +kernel⟩
theorem to_pd {K : PySem.W.Frag} {H : Hp} {a : Addr} {y z : V} {p : Pr} (h : SqT K H a [y, z]) (h1 : Dp K H y (wd p.1)) (h2 : Dp K H z (wd p.2)) : Dp K H (.ref a) (pd p) := .tup h (.cons h1 (.cons h2 .nil))
theorem of_pd {K : PySem.W.Frag} {H : Hp} {x : V} {p : Pr} (h : Dp K H x (pd p)) : ∃ a y z, x = .ref a ∧ SqT K H a [y, z] ∧ Dp K H y (wd p.1) ∧ Dp K H z (wd p.2) := by
  unfold pd at h
  cases h with
  | @tup a xs _ hT hxs =>
    cases hxs with
    | cons h1 t =>
      cases t with
      | cons h2 t =>
        cases t
        exact ⟨a, _, _, rfl, hT, h1, h2⟩
def PLs (K : PySem.W.Frag) (H : Hp) (l : Addr) (R : List Pr) : Prop := ∃ ys, H l = some (.lst ys) ∧ DpAll K H ys (R.map pd)
theorem okDs_pds (R : List Pr) : okDs (R.map pd) = true := okDs_all fun d hd => by
  obtain ⟨n, _, rfl⟩ := List.mem_map.mp hd
  exact ok_pd n
theorem PLs.same {K : PySem.W.Frag} {H H' : Hp} {l : Addr} {R : List Pr} (h : PLs K H l R) (e : Same H H') : PLs K H' l R := by
  obtain ⟨ys, h1, h2⟩ := h
  exact ⟨ys, e _ _ h1, (Stay.same e).dpAll _ _ (okDs_pds R) h2⟩
def pairsT (S : List Rl) (t : W) : List Pr := if holdsB S t t = true then ((everyW t).filter fun h => holdsB S h t).map fun h => (h, t) else []
def pairsL (S : List Rl) (ts : List W) : List Pr := ts.flatMap (pairsT S)
theorem pairs_take {S : List Rl} {ts : List W} {i : Nat} {t : W} (h : ts[i]? = some t) : pairsL S (ts.take (i + 1)) = pairsL S (ts.take i) ++ pairsT S t := by
  unfold pairsL
  rw [take_snoc h, List.flatMap_append, List.flatMap_cons, List.flatMap_nil, List.append_nil]
theorem pairsT_len {S : List Rl} {t : W} (h : t.length ≤ 5) : (pairsT S t).length ≤ 32 := by
  unfold pairsT
  split
  · rw [List.length_map]
    have := List.length_filter_le (fun h => holdsB S h t) (everyW t)
    have e : 2 ^ t.length ≤ 2 ^ 5 := Nat.pow_le_pow_right (by decide) h
    rw [every_len] at this
    omega
  · exact Nat.zero_le _
theorem pairsL_len {S : List Rl} : ∀ {ts : List W}, (∀ t ∈ ts, t.length ≤ 5) → (pairsL S ts).length ≤ 32 * ts.length
  | [], _ => Nat.zero_le _
  | t :: ts, h => by
    have a := pairsT_len (S := S) (h t List.mem_cons_self)
    have b := pairsL_len (S := S) fun x hx => h x (List.mem_cons_of_mem _ hx)
    unfold pairsL at b ⊢
    rw [List.flatMap_cons, List.length_append, List.length_cons]
    omega
theorem mem_pairsT {S : List Rl} {t : W} {q : Pr} : q ∈ pairsT S t ↔ q.2 = t ∧ q.1 ∈ everyW t ∧ holdsB S t t = true ∧ holdsB S q.1 t = true := by
  unfold pairsT
  by_cases e : holdsB S t t = true
  · rw [if_pos e, List.mem_map]
    constructor
    · rintro ⟨h, hh, rfl⟩
      obtain ⟨a, b⟩ := List.mem_filter.mp hh
      exact ⟨rfl, a, e, b⟩
    · rintro ⟨a, b, _, c⟩
      obtain ⟨q1, q2⟩ := q
      subst a
      exact ⟨q1, List.mem_filter.mpr ⟨b, c⟩, rfl⟩
  · rw [if_neg e]
    exact ⟨(fun z => nomatch z), fun z => absurd z.2.2.1 e⟩
theorem mem_pairsL {S : List Rl} {ts : List W} {q : Pr} : q ∈ pairsL S ts ↔ q.2 ∈ ts ∧ q.1 ∈ everyW q.2 ∧ holdsB S q.2 q.2 = true ∧ holdsB S q.1 q.2 = true := by
  unfold pairsL
  rw [List.mem_flatMap]
  constructor
  · rintro ⟨t, ht, h⟩
    obtain ⟨rfl, h⟩ := mem_pairsT.mp h
    exact ⟨ht, h⟩
  · rintro ⟨ht, h⟩
    exact ⟨q.2, ht, mem_pairsT.mpr ⟨rfl, h⟩⟩
theorem pairsL_nodup {S : List Rl} : ∀ {ts : List W}, (∀ t ∈ ts, t.Nodup) → ts.Nodup → (pairsL S ts).Nodup
  | [], _, _ => List.nodup_nil
  | t :: ts, h, nd => by
    obtain ⟨n1, n2⟩ := List.nodup_cons.mp nd
    have ih := pairsL_nodup (S := S) (fun x hx => h x (List.mem_cons_of_mem _ hx)) n2
    unfold pairsL at ih ⊢
    rw [List.flatMap_cons]
    refine List.nodup_append.mpr ⟨?_, ih, fun a ha b hb e => ?_⟩
    · unfold pairsT
      split
      · exact List.Pairwise.map _ (fun a b (hab : a ≠ b) (e : (a, t) = (b, t)) => hab (Prod.mk.inj e).1) (List.Pairwise.sublist List.filter_sublist (every_nodup (h t List.mem_cons_self)))
      · exact List.nodup_nil
    · subst e
      have e1 := (mem_pairsT.mp ha).1
      have e2 := (mem_pairsL (S := S) (ts := ts)).mp hb
      exact n1 (e1 ▸ e2.1)
theorem all_pd : ∀ {ds : List PyData}, (∀ d ∈ ds, ∃ p, d = pd p) → ∃ R : List Pr, ds = R.map pd
  | [], _ => ⟨[], rfl⟩
  | d :: ds, h => by
    obtain ⟨p, rfl⟩ := h d List.mem_cons_self
    obtain ⟨R, rfl⟩ := all_pd fun e he => h e (List.mem_cons_of_mem _ he)
    exact ⟨p :: R, rfl⟩
section
variable {P : Program} {w : World} {K : PySem.W.Frag} {mg : Str → Option Value} {base : Heap} {f : Addr} {fd : FuncData} {k : Nat}
def spLawPairs (K : PySem.W.Frag) : Sp := fun vs H Q _ => ∃ (l : Addr) (x : V) (S : List Rl) (ns : W), vs = [.ref l, x] ∧ RL K H l S ∧ (∀ r ∈ S, IsR r) ∧ S.length ≤ 100 ∧ Dp K H x (wd ns) ∧ IsW ns ∧ ns.length ≤ 5 ∧
  ∀ H' p R, Same H H' → H p = none → PLs K H' p R → Rising (R.map pd) → R.Perm (pairsL S (everyW ns)) → Q (.ref p) H'
theorem ok_lawPairs {f1 f2 : Addr} {fd1 fd2 : FuncData} (F : Fun K "_law_pairs" "_law_pairs" sLawPairs f fd) (T : Bl mg)
    (G1 : FnOk P w K mg base CX0 k f1 fd1 ["names"] (spLawParts K)) (b1 : Binds K fd1 ["names"] []) (k1 : PySem.W.keepIn K (.ref f1) = true) (m1 : mg "_law_parts" = some (.ref f1))
    (G2 : FnOk P w K mg base CX0 k f2 fd2 ["rows", "here", "there"] (spLawHolds K)) (b2 : Binds K fd2 ["rows", "here", "there"] []) (k2 : PySem.W.keepIn K (.ref f2) = true) (m2 : mg "_law_holds" = some (.ref f2)) : FnOk P w K mg base CX0 (k + 1) f fd ["rows", "names"] (spLawPairs K) := by
  refine F.ok scLawPairs (fun vs H Q E h => ?_) (fun cdv A outer s H vs Q E hr h => ?_)
  · obtain ⟨l, x, S, ns, rfl, _⟩ := h
    rfl
  obtain ⟨l, x, S, ns, rfl, hL, hI, few, hx, hns, n5, q⟩ := h
  refine ⟨_, pss_cons (ps_set (i := 2) scLawPairs.nd rfl (.inl rfl) (pe_lst pa_nil))
    (pss_cons (ps_for PassesOwn.never rfl (pi_list (pe_call G1 hr (by rfl) m1 k1 b1 .nil pass0 (pa_cons (pv 1) pa_nil))) (pg_name (i := 3) scLawPairs.nd rfl (.inr rfl))
      (pss_one (ps_if (pt_val (pe_call G2 hr (by rfl) m2 k2 b2 .nil pass0 (pa_cons (pv 0) (pa_cons (pv 3) (pa_cons (pv 3) pa_nil)))))
        (pss_one (ps_set (i := 2) scLawPairs.nd rfl (.inl rfl) (pe_op op_cat (pv 2) (pe_lc (own := [("here", 4)]) (g := gName 4) (te := tTup (tCons (tVar 4) (tCons (tVar 3) tNil))) (by rfl) scLawPairs.nd (pi_list (pe_call G1 hr (by rfl) m1 k1 b1 .nil pass0 (pa_cons (pv 3) pa_nil))) (blkOk_by (N := nLawPairs) (sc := defScope sLawPairs) (by decide +kernel))
          (fun _ _ _ _ _ => pg_name (i := 4) scLawPairs.nd rfl (Or.inl rfl)) (fun _ _ _ _ _ => pts_one (pt_val (pe_call G2 hr (by rfl) m2 k2 b2 .nil pass0 (pa_cons (pv 0) (pa_cons (pv 4) (pa_cons (pv 3) pa_nil)))))) (fun _ _ _ _ _ => pe_tup (pa_cons (pv 4) (pa_cons (pv 3) pa_nil))))))) pss_nil)))
    (pss_one (ps_ret (pe_callB (cr_sortL hr.units) (by rfl) T.sorted (by decide +kernel) (pa_cons (pv 2) pa_nil))))), ?_⟩
  refine ⟨by show 0 ≤ sizeLine; decide, fun d hd0 => ?_⟩
  have s0 := same_new hd0 (.lst [])
  refine ⟨x, rfl, x, ns, rfl, (Stay.same s0).wd hx, n5, hns, fun H1 e s1 he hW => ?_⟩
  have s01 := s0.trans s1
  obtain ⟨ys, hy, hys⟩ := id hW
  have yl : ys.length = (everyW ns).length := by rw [dpAll_len hys, List.length_map]
  have el : (everyW ns).length ≤ 32 := by
    rw [every_len]
    exact Nat.pow_le_pow_right (n := 2) (by decide) n5
  have sub5 : ∀ t ∈ everyW ns, t.Sublist ns := fun t ht => mem_every.mp ht
  refine ⟨e, rfl, ⟨_, SqL.of hy⟩, ?_⟩
  refine for_list (xs := ys) (fun i σ H2 => (∃ d2 y3, σ = [some (.ref l), some x, some (.ref d2), y3, none] ∧ PLs K H2 d2 (pairsL S ((everyW ns).take i))) ∧ Same H1 H2) ⟨⟨d, _, rfl, [], s1 _ _ upd_same, .nil⟩, fun _ _ e => e⟩ (fun i σ H2 _ hI2 => SqL.of (hI2.2 _ _ hy)) (fun i y σ H2 hyi hI2 => ?_) (fun σ H2 hI2 => ?_)
  · obtain ⟨⟨d2, y3, rfl, hP⟩, sm⟩ := hI2
    obtain ⟨de, hde, hyd⟩ := dpAll_at' hys hyi
    obtain ⟨t, ht, rfl⟩ := map_at hde
    have hyd2 := (Stay.same sm).wd hyd
    have tin := List.mem_of_getElem? ht
    have tsub := sub5 t tin
    have hts : IsW t := isW_sub hns tsub
    have tl := tsub.length_le
    have s12 := s01.trans sm
    have il : i < (everyW ns).length := (List.getElem?_eq_some_iff.mp ht).1
    refine ⟨.ref l, rfl, y, rfl, y, rfl, l, y, y, S, t, t, rfl, hL.same s12, hI, few, hyd2, hyd2, fun H3 s3 => ⟨_, rfl, ite2 (fun e1 => ?_) (fun e1 => ?_)⟩⟩
    · refine ⟨.ref d2, rfl, y, rfl, y, t, rfl, (Stay.same s3).wd hyd2, by omega, hts, fun H4 g s4 hg hW4 => ?_⟩
      obtain ⟨zs, hz, hzs⟩ := id hW4
      have zl : zs.length = (everyW t).length := by rw [dpAll_len hzs, List.length_map]
      have elt : (everyW t).length ≤ 32 := by
        rw [every_len]
        exact Nat.pow_le_pow_right (n := 2) (by decide) (show t.length ≤ 5 by omega)
      have s34 := s3.trans s4
      refine ⟨g, rfl, ⟨_, SqL.of hz⟩, fun D hD => ?_⟩
      refine lc_list (xs := zs) (fun j H5 => Same H4 H5 ∧ PLs K H5 D ((((everyW t).take j).filter fun h => holdsB S h t).map fun h => (h, t))) ⟨same_new hD _, [], upd_same, .nil⟩ (fun j H5 _ h => SqL.of (h.1 _ _ hz)) (fun j u H5 hu h => ?_) (fun H5 h => ?_)
      · obtain ⟨s5, us, hd5, hus⟩ := h
        obtain ⟨df, hdf, hud⟩ := dpAll_at' hzs hu
        obtain ⟨h, hh, rfl⟩ := map_at hdf
        have hud5 := (Stay.same s5).wd hud
        have hyd5 := (Stay.same (s34.trans s5)).wd hyd2
        refine ⟨rfl, .ref l, rfl, u, rfl, y, rfl, l, u, y, S, h, t, rfl, hL.same (s12.trans (s34.trans s5)), hI, few, hud5, hyd5, fun H6 s6 => ⟨_, rfl, ite2 (fun e2 => ?_) (fun e2 => ?_)⟩⟩
        · refine ⟨u, rfl, y, rfl, by show 2 ≤ sizeLine; decide, fun v hv => ?_⟩
          have s7 := same_new hv (.tup [u, y])
          have s67 := s6.trans s7
          have hd7 := s67 _ _ hd5
          have m7 : Mut ((upd H6 v (.tup [u, y])) D) := by
            rw [hd7]
            exact True.intro
          have st := Stay.put m7 (.lst (us ++ [.ref v]))
          refine ⟨us, hd7, small_line' ?_, same_put (s5.trans s67) hD, us ++ [.ref v], upd_same, ?_⟩
          · rw [dpAll_len hus, List.length_map, List.length_map]
            have := List.length_filter_le (fun h => holdsB S h t) ((everyW t).take j)
            rw [List.length_take] at this
            omega
          · rw [filt_take hh, if_pos e2, List.map_append, List.map_append]
            refine dps_app12 (.cons (to_pd (p := (h, t)) (st.seq (SqT.of upd_same)) (((Stay.same s67).trans st).wd hud5) (((Stay.same s67).trans st).wd hyd5)) .nil) (((Stay.same s67).trans st).dpAll _ _ (okDs_pds _) hus)
        · refine ⟨s5.trans s6, ?_⟩
          rw [filt_take hh, if_neg e2, List.append_nil]
          exact PLs.same ⟨us, hd5, hus⟩ s6
      · obtain ⟨s5, us, hd5, hus⟩ := h
        rw [zl, List.take_length] at hus
        obtain ⟨ps, hd2, hps⟩ := hP
        have s35 := s34.trans s5
        have pl : ps.length ≤ 32 * i := by
          rw [dpAll_len hps, List.length_map]
          have := pairsL_len (S := S) (ts := (everyW ns).take i) fun t h => Nat.le_trans (sub5 t (List.mem_of_mem_take h)).length_le n5
          rw [List.length_take] at this
          omega
        have ul : us.length ≤ 32 := by
          rw [dpAll_len hus, List.length_map, List.length_map]
          have := List.length_filter_le (fun h => holdsB S h t) (everyW t)
          omega
        refine ⟨d2, D, ps, us, rfl, rfl, s35 _ _ hd2, hd5, small_line (by omega), fun p hp => ?_⟩
        have s6 := same_new hp (.lst (ps ++ us))
        refine ⟨⟨p, _, rfl, ps ++ us, upd_same, ?_⟩, sm.trans (s35.trans s6)⟩
        rw [pairs_take ht, List.map_append]
        have e3 : pairsT S t = ((everyW t).filter fun h => holdsB S h t).map fun h => (h, t) := by
          unfold pairsT
          rw [if_pos e1]
        rw [e3]
        exact dps_app12 ((Stay.same s6).dpAll _ _ (okDs_pds _) hus) ((Stay.same (s35.trans s6)).dpAll _ _ (okDs_pds _) hps)
    · refine ⟨⟨d2, _, rfl, ?_⟩, sm.trans s3⟩
      rw [pairs_take ht]
      have e3 : pairsT S t = [] := by
        unfold pairsT
        rw [if_neg e1]
      rw [e3, List.append_nil]
      exact hP.same s3
  · obtain ⟨⟨d2, y3, rfl, ps, hd2, hps⟩, sm⟩ := hI2
    rw [yl, List.take_length] at hps
    refine ⟨.ref d2, rfl, d2, ps, (pairsL S (everyW ns)).map pd, rfl, SqL.of hd2, hps, (fun d hd => by obtain ⟨t, _, rfl⟩ := List.mem_map.mp hd; exact good_pd t), ?_, fun zs es p perm ris hzs hp => ?_⟩
    · intro d hd d' hd'
      obtain ⟨t, _, rfl⟩ := List.mem_map.mp hd
      obtain ⟨t', _, rfl⟩ := List.mem_map.mp hd'
      exact alike_pd t t'
    · obtain ⟨R, rfl⟩ := all_pd (ds := es) fun d hd => by
        obtain ⟨t, _, rfl⟩ := List.mem_map.mp (perm.mem_iff.mp hd)
        exact ⟨t, rfl⟩
      have sp := same_new hp (.lst zs)
      have all := s01.trans (sm.trans sp)
      exact q _ p R all (none_back (s01.trans sm) hp) ⟨zs, upd_same, (Stay.same sp).dpAll _ _ (okDs_pds _) hzs⟩ ris (perm_of_map (fun _ _ e => pd_inj e) perm)
end
end Rw
namespace Rw
open PySem PySem.Spec PyProof.Rows L2
/-! ### _law_names -/
theorem scLawNames : FnScope ["rows", "found", "row"] ["rows"] (defScope sLawNames) := ⟨rfl, rfl, rfl, by decide +kernel, rfl, by decide +kernel, by decide +kernel⟩
def rListOf (K : PySem.W.Frag) : List V → Hp → VK → Prop := fun xs H Q => ∃ p ys, xs = [V.ref p] ∧ (SqL K H p ys ∨ SqT K H p ys) ∧ ∀ (l : Addr), H l = none → Q (.ref l) (upd H l (.lst ys))
theorem namesL_take {S : List Rl} {i : Nat} {r : Rl} (h : S[i]? = some r) : namesL (S.take (i + 1)) = namesL (S.take i) ++ ownN r := by
  unfold namesL
  rw [take_snoc h, List.flatMap_append, List.flatMap_cons, List.flatMap_nil, List.append_nil]
theorem ownN_eq (r : Rl) : ownN r = ((r.1 ++ r.2.1) ++ r.2.2.1) ++ r.2.2.2 := by
  unfold ownN parts
  simp [List.flatMap_cons]
theorem ownN_len12 {r : Rl} (h : IsR r) : (ownN r).length ≤ 160 := by
  have h1 := h.h.few
  have h2 := h.d.few
  have h3 := h.n.few
  have h4 := h.b.few
  rw [ownN_eq, List.length_append, List.length_append, List.length_append]
  omega
theorem namesL_len : ∀ {S : List Rl}, (∀ r ∈ S, IsR r) → (namesL S).length ≤ 160 * S.length
  | [], _ => Nat.zero_le _
  | r :: S, h => by
    have a := ownN_len12 (h r List.mem_cons_self)
    have b := namesL_len fun x hx => h x (List.mem_cons_of_mem _ hx)
    unfold namesL at b ⊢
    rw [List.flatMap_cons, List.length_append, List.length_cons]
    omega
theorem ownN_lenB {r : Rl} {bd : W} (h : IsR r) (hb : ∀ z ∈ ownN r, z ∈ bd) : (ownN r).length ≤ 4 * bd.length := by
  have sub : ∀ t ∈ parts r, t.length ≤ bd.length := fun t ht => len_le (upX_nodup (h.all t ht).up) fun z hz => hb z (List.mem_flatMap.mpr ⟨t, ht, hz⟩)
  have h1 := sub r.1 (by unfold parts; simp)
  have h2 := sub r.2.1 (by unfold parts; simp)
  have h3 := sub r.2.2.1 (by unfold parts; simp)
  have h4 := sub r.2.2.2 (by unfold parts; simp)
  rw [ownN_eq, List.length_append, List.length_append, List.length_append]
  omega
theorem namesL_lenB {bd : W} : ∀ {S : List Rl}, (∀ r ∈ S, IsR r) → (∀ z ∈ namesL S, z ∈ bd) → (namesL S).length ≤ 4 * bd.length * S.length
  | [], _, _ => Nat.zero_le _
  | r :: S, h, hb => by
    have e : namesL (r :: S) = ownN r ++ namesL S := by
      unfold namesL
      rw [List.flatMap_cons]
    have a := ownN_lenB (h r List.mem_cons_self) fun z hz => hb z (by rw [e]; exact List.mem_append_left _ hz)
    have b := namesL_lenB (fun x hx => h x (List.mem_cons_of_mem _ hx)) fun z hz => hb z (by rw [e]; exact List.mem_append_right _ hz)
    rw [e, List.length_append, List.length_cons, Nat.mul_succ]
    omega
section
variable {P : Program} {w : World} {K : PySem.W.Frag} {mg : Str → Option Value} {base : Heap} {f : Addr} {fd : FuncData} {k : Nat}
def spLawNames (K : PySem.W.Frag) : Sp := fun vs H Q _ => ∃ (l : Addr) (S : List Rl), vs = [.ref l] ∧ RL K H l S ∧ (∀ r ∈ S, IsR r) ∧ S.length ≤ 40 ∧ (namesL S).length < 1000 ∧
  ∀ (H' : Hp) (t : Addr) (zs : W), Same H H' → SqT K H' t (zs.map V.str) → UpX zs → (∀ z, z ∈ zs ↔ z ∈ namesL S) → Q (.ref t) H'
theorem ok_lawNames (F : Fun K "_law_names" "_law_names" sLawNames f fd) (T : Bl mg) : FnOk P w K mg base CX0 (k + 1) f fd ["rows"] (spLawNames K) := by
  refine F.ok scLawNames (fun vs H Q E h => ?_) (fun cdv A outer s H vs Q E hr h => ?_)
  · obtain ⟨l, S, rfl, _⟩ := h
    rfl
  obtain ⟨l, S, rfl, ⟨ys, hl, hys⟩, hI, few, few2, q⟩ := h
  refine ⟨_, pss_cons (ps_set (i := 1) scLawNames.nd rfl (.inl rfl) (pe_lst pa_nil))
    (pss_cons (ps_for PassesOwn.never rfl (pi_list (pv 0)) (pg_name (i := 2) scLawNames.nd rfl (.inl rfl))
      (pss_one (ps_set (i := 1) scLawNames.nd rfl (.inl rfl) (pe_op op_cat (pv 1) (pe_callTy (T := "list") (r := rListOf K) call_list_of (by rfl) T.list (by decide +kernel) (pa_cons
        (pe_op op_catA (pe_op op_catA (pe_op op_catA (pe_ix ix_tup (pv 2) pe_int (fun _ _ => rfl)) (pe_ix ix_tup (pv 2) pe_int (fun _ _ => rfl))) (pe_ix ix_tup (pv 2) pe_int (fun _ _ => rfl))) (pe_ix ix_tup (pv 2) pe_int (fun _ _ => rfl))) pa_nil))))))
    (pss_one (ps_ret (pe_callTy call_tuple_of (by rfl) T.tuple (by decide +kernel) (pa_cons (pe_callB (cr_sortX rfl hr.units) (by rfl) T.sorted (by decide +kernel) (pa_cons (pe_callTy (cr_setX rfl hr.units) (by rfl) T.set (by decide +kernel) (pa_cons (pv 1) pa_nil)) pa_nil)) pa_nil))))), ?_⟩
  have yl : ys.length = S.length := by rw [dpAll_len hys, List.length_map]
  refine ⟨by show 0 ≤ sizeLine; decide, fun l0 hl0 => ?_⟩
  have s0 := same_new hl0 (.lst [])
  refine ⟨.ref l, rfl, l, rfl, ⟨_, SqL.of (s0 _ _ hl)⟩, for_list (xs := ys) (fun i σ H1 => (∃ l1 y2, σ = [some (.ref l), some (.ref l1), y2] ∧ H1 l1 = some (.lst ((namesL (S.take i)).map V.str))) ∧ Same H H1) ⟨⟨l0, _, rfl, upd_same⟩, s0⟩ (fun i σ H1 _ hI => SqL.of (hI.2 _ _ hl)) (fun i x σ H1 hx hI2 => ?_) (fun σ H1 hI2 => ?_)⟩
  · obtain ⟨⟨l1, y2, rfl, h1⟩, sm⟩ := hI2
    obtain ⟨dd, hdd, hxd⟩ := dpAll_at' hys hx
    obtain ⟨r, hr0, rfl⟩ := map_at hdd
    have hr' := hI r (List.mem_of_getElem? hr0)
    obtain ⟨b, v1, v2, v3, v4, rfl, hT, g1, g2, g3, g4⟩ := of_rd (dp_same sm _ _ hxd)
    obtain ⟨a1, rfl, t1⟩ := of_wd g1
    obtain ⟨a2, rfl, t2⟩ := of_wd g2
    obtain ⟨a3, rfl, t3⟩ := of_wd g3
    obtain ⟨a4, rfl, t4⟩ := of_wd g4
    have n1 := hr'.h.few
    have n2 := hr'.d.few
    have n3 := hr'.n.few
    have n4 := hr'.b.few
    have il : i < S.length := (List.getElem?_eq_some_iff.mp hr0).1
    have nl := namesL_len (S := S.take i) fun r hr => hI r (List.mem_of_mem_take hr)
    rw [List.length_take] at nl
    refine ⟨.ref l1, rfl, .ref b, rfl, b, _, 0, .ref a1, rfl, rfl, hT, rfl, .ref b, rfl, b, _, 1, .ref a2, rfl, rfl, hT, rfl, ?_⟩
    refine catA_w t1 t2 (small_line (by rw [List.length_map, List.length_map]; omega)) fun c2 H2 s2 ht2 => ?_
    refine ⟨.ref b, rfl, b, _, 2, .ref a3, rfl, rfl, same_tup s2 hT, rfl, ?_⟩
    refine catA_w ht2 (same_tup s2 t3) (small_line (by rw [List.length_append, List.length_map, List.length_map, List.length_map]; omega)) fun c3 H3 s3 ht3 => ?_
    have s23 := s2.trans s3
    refine ⟨.ref b, rfl, b, _, 3, .ref a4, rfl, rfl, same_tup s23 hT, rfl, ?_⟩
    refine catA_w ht3 (same_tup s23 t4) (small_line (by rw [List.length_append, List.length_append, List.length_map, List.length_map, List.length_map, List.length_map]; omega)) fun c4 H4 s4 ht4 => ?_
    have s24 := s23.trans s4
    have eo : ((r.1.map V.str ++ r.2.1.map V.str) ++ r.2.2.1.map V.str) ++ r.2.2.2.map V.str = (ownN r).map V.str := by
      rw [ownN_eq, List.map_append, List.map_append, List.map_append]
    rw [eo] at ht4
    refine ⟨c4, _, rfl, .inr ht4, fun l3 hl3 => ?_⟩
    have s5 := same_new hl3 (.lst ((ownN r).map V.str))
    have s25 := s24.trans s5
    have ol := ownN_len12 hr'
    refine ⟨l1, l3, _, _, rfl, rfl, s25 _ _ h1, upd_same, small_line (by rw [List.length_map, List.length_map]; omega), fun p hp => ?_⟩
    refine ⟨⟨p, _, rfl, ?_⟩, sm.trans (s25.trans (same_new hp _))⟩
    rw [upd_same, namesL_take hr0, List.map_append]
  · obtain ⟨⟨l1, y2, rfl, h1⟩, sm⟩ := hI2
    rw [yl, List.take_length] at h1
    have nl := namesL_len hI
    refine ⟨.ref l1, rfl, l1, namesL S, rfl, .inl (SqL.of h1), few2, fun b ms hb nd hm hl' => ?_⟩
    refine ⟨b, ms, rfl, upd_same, by omega, fun zs p hz nz hlz rz hp => ?_⟩
    refine ⟨p, zs.map V.str, rfl, .inl ⟨SqL.of upd_same, fun l2 hl2 => ?_⟩⟩
    exact q _ l2 zs (sm.trans ((same_new hb (XSetO P w b ms)).trans ((same_new hp _).trans (same_new hl2 _)))) (SqT.of upd_same) (upX_of rz nz) fun z => (hz z).trans (hm z)
end
end Rw
namespace Rw
open PySem PySem.Spec PyProof.Rows L2
/-! ### pairs as data -/
theorem Stay.pd {K : PySem.W.Frag} {H H' : Hp} {x : V} {p : Pr} (e : Stay H H') (h : Dp K H x (Rw.pd p)) : Dp K H' x (Rw.pd p) := e.dp _ _ (ok_pd p) h
theorem lay_pds : ∀ {R : List Pr}, (∀ p ∈ R, IsW p.1 ∧ IsW p.2) → PyData.canLayAll0 (R.map pd) = true
  | [], _ => by simp [PyData.canLayAll0]
  | p :: R, h => by
    rw [List.map_cons, PyData.canLayAll0, lay_pds fun y hy => h y (List.mem_cons_of_mem _ hy), lay_pd (h p List.mem_cons_self).1 (h p List.mem_cons_self).2]
    rfl
theorem depth_pds : ∀ R : List Pr, PyData.depthAll (R.map pd) ≤ 2
  | [] => by simp [PyData.depthAll]
  | p :: R => by
    have := depth_pds R
    rw [List.map_cons, PyData.depthAll, depth_pd]
    omega
theorem shaped_pds {R : List Pr} (h : ∀ p ∈ R, IsW p.1 ∧ IsW p.2) : SeqAt.shaped (.list (R.map pd)) = true := by
  unfold SeqAt.shaped
  have := depth_pds R
  rw [PyData.canLay0, lay_pds h, PyData.depth, decide_eq_true (by omega)]
  rfl
theorem eqv_pds : ∀ a b : List Pr, PyData.eqvAll (a.map pd) (b.map pd) = decide (a = b)
  | [], [] => by simp [PyData.eqvAll]
  | [], _ :: _ => by simp [PyData.eqvAll]
  | _ :: _, [] => by simp [PyData.eqvAll]
  | x :: a, y :: b => by
    rw [List.map_cons, List.map_cons, PyData.eqvAll, eqv_pds a b, eqv_pd]
    by_cases h : x = y
    · subst h
      by_cases h2 : a = b <;> simp [h2]
    · simp [h]
theorem lt_pd {a c : W} (h : PySem.W.dataLt (wd c) (wd a) = true) : PySem.W.dataLt (pd (c, c)) (pd (a, a)) = true := by
  unfold pd
  rw [PySem.W.dataLt_pair (alike_wd _ _) (alike_wd _ _), eqv_wd]
  by_cases e : c = a
  · subst e
    rw [PySem.W.dataLt] at h
    rw [lex_irrefl] at h
    exact nomatch h
  · rw [if_neg (by simpa using e)]
    exact h
/-! ### _law_answers -/
abbrev nLawAns : List Str := ["rows", "duos", "found", "here", "there", "pair"]
theorem scLawAnswers : FnScope nLawAns ["rows"] (defScope sLawAnswers) := ⟨rfl, rfl, rfl, by decide +kernel, rfl, by decide +kernel, by decide +kernel⟩
def scAns : Scope := ⟨.function, [(".0", .local), ("here", .cell), ("duos", .cell)], false, false, []⟩
def topsF (R : List Pr) : List W := (R.filter fun p => decide (p.1 = p.2)).map (·.1)
def onlyB (R : List Pr) (h : W) : Bool := decide (R.filter (fun q => decide (q.2 = h)) = [(h, h)])
def ansL (R : List Pr) : List W := (topsF R).filter (onlyB R)
theorem topsF_rising {R : List Pr} (r : Rising (R.map pd)) : Rising ((topsF R).map wd) := by
  have r' : R.Pairwise fun p q => PySem.W.dataLe false id (pd p) (pd q) = true := List.pairwise_map.mp r
  unfold topsF
  refine List.pairwise_map.mpr (List.pairwise_map.mpr ?_)
  refine List.Pairwise.imp_of_mem (fun {p q} hp hq le => ?_) (r'.sublist (List.filter_sublist (p := fun p : Pr => decide (p.1 = p.2))))
  obtain ⟨a, b⟩ := p
  obtain ⟨c, d⟩ := q
  have e1 : a = b := of_decide_eq_true (List.mem_filter.mp hp).2
  have e2 : c = d := of_decide_eq_true (List.mem_filter.mp hq).2
  subst e1
  subst e2
  show (!PySem.W.dataLt (wd c) (wd a)) = true
  have le' : (!PySem.W.dataLt (pd (c, c)) (pd (a, a))) = true := le
  cases h : PySem.W.dataLt (wd c) (wd a) with
  | false => rfl
  | true =>
    rw [lt_pd h] at le'
    exact nomatch le'
theorem topsF_nodup {R : List Pr} (n : R.Nodup) : (topsF R).Nodup := by
  unfold topsF
  have nf := n.sublist (List.filter_sublist (p := fun p : Pr => decide (p.1 = p.2)))
  refine List.Pairwise.map _ (R := fun p q : Pr => p.1 = p.2 ∧ q.1 = q.2 ∧ p ≠ q) (fun p q ⟨h1, h2, h3⟩ e => h3 ?_) ?_
  · exact Prod.ext e (by rw [← h1, ← h2]; exact e)
  · refine List.Pairwise.imp_of_mem (fun {p q} hp hq ne => ?_) nf
    exact ⟨of_decide_eq_true (List.mem_filter.mp hp).2, of_decide_eq_true (List.mem_filter.mp hq).2, ne⟩
theorem mem_topsF {R : List Pr} {h : W} : h ∈ topsF R ↔ (h, h) ∈ R := by
  unfold topsF
  rw [List.mem_map]
  constructor
  · rintro ⟨⟨a, b⟩, hm, rfl⟩
    obtain ⟨h1, h2⟩ := List.mem_filter.mp hm
    have e : a = b := of_decide_eq_true h2
    subst e
    exact h1
  · intro hm
    exact ⟨(h, h), List.mem_filter.mpr ⟨hm, decide_eq_true rfl⟩, rfl⟩
theorem one_of {α : Type} {l : List α} {a : α} (n : l.Nodup) (h : ∀ x, x ∈ l ↔ x = a) : l = [a] := by
  cases l with
  | nil => exact nomatch (h a).mpr rfl
  | cons x l =>
    have e : x = a := (h x).mp List.mem_cons_self
    subst e
    cases l with
    | nil => rfl
    | cons y l =>
      have e2 : y = x := (h y).mp (List.mem_cons_of_mem _ List.mem_cons_self)
      subst e2
      exact absurd List.mem_cons_self (List.nodup_cons.mp n).1
theorem only_iff {R : List Pr} (n : R.Nodup) {h : W} : onlyB R h = true ↔ (h, h) ∈ R ∧ ∀ q ∈ R, q.2 = h → q = (h, h) := by
  unfold onlyB
  rw [decide_eq_true_iff]
  constructor
  · intro e
    have mem : ∀ q, q ∈ R ∧ q.2 = h ↔ q = (h, h) := fun q => by
      have this : q ∈ R.filter (fun q : Pr => decide (q.2 = h)) ↔ q ∈ R ∧ decide (q.2 = h) = true := List.mem_filter
      rw [e, List.mem_singleton, decide_eq_true_iff] at this
      exact this.symm
    exact ⟨((mem (h, h)).mpr rfl).1, fun q hq e => (mem q).mp ⟨hq, e⟩⟩
  · rintro ⟨h1, h2⟩
    refine one_of (n.sublist List.filter_sublist) fun q => ?_
    rw [List.mem_filter, decide_eq_true_iff]
    exact ⟨fun z => h2 q z.1 z.2, fun e => by subst e; exact ⟨h1, rfl⟩⟩
theorem ansL_rising {R : List Pr} (r : Rising (R.map pd)) : Rising ((ansL R).map wd) := by
  have z := List.pairwise_map.mp (topsF_rising r)
  exact List.pairwise_map.mpr (z.sublist List.filter_sublist)
theorem ansL_nodup {R : List Pr} (n : R.Nodup) : (ansL R).Nodup := (topsF_nodup n).sublist List.filter_sublist
theorem mem_ansL {R : List Pr} (n : R.Nodup) {h : W} : h ∈ ansL R ↔ (h, h) ∈ R ∧ ∀ q ∈ R, q.2 = h → q = (h, h) := by
  unfold ansL
  rw [List.mem_filter, mem_topsF, only_iff n]
  exact ⟨fun z => z.2, fun z => ⟨z.1, z⟩⟩
section
variable {P : Program} {w : World} {K : PySem.W.Frag} {mg : Str → Option Value} {base : Heap} {f : Addr} {fd : FuncData} {k : Nat}
def spLawAnswers (K : PySem.W.Frag) : Sp := fun vs H Q _ => ∃ (l : Addr) (S : List Rl) (bd : W), vs = [.ref l] ∧ RL K H l S ∧ (∀ r ∈ S, IsR r) ∧ S.length ≤ 40 ∧ (∀ z ∈ namesL S, z ∈ bd) ∧ bd.length ≤ 5 ∧
  ∀ H' p own R, Same H H' → H p = none → IsW own → (∀ z, z ∈ own ↔ z ∈ namesL S) → WLs K H' p (ansL R) → Rising (R.map pd) → R.Perm (pairsL S (everyW own)) → Q (.ref p) H'
def tInn (K : PySem.W.Frag) : TE := tLc (iList K (tVar 1)) (gName 5) (tTest (tOp (rEqD K) (tOp (rIxT K) (tVar 5) (tC (.int 1))) (tVar 3))) (tVar 5) [5]
def tOne : TE := tLst (tCons (tTup (tCons (tVar 3) (tCons (tVar 3) tNil))) tNil)
theorem ok_lawAnswers {f1 f2 : Addr} {fd1 fd2 : FuncData} (F : Fun K "_law_answers" "_law_answers" sLawAnswers f fd)
    (G1 : FnOk P w K mg base CX0 k f1 fd1 ["rows"] (spLawNames K)) (b1 : Binds K fd1 ["rows"] []) (k1 : PySem.W.keepIn K (.ref f1) = true) (m1 : mg "_law_names" = some (.ref f1))
    (G2 : FnOk P w K mg base CX0 k f2 fd2 ["rows", "names"] (spLawPairs K)) (b2 : Binds K fd2 ["rows", "names"] []) (k2 : PySem.W.keepIn K (.ref f2) = true) (m2 : mg "_law_pairs" = some (.ref f2)) : FnOk P w K mg base CX0 (k + 1) f fd ["rows"] (spLawAnswers K) := by
  refine F.ok scLawAnswers (fun vs H Q E h => ?_) (fun cdv A outer s H vs Q E hr h => ?_)
  · obtain ⟨l, S, bd, rfl, _⟩ := h
    rfl
  obtain ⟨l, S, bd, rfl, hL, hI, few, hbd, lbd, q⟩ := h
  refine ⟨_, pss_cons (ps_set (i := 1) scLawAnswers.nd rfl (.inr rfl) (pe_call G2 hr (by rfl) m2 k2 b2 .nil pass0 (pa_cons (pv 0) (pa_cons (pe_call G1 hr (by rfl) m1 k1 b1 .nil pass0 (pa_cons (pv 0) pa_nil)) pa_nil))))
    (pss_cons (ps_setLc (i := 2) (own := [("here", 3), ("there", 4)]) (g := gTup K 2 (gCons (gName 3) (gCons (gName 4) gNil))) (by rfl) scLawAnswers.nd rfl rfl (sw_true rfl rfl rfl (by decide +kernel)) (pi_list (pv 1)) (blkOk_by (N := nLawAns) (sc := defScope sLawAnswers) (by decide +kernel))
        (fun _ _ _ _ _ => pg_tup (by rfl) (pgs_cons (pg_name (i := 3) scLawAnswers.nd rfl (.inl rfl)) (pgs_cons (pg_name (i := 4) scLawAnswers.nd rfl (.inl rfl)) pgs_nil))) (fun _ _ _ _ _ => pts_one (pt_cmpR (r := rEqD K) (op_eqD hr.units) (pv 3) (pv 4) (nomark _))) (fun _ _ _ _ _ => pv 3))
    (pss_one (ps_ret (pe_lc (own := [("here", 3)]) (g := gName 3) (tt := tTest (tOp (rEqD K) (tInn K) tOne)) (by rfl) scLawAnswers.nd (pi_list (pv 2)) (blkOk_by (N := nLawAns) (sc := defScope sLawAnswers) (by decide +kernel))
        (fun _ _ _ _ _ => pg_name (i := 3) scLawAnswers.nd rfl (Or.inr rfl)) (fun _ _ _ _ _ => pts_one (pt_cmpR (r := rEqD K) (op_eqD hr.units)
          (pe_lc (own := [("pair", 5)]) (wi := iList K (tVar 1)) (g := gName 5) (tt := tTest (tOp (rEqD K) (tOp (rIxT K) (tVar 5) (tC (.int 1))) (tVar 3))) (te := tVar 5) (by rfl) scLawAnswers.nd (pi_list (pv 1)) (blkOk_by (N := nLawAns) (sc := scAns) (by decide +kernel))
            (fun _ _ _ _ _ => pg_name (i := 5) scLawAnswers.nd rfl (Or.inl rfl)) (fun _ _ _ _ _ => pts_one (pt_cmpR (r := rEqD K) (op_eqD hr.units) (pe_ix (r := rIxT K) ix_tup (pv 5) pe_int (fun _ _ => rfl)) (pv 3) (nomark _))) (fun _ _ _ _ _ => pv 5))
          (pe_lst (pa_cons (pe_tup (pa_cons (pv 3) (pa_cons (pv 3) pa_nil))) pa_nil)) (nomark _))) (fun _ _ _ _ _ => pv 3))))), ?_⟩
  have nl := namesL_lenB hI hbd
  have nl2 : 4 * bd.length * S.length ≤ 20 * 40 := Nat.mul_le_mul (by omega) few
  refine ⟨.ref l, rfl, .ref l, rfl, l, S, rfl, hL, hI, few, by omega, fun H1 t own s1 ht hup hmem => ?_⟩
  have nam : ∀ z ∈ namesL S, nameB z = true := fun z hz => by
    obtain ⟨r, hr, hz⟩ := List.mem_flatMap.mp hz
    obtain ⟨p, hp, hz⟩ := List.mem_flatMap.mp hz
    exact ((hI r hr).all p hp).names z hz
  have ol : own.length ≤ bd.length := len_le (upX_nodup hup) fun z hz => hbd z ((hmem z).mp hz)
  have hown : IsW own := ⟨fun z hz => nam z ((hmem z).mp hz), hup, by omega⟩
  refine ⟨l, .ref t, S, own, rfl, hL.same s1, hI, by omega, to_wd ht, hown, by omega, fun H2 p R s2 hp hR ris perm => ?_⟩
  have s12 := s1.trans s2
  obtain ⟨ys, hy, hys⟩ := id hR
  have yl : ys.length = R.length := by rw [dpAll_len hys, List.length_map]
  have el : (everyW own).length ≤ 32 := by
    rw [every_len]
    exact Nat.pow_le_pow_right (n := 2) (by decide) (show own.length ≤ 5 by omega)
  have wown : ∀ t ∈ everyW own, t.Sublist own := fun t h => mem_every.mp h
  have Rl : R.length ≤ 1024 := by
    have := pairsL_len (S := S) (ts := everyW own) fun t h => Nat.le_trans (wown t h).length_le (by omega)
    rw [perm.length_eq]
    omega
  have wR : ∀ q ∈ R, IsW q.1 ∧ IsW q.2 := fun q hq => by
    obtain ⟨a, b, _⟩ := mem_pairsL.mp (perm.mem_iff.mp hq)
    have w2 := isW_sub hown (wown _ a)
    exact ⟨isW_sub w2 (mem_every.mp b), w2⟩
  have topsL : ∀ i, (topsF (R.take i)).length ≤ i := fun i => by
    unfold topsF
    rw [List.length_map]
    have := List.length_filter_le (fun p : Pr => decide (p.1 = p.2)) (R.take i)
    rw [List.length_take] at this
    omega
  refine ⟨.ref p, rfl, p, rfl, ⟨_, SqL.of hy⟩, fun D hD => ?_⟩
  refine lc_list (xs := ys) (fun i H3 => Same H2 H3 ∧ WLs K H3 D (topsF (R.take i))) ⟨same_new hD _, [], upd_same, .nil⟩ (fun i H3 _ h => SqL.of (h.1 _ _ hy)) (fun i x H3 hx h => ?_) (fun H3 h => ?_)
  · obtain ⟨s3, zs, hd, hzs⟩ := h
    obtain ⟨dd, hdd, hxd⟩ := dpAll_at' hys hx
    obtain ⟨q, hq, rfl⟩ := map_at hdd
    obtain ⟨a, y, z, rfl, hP, hy1, hz1⟩ := of_pd ((Stay.same s3).pd hxd)
    obtain ⟨w1, w2⟩ := wR q (List.mem_of_getElem? hq)
    have il : i < R.length := (List.getElem?_eq_some_iff.mp hq).1
    have te : topsF (R.take (i + 1)) = topsF (R.take i) ++ (if decide (q.1 = q.2) = true then [q.1] else []) := by
      unfold topsF
      rw [filt_take hq, List.map_append]
      split <;> rfl
    refine ⟨a, [y, z], rfl, hP, rfl, y, [z], rfl, z, [], rfl, rfl, rfl, y, rfl, z, rfl, wd q.1, wd q.2, hy1, hz1, shaped_wd w1, shaped_wd w2, _, rfl, ?_⟩
    rw [eqv_wd, te]
    refine ite2 (fun e => ?_) (fun e => ?_)
    · have md : Mut (H3 D) := by
        rw [hd]
        exact True.intro
      have st := Stay.put md (.lst (zs ++ [y]))
      have tl := topsL i
      refine ⟨y, rfl, zs, hd, small_line' (by rw [dpAll_len hzs, List.length_map]; omega), same_put s3 hD, zs ++ [y], upd_same, ?_⟩
      rw [if_pos e, List.map_append]
      exact dps_app12 (.cons (st.wd hy1) .nil) (st.dpAll _ _ (okDs_wds _) hzs)
    · refine ⟨s3, ?_⟩
      rw [if_neg e, List.append_nil]
      exact ⟨zs, hd, hzs⟩
  · obtain ⟨s3, zs, hd, hzs⟩ := h
    rw [yl, List.take_length] at hzs
    have zl : zs.length = (topsF R).length := by rw [dpAll_len hzs, List.length_map]
    have tl := topsL R.length
    rw [List.take_length] at tl
    refine ⟨.ref D, rfl, D, rfl, ⟨_, SqL.of hd⟩, fun D2 hD2 => ?_⟩
    refine lc_list (xs := zs) (fun j H4 => Same H3 H4 ∧ WLs K H4 D2 (((topsF R).take j).filter (onlyB R))) ⟨same_new hD2 _, [], upd_same, .nil⟩ (fun j H4 _ h => SqL.of (h.1 _ _ hd)) (fun j x H4 hx h => ?_) (fun H4 h => ?_)
    · obtain ⟨s4, us, hd4, hus⟩ := h
      obtain ⟨dd, hdd, hxd⟩ := dpAll_at' hzs hx
      obtain ⟨h, hh, rfl⟩ := map_at hdd
      have hx4 := (Stay.same s4).wd hxd
      have hwh : IsW h := by
        have := mem_topsF.mp (List.mem_of_getElem? hh)
        exact (wR _ this).1
      have s34 := s3.trans s4
      refine ⟨rfl, .ref p, rfl, p, rfl, ⟨_, SqL.of (s34 _ _ hy)⟩, fun D3 hD3 => ?_⟩
      refine lc_list (xs := ys) (fun i H5 => Same H4 H5 ∧ PLs K H5 D3 ((R.take i).filter fun q => decide (q.2 = h))) ⟨same_new hD3 _, [], upd_same, .nil⟩ (fun i H5 _ g => SqL.of ((s34.trans g.1) _ _ hy)) (fun i v H5 hv g => ?_) (fun H5 g => ?_)
      · obtain ⟨s5, ps, hd5, hps⟩ := g
        obtain ⟨de, hde, hvd⟩ := dpAll_at' hys hv
        obtain ⟨q, hq, rfl⟩ := map_at hde
        have hvd5 := (Stay.same (s34.trans s5)).pd hvd
        obtain ⟨a, y, z, rfl, hP, hy1, hz1⟩ := of_pd hvd5
        obtain ⟨w1, w2⟩ := wR q (List.mem_of_getElem? hq)
        have il : i < R.length := (List.getElem?_eq_some_iff.mp hq).1
        refine ⟨rfl, .ref a, rfl, a, [y, z], 1, z, rfl, rfl, hP, rfl, x, rfl, wd q.2, wd h, hz1, (Stay.same s5).wd hx4, shaped_wd w2, shaped_wd hwh, _, rfl, ?_⟩
        rw [eqv_wd]
        refine ite2 (fun e => ?_) (fun e => ?_)
        · have md : Mut (H5 D3) := by
            rw [hd5]
            exact True.intro
          have st := Stay.put md (.lst (ps ++ [.ref a]))
          refine ⟨.ref a, rfl, ps, hd5, small_line' ?_, same_put s5 hD3, ps ++ [.ref a], upd_same, ?_⟩
          · rw [dpAll_len hps, List.length_map]
            have := List.length_filter_le (fun q : Pr => decide (q.2 = h)) (R.take i)
            rw [List.length_take] at this
            omega
          · rw [filt_take hq, if_pos e, List.map_append]
            exact dps_app12 (.cons (st.pd hvd5) .nil) (st.dpAll _ _ (okDs_pds _) hps)
        · refine ⟨s5, ?_⟩
          rw [filt_take hq, if_neg e, List.append_nil]
          exact ⟨ps, hd5, hps⟩
      · obtain ⟨s5, ps, hd5, hps⟩ := g
        rw [yl, List.take_length] at hps
        refine ⟨x, rfl, x, rfl, by show 2 ≤ sizeLine; decide, fun v hv => ?_⟩
        have s6 := same_new hv (.tup [x, x])
        refine ⟨by show 1 ≤ sizeLine; decide, fun e he => ?_⟩
        have s7 := same_new he (.lst [.ref v])
        have s67 := s6.trans s7
        have hx7 := (Stay.same (s5.trans s67)).wd hx4
        refine ⟨.list ((R.filter fun q => decide (q.2 = h)).map pd), .list ([(h, h)].map pd), .lst (SqL.of (s67 _ _ hd5)) ((Stay.same s67).dpAll _ _ (okDs_pds _) hps), .lst (SqL.of upd_same) (.cons (to_pd (p := (h, h)) (same_tup s7 (SqT.of upd_same)) hx7 hx7) .nil), shaped_pds fun q hq => wR q (List.mem_filter.mp hq).1, shaped_pds fun q hq => by rw [List.mem_singleton.mp hq]; exact ⟨hwh, hwh⟩, ?_⟩
        rw [PyData.eqv, eqv_pds]
        have s57 := s5.trans s67
        have hd7 := s57 _ _ hd4
        refine ⟨_, rfl, ite2 (fun e1 => ?_) (fun e1 => ?_)⟩
        · have md : Mut ((upd (upd H5 v (.tup [x, x])) e (.lst [.ref v])) D2) := by
            rw [hd7]
            exact True.intro
          have st := Stay.put md (.lst (us ++ [x]))
          refine ⟨x, rfl, us, hd7, small_line' ?_, same_put (s4.trans s57) hD2, us ++ [x], upd_same, ?_⟩
          · rw [dpAll_len hus, List.length_map]
            have := List.length_filter_le (onlyB R) ((topsF R).take j)
            rw [List.length_take] at this
            have : j < (topsF R).length := (List.getElem?_eq_some_iff.mp hh).1
            omega
          · rw [filt_take hh, if_pos (show onlyB R h = true from e1), List.map_append]
            exact dps_app12 (.cons (st.wd hx7) .nil) (((Stay.same s57).trans st).dpAll _ _ (okDs_wds _) hus)
        · refine ⟨s4.trans s57, ?_⟩
          rw [filt_take hh, if_neg (show ¬ onlyB R h = true from e1), List.append_nil]
          exact WLs.same ⟨us, hd4, hus⟩ s57
    · obtain ⟨s4, hW⟩ := h
      rw [zl, List.take_length] at hW
      exact q H4 D2 own R (s12.trans (s3.trans s4)) (none_back (s12.trans s3) hD2) hown hmem hW ris perm
end
end Rw
namespace Rw
open PySem PySem.Spec PyProof.Rows L2
/-! ### what the program tells is what the law tells -/
theorem nz_num {own w : W} (h : ∀ x ∈ w, x ∈ own) : nz (num own w) = neL w := by
  unfold nz neL
  have z := @num_zero own w
  cases w with
  | nil =>
    rw [num_nil]
    rfl
  | cons x w =>
    have ne : num own (x :: w) ≠ 0 := fun e => z.mp e x (h x List.mem_cons_self) List.mem_cons_self
    simp [ne]
def NIn (own : W) (r : Rl) : Prop := ∀ t ∈ parts r, ∀ z ∈ t, z ∈ own
theorem num_inn (own a b : W) : Builtin.bitAnd (num own a) (num own b) = num own (innW a b) := num_and own a b
theorem nzM {own a : W} (h : ∀ x ∈ a, x ∈ own) (b : W) : nz (num own (minus a b)) = neL (minus a b) := nz_num fun x hx => h x (List.mem_filter.mp hx).1
theorem nzI {own a : W} (h : ∀ x ∈ a, x ∈ own) (b : W) : nz (num own (innW a b)) = neL (innW a b) := nz_num fun x hx => h x (List.mem_filter.mp hx).1
theorem pass_stands {own : W} {r : Rl} (hr : NIn own r) (h t : W) : passI (numR own r) (num own h) (num own t) = standsB r h t := by
  have p1 : ∀ z ∈ r.1, z ∈ own := hr _ (by unfold parts; simp)
  have p2 : ∀ z ∈ r.2.1, z ∈ own := hr _ (by unfold parts; simp)
  have p3 : ∀ z ∈ r.2.2.1, z ∈ own := hr _ (by unfold parts; simp)
  have p4 : ∀ z ∈ r.2.2.2, z ∈ own := hr _ (by unfold parts; simp)
  show (nz (Builtin.bitAnd (num own r.2.2.1) (Builtin.bitNot (num own h))) || (nz (Builtin.bitAnd (num own r.2.2.2) (num own t)) || (nz (Builtin.bitAnd (num own r.1) (num own h)) || nz (Builtin.bitAnd (num own r.2.1) (Builtin.bitNot (num own t)))))) = _
  rw [num_diff, num_diff, num_inn, num_inn, nzM p3, nzM p2, nzI p4, nzI p1]
  unfold standsB
  simp only [Bool.or_assoc]
theorem agree_stands {own : W} {S : List Rl} (hS : ∀ r ∈ S, NIn own r) (h t : W) : agreeI (S.map (numR own)) (num own h) (num own t) = S.all fun r => standsB r h t := by
  unfold agreeI
  rw [List.all_map, Bool.eq_iff_iff, List.all_eq_true, List.all_eq_true]
  have e : ∀ r ∈ S, ((fun n => passI n (num own h) (num own t)) ∘ numR own) r = standsB r h t := fun r hr => pass_stands (hS r hr) h t
  exact ⟨fun g r hr => (e r hr) ▸ g r hr, fun g r hr => (e r hr).symm ▸ g r hr⟩
theorem neL_iff {zs : W} : neL zs = true ↔ ∃ z, z ∈ zs := by
  unfold neL
  cases zs with
  | nil => simp
  | cons x zs => simp
theorem met_stands {own : W} {S : List Rl} (hS : ∀ r ∈ S, NIn own r) {h t : W} (ht : ∀ z ∈ h, z ∈ t) : allMetI (urgI (S.map (numR own)) (num own t)) (num own h) = true ↔ ∀ r ∈ S, standsB r h t = true := by
  unfold allMetI urgI
  rw [List.all_eq_true]
  have key : ∀ r ∈ S, (urgB (num own t) (numR own r) = true → metI ((numR own r).1, (numR own r).2.2.1) (num own h) = true) ↔ standsB r h t = true := fun r hr => by
    have hr := hS r hr
    have p1 : ∀ z ∈ r.1, z ∈ own := hr _ (by unfold parts; simp)
    have p2 : ∀ z ∈ r.2.1, z ∈ own := hr _ (by unfold parts; simp)
    have p3 : ∀ z ∈ r.2.2.1, z ∈ own := hr _ (by unfold parts; simp)
    have p4 : ∀ z ∈ r.2.2.2, z ∈ own := hr _ (by unfold parts; simp)
    have eu : urgB (num own t) (numR own r) = !(neL (innW r.2.2.2 t) || (neL (minus r.2.1 t) || neL (minus r.2.2.1 t))) := by
      show (!(nz (Builtin.bitAnd (num own r.2.2.2) (num own t)) || (nz (Builtin.bitAnd (num own r.2.1) (Builtin.bitNot (num own t))) || nz (Builtin.bitAnd (num own r.2.2.1) (Builtin.bitNot (num own t)))))) = _
      rw [num_diff, num_diff, num_inn, nzM p3, nzM p2, nzI p4]
    have em : metI ((numR own r).1, (numR own r).2.2.1) (num own h) = (neL (minus r.2.2.1 h) || neL (innW r.1 h)) := by
      show (nz (Builtin.bitAnd (num own r.2.2.1) (Builtin.bitNot (num own h))) || nz (Builtin.bitAnd (num own r.1) (num own h))) = _
      rw [num_diff, num_inn, nzM p3, nzI p1]
    have mono : neL (minus r.2.2.1 t) = true → neL (minus r.2.2.1 h) = true := fun e => by
      obtain ⟨z, hz⟩ := neL_iff.mp e
      obtain ⟨a, b⟩ := List.mem_filter.mp hz
      refine neL_iff.mpr ⟨z, List.mem_filter.mpr ⟨a, ?_⟩⟩
      have b' : z ∉ t := by simpa using b
      simpa using fun q => b' (ht z q)
    rw [eu, em]
    unfold standsB
    revert mono
    cases neL (minus r.2.2.1 t) <;> cases neL (minus r.2.2.1 h) <;> cases neL (innW r.2.2.2 t) <;> cases neL (minus r.2.1 t) <;> cases neL (innW r.1 h) <;> simp
  constructor
  · intro g r hr
    refine (key r hr).mp fun e => ?_
    exact g _ (List.mem_map.mpr ⟨numR own r, List.mem_filter.mpr ⟨List.mem_map.mpr ⟨r, hr, rfl⟩, e⟩, rfl⟩)
  · intro g x hx
    obtain ⟨n, hn, rfl⟩ := List.mem_map.mp hx
    obtain ⟨hn, e⟩ := List.mem_filter.mp hn
    obtain ⟨r, hr, rfl⟩ := List.mem_map.mp hn
    exact (key r hr).mpr (g r hr) e
theorem holds_all {S : List Rl} {h t : W} : holdsB S h t = true ↔ (∀ r ∈ S, standsB r t t = true) ∧ ∀ r ∈ S, standsB r h t = true := by
  unfold holdsB
  rw [List.all_eq_true]
  constructor
  · intro g
    exact ⟨fun r hr => (Bool.and_eq_true_iff.mp (g r hr)).1, fun r hr => (Bool.and_eq_true_iff.mp (g r hr)).2⟩
  · rintro ⟨a, b⟩ r hr
    exact Bool.and_eq_true_iff.mpr ⟨a r hr, b r hr⟩
theorem num_below {own h t : W} (hown : IsW own) (sh : h.Sublist own) (st : t.Sublist own) (sub : ∀ z ∈ h, z ∈ t) (ne : h ≠ t) : num own h < num own t ∧ Builtin.bitAnd (num own h) (num own t) = num own h := by
  have e : h.filter (fun z => decide (z ∈ t)) = h := List.filter_eq_self.mpr fun z hz => decide_eq_true (sub z hz)
  have e2 : Builtin.bitAnd (num own h) (num own t) = num own h := by rw [num_and, e]
  refine ⟨?_, e2⟩
  have z := (and_nn (num_nn own t) (num_nn own h)).2.1
  rw [bitAnd_comm, e2] at z
  have n : num own h ≠ num own t := fun q => ne (upX_one (List.Pairwise.sublist sh hown.up) (List.Pairwise.sublist st hown.up) fun a => ⟨sub a, fun ha => (num_same.mp q a (st.subset ha)).mpr ha⟩)
  omega
theorem fd_iff {S : List Rl} {own t : W} (hown : IsW own) (hS : ∀ r ∈ S, NIn own r) (ht : t ∈ everyW own) : fdB S own t = true ↔ holdsB S t t = true ∧ ∀ h ∈ everyW t, holdsB S h t = true → h = t := by
  have st := mem_every.mp ht
  have f : fdB S own t = true ↔ FoundI (S.map (numR own)) (num own t) := by
    unfold fdB
    exact @decide_eq_true_iff _ (Classical.propDecidable _)
  rw [f]
  unfold FoundI
  rw [agree_stands hS, List.all_eq_true, holds_all]
  constructor
  · rintro ⟨a, b⟩
    refine ⟨⟨a, a⟩, fun h hh g => ?_⟩
    refine Classical.byContradiction fun ne => ?_
    have sh := mem_every.mp hh
    obtain ⟨lt, e⟩ := num_below hown (sh.trans st) st (fun z hz => sh.subset hz) ne
    have z := b _ (num_nn own h) lt e
    have z2 := (met_stands hS (h := h) (t := t) fun z hz => sh.subset hz).mpr (holds_all.mp g).2
    rw [z] at z2
    exact nomatch z2
  · rintro ⟨⟨a, _⟩, b⟩
    refine ⟨a, fun m m0 lt e => ?_⟩
    obtain ⟨h, sh, sub, eh⟩ := num_part (upX_nodup hown.up) m0 e
    subst eh
    cases c : allMetI (urgI (S.map (numR own)) (num own t)) (num own h) with
    | false => rfl
    | true =>
      have g := (met_stands hS sub).mp c
      have hh : h ∈ everyW t := mem_every.mpr (by
        have e : t.filter (fun z => decide (z ∈ h)) = h := upX_one ((List.Pairwise.sublist st hown.up).sublist List.filter_sublist) (List.Pairwise.sublist sh hown.up) fun z => by
          rw [List.mem_filter, decide_eq_true_iff]
          exact ⟨fun q => q.2, fun q => ⟨sub z q, q⟩⟩
        rw [← e]
        exact List.filter_sublist)
      have q := b h hh (holds_all.mpr ⟨a, g⟩)
      subst q
      exact absurd lt (Int.lt_irrefl _)
theorem holds_congr {S L : List Rl} (h : ∀ r, r ∈ S ↔ r ∈ L) (a b : W) : holdsB S a b = holdsB L a b := by
  rw [Bool.eq_iff_iff, holds_all, holds_all]
  exact ⟨fun z => ⟨fun r hr => z.1 r ((h r).mpr hr), fun r hr => z.2 r ((h r).mpr hr)⟩, fun z => ⟨fun r hr => z.1 r ((h r).mp hr), fun r hr => z.2 r ((h r).mp hr)⟩⟩
/-- the law's answers are the program's -/
theorem ans_same {S L : List Rl} {own : W} {R : List Pr} (hown : IsW own) (hS : ∀ r ∈ S, NIn own r) (h : ∀ r, r ∈ S ↔ r ∈ L) (ris : Rising (R.map pd)) (perm : R.Perm (pairsL L (everyW own))) : ansL R = (everyW own).filter (fdB S own) := by
  have nod : R.Nodup := perm.nodup_iff.mpr (pairsL_nodup (fun t ht => (upX_nodup hown.up).sublist (mem_every.mp ht)) (every_nodup (upX_nodup hown.up)))
  refine worlds_one (ansL_rising ris) ?_ (ansL_nodup nod) ((every_nodup (upX_nodup hown.up)).sublist List.filter_sublist) fun w => ?_
  · exact List.pairwise_map.mpr ((List.pairwise_map.mp (every_rising hown.up)).sublist List.filter_sublist)
  · rw [mem_ansL nod, List.mem_filter, perm.mem_iff, mem_pairsL]
    constructor
    · rintro ⟨⟨a, b, c, d⟩, e⟩
      refine ⟨a, (fd_iff hown hS a).mpr ⟨by rw [holds_congr h]; exact c, fun x hx g => ?_⟩⟩
      rw [holds_congr h] at g
      have := e (x, w) (perm.mem_iff.mpr (mem_pairsL.mpr ⟨a, hx, c, g⟩)) rfl
      exact (Prod.mk.inj this).1
    · rintro ⟨a, b⟩
      obtain ⟨c, d⟩ := (fd_iff hown hS a).mp b
      have c' : holdsB L w w = true := by rw [← holds_congr h]; exact c
      refine ⟨⟨a, mem_every.mpr (List.Sublist.refl _), c', c'⟩, fun q hq e => ?_⟩
      obtain ⟨q1, q2⟩ := q
      obtain ⟨a2, b2, c2, d2⟩ := mem_pairsL.mp (perm.mem_iff.mp hq)
      have e : q2 = w := e
      subst e
      rw [d q1 b2 (by rw [holds_congr h]; exact d2)]
theorem nin_of {S : List Rl} {own : W} (m : ∀ z, z ∈ own ↔ z ∈ namesL S) : ∀ r ∈ S, NIn own r := fun r hr t ht z hz => (m z).mpr (List.mem_flatMap.mpr ⟨r, hr, List.mem_flatMap.mpr ⟨t, ht, hz⟩⟩)
theorem namesL_congr {S L : List Rl} (h : ∀ r, r ∈ S ↔ r ∈ L) (z : Str) : z ∈ namesL S ↔ z ∈ namesL L := by
  unfold namesL
  rw [List.mem_flatMap, List.mem_flatMap]
  exact ⟨fun ⟨r, hr, hz⟩ => ⟨r, (h r).mp hr, hz⟩, fun ⟨r, hr, hz⟩ => ⟨r, (h r).mpr hr, hz⟩⟩
end Rw
namespace Rw
open PySem PySem.Spec PyProof.Rows L2
/-! ### answers worked out -/
def ansB (L : List Rl) (t : W) : Bool := holdsB L t t && (everyW t).all fun h => !holdsB L h t || decide (h = t)
theorem fd_comp {S L : List Rl} {own t : W} (hown : IsW own) (hS : ∀ r ∈ S, NIn own r) (h : ∀ r, r ∈ S ↔ r ∈ L) (ht : t ∈ everyW own) : fdB S own t = ansB L t := by
  rw [Bool.eq_iff_iff, fd_iff hown hS ht]
  unfold ansB
  rw [Bool.and_eq_true_iff, List.all_eq_true, holds_congr h]
  refine and_congr_right fun _ => ⟨fun g x hx => ?_, fun g x hx e => ?_⟩
  · cases c : holdsB L x t with
    | false => rfl
    | true =>
      rw [decide_eq_true (g x hx (by rw [holds_congr h]; exact c))]
      rfl
  · have z := g x hx
    rw [holds_congr h] at e
    rw [e] at z
    simpa using z
theorem told_comp {S L : List Rl} {own : W} (hown : IsW own) (hS : ∀ r ∈ S, NIn own r) (h : ∀ r, r ∈ S ↔ r ∈ L) : (everyW own).filter (fdB S own) = (everyW own).filter (ansB L) :=
  List.filter_congr fun t ht => fd_comp hown hS h ht
theorem own_of {S L : List Rl} {own W0 : W} (hown : IsW own) (m : ∀ z, z ∈ own ↔ z ∈ namesL S) (h : ∀ r, r ∈ S ↔ r ∈ L) (h0 : IsW W0) (c : (W0.all fun z => decide (z ∈ namesL L)) = true) (c2 : ((namesL L).all fun z => decide (z ∈ W0)) = true) : own = W0 := by
  refine upX_one hown.up h0.up fun z => ?_
  rw [m, namesL_congr h]
  exact ⟨fun q => of_decide_eq_true (List.all_eq_true.mp c2 z q), fun q => of_decide_eq_true (List.all_eq_true.mp c z q)⟩
def ch (x : Str) : Rl := ([x], [x], [], [])
theorem ch_stands (x : Str) (h t : W) : standsB (ch x) h t = true ↔ x ∈ h ∨ x ∉ t := by
  unfold standsB ch
  by_cases a : x ∈ h <;> by_cases b : x ∈ t <;> simp [neL, minus, innW, a, b]
theorem ch_all {own t : W} (hown : IsW own) (ht : t ∈ everyW own) : ansB (own.map ch) t = true := by
  have st := mem_every.mp ht
  unfold ansB
  rw [Bool.and_eq_true_iff, List.all_eq_true, holds_all]
  refine ⟨⟨fun r hr => ?_, fun r hr => ?_⟩, fun h hh => ?_⟩
  · obtain ⟨x, _, rfl⟩ := List.mem_map.mp hr
    rw [ch_stands]
    exact Classical.em _
  · obtain ⟨x, _, rfl⟩ := List.mem_map.mp hr
    rw [ch_stands]
    exact Classical.em _
  · cases c : holdsB (own.map ch) h t with
    | false => rfl
    | true =>
      have sh := mem_every.mp hh
      have e : h = t := upX_one (List.Pairwise.sublist (sh.trans st) hown.up) (List.Pairwise.sublist st hown.up) fun x => ⟨fun q => sh.subset q, fun q => by
        have z := (holds_all.mp c).2 (ch x) (List.mem_map.mpr ⟨x, st.subset q, rfl⟩)
        rcases (ch_stands x h t).mp z with z | z
        · exact z
        · exact absurd q z⟩
      rw [decide_eq_true e]
      rfl
theorem ch_told {own : W} (hown : IsW own) : (everyW own).filter (ansB (own.map ch)) = everyW own := List.filter_eq_self.mpr fun t ht => ch_all hown ht
def tenW : W := ["a", "b", "c", "d", "e", "f", "g", "h", "i", "j"]
def fiveW : W := ["a", "ab", "b", "c", "d"]
theorem isW_ten : IsW tenW := ⟨by decide +kernel, by unfold tenW UpX; decide +kernel, by decide⟩
theorem isW_five : IsW fiveW := ⟨by decide +kernel, by unfold fiveW UpX; decide +kernel, by decide⟩
def rowLA : Rl := (["a"], [], [], ["b"])
def rowLB : Rl := (["b"], [], [], ["a"])
def rowSA : Rl := (["a"], [], [], ["a"])
theorem isW_aa : IsW ["a"] := isW_one (by decide +kernel)
theorem isW_bb : IsW ["b"] := isW_one (by decide +kernel)
theorem isW_ab : IsW ["a", "b"] := ⟨by decide +kernel, by unfold UpX; decide +kernel, by decide⟩
theorem isR_LA : IsR rowLA := ⟨isW_aa, isW_nil, isW_nil, isW_bb⟩
theorem isR_LB : IsR rowLB := ⟨isW_bb, isW_nil, isW_nil, isW_aa⟩
theorem isR_SA : IsR rowSA := ⟨isW_aa, isW_nil, isW_nil, isW_aa⟩
theorem isR_ch {x : Str} (h : nameB x = true) : IsR (ch x) := ⟨isW_one h, isW_one h, isW_nil, isW_nil⟩
theorem told_loop {S : List Rl} {own : W} (hown : IsW own) (m : ∀ z, z ∈ own ↔ z ∈ namesL S) (h : ∀ r, r ∈ S ↔ r ∈ [rowLA, rowLB]) : (everyW own).filter (fdB S own) = ([["a"], ["b"]] : List W) := by
  rw [told_comp hown (nin_of m) h]
  obtain rfl := own_of hown m h isW_ab (by decide +kernel) (by decide +kernel)
  decide +kernel
theorem told_self {S : List Rl} {own : W} (hown : IsW own) (m : ∀ z, z ∈ own ↔ z ∈ namesL S) (h : ∀ r, r ∈ S ↔ r ∈ [rowSA]) : (everyW own).filter (fdB S own) = [] := by
  rw [told_comp hown (nin_of m) h]
  obtain rfl := own_of hown m h isW_aa (by decide +kernel) (by decide +kernel)
  decide +kernel
theorem told_one {S : List Rl} {own : W} (hown : IsW own) (m : ∀ z, z ∈ own ↔ z ∈ namesL S) (h : ∀ r, r ∈ S ↔ r ∈ [ch "a"]) : (everyW own).filter (fdB S own) = ([[], ["a"]] : List W) := by
  rw [told_comp hown (nin_of m) h]
  obtain rfl := own_of hown m h isW_aa (by decide +kernel) (by decide +kernel)
  decide +kernel
theorem told_none {S : List Rl} {own : W} (hown : IsW own) (m : ∀ z, z ∈ own ↔ z ∈ namesL S) (h : ∀ r, r ∈ S ↔ r ∈ []) : (everyW own).filter (fdB S own) = [[]] := by
  rw [told_comp hown (nin_of m) h]
  obtain rfl := own_of hown m h isW_nil (by decide +kernel) (by decide +kernel)
  decide +kernel
theorem told_ten {S : List Rl} {own : W} (hown : IsW own) (m : ∀ z, z ∈ own ↔ z ∈ namesL S) (h : ∀ r, r ∈ S ↔ r ∈ tenW.map ch) : ((everyW own).filter (fdB S own)).length = 1024 := by
  rw [told_comp hown (nin_of m) h]
  obtain rfl := own_of hown m h isW_ten (by decide +kernel) (by decide +kernel)
  rw [ch_told isW_ten, every_len]
  rfl
/-! ### a world among the answers -/
theorem in_told {S : List Rl} {own w : W} (hown : IsW own) (hw : IsW w) : decide (w ∈ (everyW own).filter (fdB S own)) = (sub w own && fdB S own w) := by
  have e : w ∈ everyW own ↔ sub w own = true := by
    rw [mem_every, ← mem_subs, parts_iff hown]
    exact ⟨fun z => z.2, fun z => ⟨hw, z⟩⟩
  rw [Bool.eq_iff_iff, decide_eq_true_iff, List.mem_filter, Bool.and_eq_true_iff, e]
theorem any_wd (A : List W) (w : W) : ((A.map wd).any fun z => PyData.eqv z (wd w)) = decide (w ∈ A) := by
  rw [Bool.eq_iff_iff, List.any_eq_true, decide_eq_true_iff]
  constructor
  · rintro ⟨d, hd, e⟩
    obtain ⟨v, hv, rfl⟩ := List.mem_map.mp hd
    rw [eqv_wd] at e
    exact (of_decide_eq_true e) ▸ hv
  · intro h
    exact ⟨wd w, List.mem_map.mpr ⟨w, h, rfl⟩, by rw [eqv_wd]; exact decide_eq_true rfl⟩
theorem shaped_wds {A : List W} (h : ∀ t ∈ A, IsW t) : SeqAt.shaped (.list (A.map wd)) = true := by
  refine shaped_of ?_ ?_
  · rw [PyData.canLay0]
    exact lay_wds h
  · rw [PyData.depth]
    have := depthAll_wd A
    omega
theorem eqv_wdsL (A B : List W) : PyData.eqv (.list (A.map wd)) (.list (B.map wd)) = decide (A = B) := by
  rw [PyData.eqv, eqv_wds]
theorem ne_wds {K : PySem.W.Frag} {H : Hp} {l e : Addr} {A B : List W} {Q : VK} (hl : WLs K H l A) (he : WLs K H e B) (hA : ∀ t ∈ A, IsW t) (hB : ∀ t ∈ B, IsW t) (q : Q (.bl (!decide (A = B))) H) : rNeD K (.ref l) (.ref e) H Q := by
  obtain ⟨xs, h1, h2⟩ := hl
  obtain ⟨ys, g1, g2⟩ := he
  refine ⟨.list (A.map wd), .list (B.map wd), .lst (SqL.of h1) h2, .lst (SqL.of g1) g2, shaped_wds hA, shaped_wds hB, ?_⟩
  rw [eqv_wdsL]
  exact q
theorem eq_wds {K : PySem.W.Frag} {H : Hp} {l e : Addr} {A B : List W} {Q : VK} (hl : WLs K H l A) (he : WLs K H e B) (hA : ∀ t ∈ A, IsW t) (hB : ∀ t ∈ B, IsW t) (q : Q (.bl (decide (A = B))) H) : rEqD K (.ref l) (.ref e) H Q := by
  obtain ⟨xs, h1, h2⟩ := hl
  obtain ⟨ys, g1, g2⟩ := he
  refine ⟨.list (A.map wd), .list (B.map wd), .lst (SqL.of h1) h2, .lst (SqL.of g1) g2, shaped_wds hA, shaped_wds hB, ?_⟩
  rw [eqv_wdsL]
  exact q
theorem in_wds {K : PySem.W.Frag} {H : Hp} {x : V} {l : Addr} {w : W} {A : List W} {Q : VK} (hx : Dp K H x (wd w)) (hl : WLs K H l A) (hw : IsW w) (hA : ∀ t ∈ A, IsW t) (q : Q (.bl (decide (w ∈ A))) H) : rInD K x (.ref l) H Q := by
  obtain ⟨xs, h1, h2⟩ := hl
  refine ⟨wd w, A.map wd, hx, .lst (SqL.of h1) h2, shaped_wd hw, shaped_wds hA, ?_⟩
  rw [any_wd]
  exact q
theorem told_isW {S : List Rl} {own : W} (hown : IsW own) : ∀ t ∈ (everyW own).filter (fdB S own), IsW t := fun t ht => isW_sub hown (mem_every.mp (List.mem_filter.mp ht).1)
end Rw
namespace Rw
open PySem PySem.Spec PyProof.Rows L2
/-! ### names, worlds and rules asked of things of any kind -/
section
variable {K : PySem.W.Frag} {H H' : Hp} {x : V}
theorem tyOf_same (e : Same H H') {t : Value} (h : TyOf K H x t) : TyOf K H' x t := by
  cases h with
  | non => exact .non
  | bl b => exact .bl b
  | int i => exact .int i
  | str z => exact .str z
  | flt z => exact .flt z
  | lst h => exact .lst (e _ _ h)
  | frz h => exact .frz (e _ _ h)
  | tup h => exact .tup (e _ _ h)
  | dK h => exact .dK (e _ _ h)
  | dT h => exact .dT (e _ _ h)
  | ins h a b c d f => exact .ins (e _ _ h) a b c d f
theorem tyx_same (e : Same H H') {t : Value} (h : TyX K H x t) : TyX K H' x t := by
  cases h with
  | base h => exact .base (tyOf_same e h)
  | byt b => exact .byt b
  | set e1 => exact .set (e _ _ e1)
  | kList e1 c => exact .kList e1 c
  | kTuple e1 c => exact .kTuple e1 c
  | kDict e1 c => exact .kDict e1 c
  | fTuple e1 => exact .fTuple (e _ _ e1)
  | fDict e1 => exact .fDict (e _ _ e1)
/-- a thing that is of no class T -/
def NotT (K : PySem.W.Frag) (H : Hp) (x : V) (T : String) : Prop := ∃ t, TyX K H x t ∧ PySem.W.kitOne K t (.type T) = some false
theorem NotT.same {T : String} (h : NotT K H x T) (e : Same H H') : NotT K H' x T := let ⟨t, h1, h2⟩ := h; ⟨t, tyx_same e h1, h2⟩
/-- x, and whether it is a name -/
def NmV (K : PySem.W.Frag) (H : Hp) (x : V) (b : Bool) : Prop := (∃ d, Dp K H x d ∧ oddN d ∧ b = nameD d) ∨ (NotT K H x "str" ∧ b = false)
theorem NmV.same {b : Bool} (h : NmV K H x b) (e : Same H H') : NmV K H' x b := h.elim (fun ⟨d, h1, h2, h3⟩ => .inl ⟨d, dp_same e _ _ h1, h2, h3⟩) fun ⟨h1, h2⟩ => .inr ⟨h1.same e, h2⟩
/-- neither tuple nor list -/
def NotTL (K : PySem.W.Frag) (H : Hp) (x : V) : Prop := ∃ t, TyX K H x t ∧ PySem.W.kitOne K t (.type "tuple") = some false ∧ PySem.W.kitOne K t (.type "list") = some false
theorem NotTL.same (h : NotTL K H x) (e : Same H H') : NotTL K H' x := let ⟨t, h1, h2⟩ := h; ⟨t, tyx_same e h1, h2⟩
/-- x, and whether it is a tuple or list of names -/
def ArV (K : PySem.W.Frag) (H : Hp) (x : V) (b : Bool) : Prop := (∃ a xs ds, x = .ref a ∧ (SqT K H a xs ∨ SqL K H a xs) ∧ DpAll K H xs ds ∧ (∀ d ∈ ds, oddN d) ∧ ds.length ≤ 900 ∧ b = ds.all nameD) ∨ (NotTL K H x ∧ b = false)
theorem ArV.same {b : Bool} (h : ArV K H x b) (e : Same H H') : ArV K H' x b :=
  h.elim (fun ⟨a, xs, ds, h1, h2, h3, h4⟩ => .inl ⟨a, xs, ds, h1, h2.elim (fun z => .inl (same_tup e z)) (fun z => .inr (e.seq z)), dpAll_same e _ _ h3, h4⟩) fun ⟨h1, h2⟩ => .inr ⟨h1.same e, h2⟩
/-- x, and whether it is a world -/
def WlV (K : PySem.W.Frag) (H : Hp) (x : V) (b : Bool) : Prop := (∃ d, Dp K H x d ∧ oddW d ∧ b = worldD d) ∨ (NotT K H x "tuple" ∧ b = false)
theorem WlV.same {b : Bool} (h : WlV K H x b) (e : Same H H') : WlV K H' x b := h.elim (fun ⟨d, h1, h2, h3⟩ => .inl ⟨d, dp_same e _ _ h1, h2, h3⟩) fun ⟨h1, h2⟩ => .inr ⟨h1.same e, h2⟩
def WlVs (K : PySem.W.Frag) (H : Hp) : List V → List Bool → Prop
  | [], [] => True
  | x :: xs, b :: bs => WlV K H x b ∧ WlVs K H xs bs
  | _, _ => False
theorem WlVs.same (e : Same H H') : ∀ {xs : List V} {bs : List Bool}, WlVs K H xs bs → WlVs K H' xs bs
  | [], [], _ => True.intro
  | _ :: _, _ :: _, ⟨h, t⟩ => ⟨h.same e, WlVs.same e t⟩
  | [], _ :: _, h => h.elim
  | _ :: _, [], h => h.elim
theorem WlVs.len : ∀ {xs : List V} {bs : List Bool}, WlVs K H xs bs → xs.length = bs.length
  | [], [], _ => rfl
  | _ :: _, _ :: _, ⟨_, t⟩ => by rw [List.length_cons, List.length_cons, WlVs.len t]
  | [], _ :: _, h => h.elim
  | _ :: _, [], h => h.elim
theorem WlVs.at : ∀ {xs : List V} {bs : List Bool} {i : Nat} {x : V}, WlVs K H xs bs → xs[i]? = some x → ∃ b, bs[i]? = some b ∧ WlV K H x b
  | x :: xs, b :: bs, 0, y, ⟨h, _⟩, e => ⟨b, rfl, (show x = y by simpa using e) ▸ h⟩
  | x :: xs, b :: bs, i + 1, y, ⟨_, t⟩, e => by
    obtain ⟨b, h1, h2⟩ := WlVs.at (i := i) t (by simpa using e)
    exact ⟨b, by simpa using h1, h2⟩
  | [], [], _, _, _, e => by simp at e
  | [], _ :: _, _, _, h, _ => h.elim
  | _ :: _, [], _, _, h, _ => h.elim
/-- x, and whether it is a rule -/
def RuV (K : PySem.W.Frag) (H : Hp) (x : V) (b : Bool) : Prop := (∃ a xs bs, x = .ref a ∧ SqT K H a xs ∧ WlVs K H xs bs ∧ bs.length ≤ 100 ∧ b = (decide (bs.length = 4) && bs.all id)) ∨ (NotT K H x "tuple" ∧ b = false)
theorem RuV.same {b : Bool} (h : RuV K H x b) (e : Same H H') : RuV K H' x b := h.elim (fun ⟨a, xs, bs, h1, h2, h3, h4⟩ => .inl ⟨a, xs, bs, h1, same_tup e h2, h3.same e, h4⟩) fun ⟨h1, h2⟩ => .inr ⟨h1.same e, h2⟩
theorem WlV.yes {b : Bool} (h : WlV K H x b) (t : b = true) : ∃ ns, IsW ns ∧ Dp K H x (wd ns) := by
  rcases h with ⟨d, h1, h2, rfl⟩ | ⟨_, rfl⟩
  · obtain ⟨ns, hn, rfl⟩ := worldD_of h2 t
    exact ⟨ns, hn, h1⟩
  · exact nomatch t
theorem len4 {α : Type} {l : List α} (h : l.length = 4) : ∃ a b c d, l = [a, b, c, d] := by
  rcases l with _ | ⟨a, _ | ⟨b, _ | ⟨c, _ | ⟨d, _ | ⟨e, t⟩⟩⟩⟩⟩
  · exact absurd h (by simp)
  · exact absurd h (by simp)
  · exact absurd h (by simp)
  · exact absurd h (by simp)
  · exact ⟨a, b, c, d, rfl⟩
  · exact absurd h (by simp)
theorem RuV.yes {b : Bool} (h : RuV K H x b) (t : b = true) : ∃ r, IsR r ∧ Dp K H x (rd r) := by
  rcases h with ⟨a, xs, bs, rfl, hS, hW, _, rfl⟩ | ⟨_, rfl⟩
  · rw [Bool.and_eq_true] at t
    have l4 := of_decide_eq_true t.1
    obtain ⟨b1, b2, b3, b4, rfl⟩ := len4 l4
    obtain ⟨y1, y2, y3, y4, rfl⟩ := len4 (hW.len.trans l4)
    obtain ⟨w1, w2, w3, w4, _⟩ := hW
    have al := t.2
    simp only [List.all_cons, List.all_nil, Bool.and_true, Bool.and_eq_true, id] at al
    obtain ⟨n1, i1, d1⟩ := w1.yes al.1
    obtain ⟨n2, i2, d2⟩ := w2.yes al.2.1
    obtain ⟨n3, i3, d3⟩ := w3.yes al.2.2.1
    obtain ⟨n4, i4, d4⟩ := w4.yes al.2.2.2
    exact ⟨(n1, n2, n3, n4), ⟨i1, i2, i3, i4⟩, .tup hS (.cons d1 (.cons d2 (.cons d3 (.cons d4 .nil))))⟩
  · exact nomatch t
end
section
variable {P : Program} {w : World} {K : PySem.W.Frag} {mg : Str → Option Value} {base : Heap} {f : Addr} {fd : FuncData} {k : Nat}
def spIsNameN (K : PySem.W.Frag) : Sp := fun vs H Q _ => ∃ x, vs = [x] ∧ NotT K H x "str" ∧ Q (.bl false) H
theorem ok_isNameN (F : Fun K "is_name" "is_name" sIsName f fd) (T : Bl mg) (mL : ∃ t, mg "LETTERS" = some (.str lettersS t)) : FnOk P w K mg base CX0 (k + 1) f fd ["thing"] (spIsNameN K) := by
  refine F.ok scIsName (fun vs H Q E h => let ⟨x, e, _⟩ := h; by rw [e]; rfl) (fun cdv A outer s H vs Q E hr h => ?_)
  obtain ⟨x, rfl, ⟨t, h1, h2⟩, q⟩ := h
  obtain ⟨tl, mL⟩ := mL
  refine ⟨_, pss_cons (ps_if (PW.pt (pw_or (pt_not (pt_val (pe_callB call_isi (by rfl) T.isi PyProof.Rows.boot_isinstance (pa_cons (pv 0) (pa_cons (pe_bltn (v := .ty "str") (by rfl) T.str (by decide +kernel) rfl) pa_nil)))))
      (pw_or1 (pt_cmpR op_eq (pv 0) pe_str (nomark _))))) (pss_one (ps_ret pe_bl)) pss_nil)
    (pss_one (ps_ret (pe_and (pe_chain op_le op_le pe_int (pe_callB call_len_str (by rfl) T.len PySem.boot_len (pa_cons (pv 0) pa_nil)) pe_int)
      (pe_one (pe_callB (cr_all rfl) (by rfl) T.all (by decide +kernel) (pa_cons (pe_lc (own := [("letter", 1)]) (g := gName 1) (by rfl) scIsName.nd (pi_str (pv 0)) (blkOk_by (N := ["thing", "letter"]) (sc := defScope sIsName) (by decide +kernel))
        (fun _ _ _ _ _ => pg_name (i := 1) scIsName.nd rfl (Or.inl rfl)) (fun _ _ _ _ _ => pts_nil) (fun _ _ _ _ _ => pe_cmpR op_in_sign (pv 1) (pe_glob (v := .str lettersS) (by rfl) mL ⟨_, rfl⟩) (by rfl))) pa_nil)))))), ?_⟩
  exact ⟨x, rfl, x, .ty "str", t, .type "str", false, rfl, .ty "str", h1, h2, false, rfl, iteT q⟩
def spIsNameX (K : PySem.W.Frag) : Sp := fun vs H Q _ => ∃ x b, vs = [x] ∧ NmV K H x b ∧ ∀ H', Same H H' → Q (.bl b) H'
theorem ok_isNameX (G : FnOk P w K mg base CX0 k f fd ["thing"] (spIsName K)) (G' : FnOk P w K mg base CX0 k f fd ["thing"] (spIsNameN K)) : FnOk P w K mg base CX0 k f fd ["thing"] (spIsNameX K) := by
  refine (fn_or G G').imp fun vs H Q E h => ?_
  obtain ⟨x, b, rfl, ⟨d, h1, h2, rfl⟩ | ⟨h1, rfl⟩, q⟩ := h
  · exact .inl ⟨x, d, rfl, h1, h2, q⟩
  · exact .inr ⟨x, rfl, h1, q H fun _ _ e => e⟩
/-- _are_names of a list of things -/
def spAreL (K : PySem.W.Frag) : Sp := fun vs H Q _ => ∃ (a : Addr) (xs : List V) (ds : List PyData), vs = [.ref a] ∧ SqL K H a xs ∧ DpAll K H xs ds ∧ (∀ d ∈ ds, oddN d) ∧ ds.length ≤ 1000 ∧ ∀ H', Same H H' → Q (.bl (ds.all nameD)) H'
theorem ok_areL {f1 : Addr} {fd1 : FuncData} (F : Fun K "_are_names" "_are_names" sAreNames f fd) (T : Bl mg) (G : FnOk P w K mg base CX0 k f1 fd1 ["thing"] (spIsName K)) (b1 : Binds K fd1 ["thing"] []) (k1 : PySem.W.keepIn K (.ref f1) = true) (m1 : mg "is_name" = some (.ref f1)) :
    FnOk P w K mg base CX0 (k + 1) f fd ["thing"] (spAreL K) := by
  refine F.ok scAreNames (fun vs H Q E h => let ⟨a, xs, ds, e, _⟩ := h; by rw [e]; rfl) (fun cdv A outer s H vs Q E hr h => ?_)
  obtain ⟨a, xs, ds, rfl, hS, hx, odd, few, q⟩ := h
  have xl := dpAll_len hx
  refine ⟨_, pss_one (ps_ret (pe_and (pe_callB call_isiT (by rfl) T.isi PyProof.Rows.boot_isinstance (pa_cons (pv 0) (pa_cons (pe_tup (pa_cons (pe_bltn (v := .ty "tuple") (by rfl) T.tuple (by decide +kernel) rfl) (pa_cons (pe_bltn (v := .ty "list") (by rfl) T.list (by decide +kernel) rfl) pa_nil))) pa_nil)))
      (pe_one (pe_callB (cr_all rfl) (by rfl) T.all (by decide +kernel) (pa_cons (pe_lc (own := [("item", 1)]) (g := gName 1) (by rfl) scAreNames.nd (pi_list (pv 0)) (blkOk_by (N := ["thing", "item"]) (sc := defScope sAreNames) (by decide +kernel))
        (fun _ _ _ _ _ => pg_name (i := 1) scAreNames.nd rfl (Or.inl rfl)) (fun _ _ _ _ _ => pts_nil) (fun _ _ _ _ _ => pe_call G hr (by rfl) m1 k1 b1 .nil pass0 (pa_cons (pv 1) pa_nil))) pa_nil))))), ?_⟩
  refine ⟨.ref a, rfl, by show 2 ≤ sizeLine; decide, fun T0 hT => ?_⟩
  have s0 : Same H (upd H T0 (.tup [.ty "tuple", .ty "list"])) := same_new hT _
  refine ⟨.ref a, T0, [.ty "tuple", .ty "list"], .type "list", [.type "tuple", .type "list"], true, rfl, upd_same, .cons (.ty _) (.cons (.ty _) .nil), tyx_dp (d := .list ds) (.lst (s0.seq hS) (dpAll_same s0 _ _ hx)), kitAny_cons (b := false) (kit_ty (by decide +kernel)) (fun _ => kitAny_cons (b := true) (kit_ty (by decide +kernel)) (fun z => nomatch z) fun _ => rfl) (fun z => nomatch z), true, rfl, iteT ?_⟩
  generalize upd H T0 (.tup [.ty "tuple", .ty "list"]) = H0 at s0 ⊢
  refine ⟨.ref a, rfl, a, rfl, ⟨_, s0.seq hS⟩, fun D hD => ?_⟩
  refine lc_list (xs := xs) (fun i H1 => Same H0 H1 ∧ H1 D = some (.lst ((ds.take i).map fun d => V.bl (nameD d)))) ⟨same_new hD _, upd_same⟩ (fun i H1 _ hI => (s0.trans hI.1).seq hS) (fun i x H1 hxi hI => ?_) (fun H1 hI => ?_)
  · obtain ⟨sm, hd⟩ := hI
    obtain ⟨d, hdi, hxd⟩ := dpAll_at' hx hxi
    have il : i < ds.length := (List.getElem?_eq_some_iff.mp hdi).1
    refine ⟨rfl, x, rfl, x, d, rfl, dp_same (s0.trans sm) _ _ hxd, odd d (List.mem_of_getElem? hdi), fun H2 sm2 => ⟨_, sm2 _ _ hd, small_line' (by rw [List.length_map, List.length_take]; omega), same_put (sm.trans sm2) hD, ?_⟩⟩
    rw [upd_same, take_snoc hdi, List.map_append]
    rfl
  · obtain ⟨sm, hd⟩ := hI
    rw [xl, List.take_length] at hd
    refine ⟨D, ds.map nameD, rfl, SqL.of (by rw [List.map_map]; exact hd), ?_⟩
    have z : (ds.map nameD).all id = ds.all nameD := by
      rw [List.all_map]
      rfl
    rw [z]
    exact q H1 (s0.trans sm)
def spAreN (K : PySem.W.Frag) : Sp := fun vs H Q _ => ∃ x, vs = [x] ∧ NotTL K H x ∧ ∀ H', Same H H' → Q (.bl false) H'
theorem ok_areN {f1 : Addr} {fd1 : FuncData} (F : Fun K "_are_names" "_are_names" sAreNames f fd) (T : Bl mg) (G : FnOk P w K mg base CX0 k f1 fd1 ["thing"] (spIsName K)) (b1 : Binds K fd1 ["thing"] []) (k1 : PySem.W.keepIn K (.ref f1) = true) (m1 : mg "is_name" = some (.ref f1)) :
    FnOk P w K mg base CX0 (k + 1) f fd ["thing"] (spAreN K) := by
  refine F.ok scAreNames (fun vs H Q E h => let ⟨x, e, _⟩ := h; by rw [e]; rfl) (fun cdv A outer s H vs Q E hr h => ?_)
  obtain ⟨x, rfl, hN, q⟩ := h
  refine ⟨_, pss_one (ps_ret (pe_and (pe_callB call_isiT (by rfl) T.isi PyProof.Rows.boot_isinstance (pa_cons (pv 0) (pa_cons (pe_tup (pa_cons (pe_bltn (v := .ty "tuple") (by rfl) T.tuple (by decide +kernel) rfl) (pa_cons (pe_bltn (v := .ty "list") (by rfl) T.list (by decide +kernel) rfl) pa_nil))) pa_nil)))
      (pe_one (pe_callB (cr_all rfl) (by rfl) T.all (by decide +kernel) (pa_cons (pe_lc (own := [("item", 1)]) (g := gName 1) (by rfl) scAreNames.nd (pi_list (pv 0)) (blkOk_by (N := ["thing", "item"]) (sc := defScope sAreNames) (by decide +kernel))
        (fun _ _ _ _ _ => pg_name (i := 1) scAreNames.nd rfl (Or.inl rfl)) (fun _ _ _ _ _ => pts_nil) (fun _ _ _ _ _ => pe_call G hr (by rfl) m1 k1 b1 .nil pass0 (pa_cons (pv 1) pa_nil))) pa_nil))))), ?_⟩
  refine ⟨x, rfl, by show 2 ≤ sizeLine; decide, fun T0 hT => ?_⟩
  have s0 : Same H (upd H T0 (.tup [.ty "tuple", .ty "list"])) := same_new hT _
  obtain ⟨t, h1, h2, h3⟩ := hN.same s0
  exact ⟨x, T0, [.ty "tuple", .ty "list"], t, [.type "tuple", .type "list"], false, rfl, upd_same, .cons (.ty _) (.cons (.ty _) .nil), h1, kitAny_cons (b := false) h2 (fun _ => kitAny_cons (b := false) h3 (fun _ => rfl) (fun z => nomatch z)) (fun z => nomatch z), false, rfl, iteF (q _ s0)⟩
def spAreX (K : PySem.W.Frag) : Sp := fun vs H Q _ => ∃ x b, vs = [x] ∧ ArV K H x b ∧ ∀ H', Same H H' → Q (.bl b) H'
theorem ok_areX (G : FnOk P w K mg base CX0 k f fd ["thing"] (spAreNames K)) (G2 : FnOk P w K mg base CX0 k f fd ["thing"] (spAreL K)) (G3 : FnOk P w K mg base CX0 k f fd ["thing"] (spAreN K)) : FnOk P w K mg base CX0 k f fd ["thing"] (spAreX K) := by
  refine (fn_or G (fn_or G2 G3)).imp fun vs H Q E h => ?_
  obtain ⟨x, b, rfl, ⟨a, xs, ds, rfl, hS | hS, hx, odd, few, rfl⟩ | ⟨hN, rfl⟩, q⟩ := h
  · exact .inl ⟨a, xs, ds, rfl, hS, hx, odd, by omega, q⟩
  · exact .inr (.inl ⟨a, xs, ds, rfl, hS, hx, odd, by omega, q⟩)
  · exact .inr (.inr ⟨x, rfl, hN, q⟩)
/-- is_world of what is no tuple -/
def spIsWorldN (K : PySem.W.Frag) : Sp := fun vs H Q _ => ∃ x, vs = [x] ∧ NotT K H x "tuple" ∧ Q (.bl false) H
theorem ok_isWorldN {f1 f2 : Addr} {fd1 fd2 : FuncData} (F : Fun K "is_world" "is_world" sIsWorld f fd) (T : Bl mg) (G1 : FnOk P w K mg base CX0 k f1 fd1 ["thing"] (spAreNames K)) (b1 : Binds K fd1 ["thing"] []) (k1 : PySem.W.keepIn K (.ref f1) = true) (m1 : mg "_are_names" = some (.ref f1))
    (G2 : FnOk P w K mg base CX0 k f2 fd2 ["names"] (spSetOf K)) (b2 : Binds K fd2 ["names"] []) (k2 : PySem.W.keepIn K (.ref f2) = true) (m2 : mg "_set_of" = some (.ref f2)) : FnOk P w K mg base CX0 (k + 1) f fd ["thing"] (spIsWorldN K) := by
  refine F.ok scIsWorld (fun vs H Q E h => let ⟨x, e, _⟩ := h; by rw [e]; rfl) (fun cdv A outer s H vs Q E hr h => ?_)
  obtain ⟨x, rfl, ⟨t, h1, h2⟩, q⟩ := h
  refine ⟨_, pss_one (ps_ret (pe_and (pe_callB call_isi (by rfl) T.isi PyProof.Rows.boot_isinstance (pa_cons (pv 0) (pa_cons (pe_bltn (v := .ty "tuple") (by rfl) T.tuple (by decide +kernel) rfl) pa_nil)))
    (pe_and (pe_call G1 hr (by rfl) m1 k1 b1 .nil pass0 (pa_cons (pv 0) pa_nil)) (pe_one (pe_cmpR (op_eqD hr.units) (pv 0) (pe_call G2 hr (by rfl) m2 k2 b2 .nil pass0 (pa_cons (pv 0) pa_nil)) (nomark _)))))), ?_⟩
  exact ⟨x, rfl, x, .ty "tuple", t, .type "tuple", false, rfl, .ty _, h1, h2, false, rfl, iteF q⟩
def spIsWorldX (K : PySem.W.Frag) : Sp := fun vs H Q _ => ∃ x b, vs = [x] ∧ WlV K H x b ∧ ∀ H', Same H H' → Q (.bl b) H'
theorem ok_isWorldX (G : FnOk P w K mg base CX0 k f fd ["thing"] (spIsWorld K)) (G' : FnOk P w K mg base CX0 k f fd ["thing"] (spIsWorldN K)) : FnOk P w K mg base CX0 k f fd ["thing"] (spIsWorldX K) := by
  refine (fn_or G G').imp fun vs H Q E h => ?_
  obtain ⟨x, b, rfl, ⟨d, h1, h2, rfl⟩ | ⟨h1, rfl⟩, q⟩ := h
  · exact .inl ⟨x, d, rfl, h1, h2, q⟩
  · exact .inr ⟨x, rfl, h1, q H fun _ _ e => e⟩
/-- is_rule of anything -/
def spIsRuleX (K : PySem.W.Frag) : Sp := fun vs H Q _ => ∃ x b, vs = [x] ∧ RuV K H x b ∧ ∀ H', Same H H' → Q (.bl b) H'
theorem ok_isRuleX {f1 : Addr} {fd1 : FuncData} (F : Fun K "is_rule" "is_rule" sIsRule f fd) (T : Bl mg) (G1 : FnOk P w K mg base CX0 k f1 fd1 ["thing"] (spIsWorldX K)) (b1 : Binds K fd1 ["thing"] []) (k1 : PySem.W.keepIn K (.ref f1) = true) (m1 : mg "is_world" = some (.ref f1)) :
    FnOk P w K mg base CX0 (k + 1) f fd ["thing"] (spIsRuleX K) := by
  refine F.ok scIsRule (fun vs H Q E h => let ⟨x, b, e, _⟩ := h; by rw [e]; rfl) (fun cdv A outer s H vs Q E hr h => ?_)
  obtain ⟨x, b, rfl, hx, q⟩ := h
  refine ⟨_, pss_one (ps_ret (pe_and (pe_callB call_isi (by rfl) T.isi PyProof.Rows.boot_isinstance (pa_cons (pv 0) (pa_cons (pe_bltn (v := .ty "tuple") (by rfl) T.tuple (by decide +kernel) rfl) pa_nil)))
    (pe_and (pe_cmpR op_eq (pe_callB call_len_seq (by rfl) T.len PySem.boot_len (pa_cons (pv 0) pa_nil)) pe_int (nomark _)) (pe_one (pe_callB (cr_all rfl) (by rfl) T.all (by decide +kernel) (pa_cons (pe_lc (own := [("part", 1)]) (g := gName 1) (by rfl) scIsRule.nd (pi_tup (pv 0)) (blkOk_by (N := ["thing", "part"]) (sc := defScope sIsRule) (by decide +kernel))
        (fun _ _ _ _ _ => pg_name (i := 1) scIsRule.nd rfl (Or.inl rfl)) (fun _ _ _ _ _ => pts_nil) (fun _ _ _ _ _ => pe_call G1 hr (by rfl) m1 k1 b1 .nil pass0 (pa_cons (pv 1) pa_nil))) pa_nil)))))), ?_⟩
  rcases hx with ⟨a, xs, bs, rfl, hS, hW, few, rfl⟩ | ⟨⟨t, h1, h2⟩, rfl⟩
  · have xl := hW.len
    refine ⟨.ref a, rfl, .ref a, .ty "tuple", .type "tuple", .type "tuple", true, rfl, .ty "tuple", tyx_tup hS, kit_ty (by decide +kernel), true, rfl, iteT ?_⟩
    refine ⟨.ref a, rfl, a, xs, rfl, .inr hS, rfl, decide (bs.length = 4), congrArg V.bl ?_, ?_⟩
    · rw [xl]
      by_cases c : bs.length = 4
      · rw [c]
        decide
      · rw [decide_eq_false c]
        simp [eqV, c]
        omega
    by_cases c : bs.length = 4
    · rw [decide_eq_true c]
      refine iteT ?_
      refine ⟨.ref a, rfl, a, rfl, ⟨_, hS⟩, fun D hD => ?_⟩
      refine lc_tup (xs := xs) (fun i H1 => Same H H1 ∧ H1 D = some (.lst ((bs.take i).map V.bl))) ⟨same_new hD _, upd_same⟩ (fun i H1 _ hI => same_tup hI.1 hS) (fun i x H1 hxi hI => ?_) (fun H1 hI => ?_)
      · obtain ⟨sm, hd⟩ := hI
        obtain ⟨b, hb, hxb⟩ := hW.at hxi
        refine ⟨rfl, x, rfl, x, b, rfl, hxb.same sm, fun H2 sm2 => ⟨_, sm2 _ _ hd, small_line' (by rw [List.length_map, List.length_take]; omega), same_put (sm.trans sm2) hD, ?_⟩⟩
        rw [upd_same, take_snoc hb, List.map_append]
        rfl
      · obtain ⟨sm, hd⟩ := hI
        rw [xl, List.take_length] at hd
        refine ⟨D, bs, rfl, SqL.of hd, ?_⟩
        have := q H1 sm
        rw [decide_eq_true c, Bool.true_and] at this
        exact this
    · rw [decide_eq_false c]
      refine iteF ?_
      have := q H fun _ _ e => e
      rw [decide_eq_false c, Bool.false_and] at this
      exact this
  · exact ⟨x, rfl, x, .ty "tuple", t, .type "tuple", false, rfl, .ty _, h1, h2, false, rfl, iteF (q H fun _ _ e => e)⟩
end
end Rw
namespace Rw
open PySem PySem.Spec PyProof.Rows L2 PySem.SeqAt
/-! ### a dict, or a tuple that ends with one, asked for in a tuple of rules -/
theorem sub_dt : isSubtype (.type "dict") (.type "tuple") = pure false := by rw [isSubtype_type]; kernel_rfl
theorem sub_td : isSubtype (.type "tuple") (.type "dict") = pure false := by rw [isSubtype_type]; kernel_rfl
theorem slot_de : Slot "dict" (cmpInfo .Eq).2.2 "dict.__eq__" := F.slot_dict_eq
theorem tup_declines (l b : Addr) (xs : Array Value) (n : Nat) (dd dd2 : Option Addr) (sl sl2 : Array (Option Value)) (data : Data) :
    Meets (Builtin.«tuple.__eq__» ⟨[.ref l, .ref b], []⟩) (fun _ R s => s.heap.get? l = some { cls := .type "tuple", dict := dd, data := .seq xs n, slots := sl } ∧ s.heap.get? b = some { cls := .type "dict", dict := dd2, data := data, slots := sl2 } ∧ R (.ok (.ret .notImplemented)) s) :=
  .of_wp fun prog w A R s h => by
    obtain ⟨hp, g, d, tk, os⟩ := s
    obtain ⟨hl, hb, h⟩ := h
    have f1 := sub_dt
    wp_walk using AutoSeq1.wpAny_loadPart' hl, AutoSeq1.wpAny_loadPart' hb
    exact ⟨_, rfl, h⟩
section
variable {A : Around} {s : Shared}
theorem rc_tup_dict {l b : Addr} {xs : Array Value} {ob : Obj} {es : Array DictEntry} {ep : Nat} (hl : s.heap.IsTuple l xs) (hb : s.heap.get? b = some ob) (hc : ob.cls = .type "dict") (hd : ob.data = .dict es ep) (hu : A.units < cLine) : RcAt A s (.ref l) (.ref b) false := fun prog w E Q h => by
  obtain ⟨⟨cls, dd, data, sl⟩, ho, c1, n, d1⟩ := id hl
  obtain ⟨cls2, dd2, data2, sl2⟩ := ob
  simp only at c1 d1 hc hd
  subst c1 d1 hc hd
  have hne : l ≠ b := fun e => by
    subst e
    have z := congrArg Obj.cls (Option.some.inj (ho.symm.trans hb))
    exact absurd z (by simp)
  refine rc_eq_decline_or (k := false) ⟨_, ho, rfl⟩ ⟨_, hb, rfl⟩ (by decide) sub_dt F.slot_tuple_eq slot_de
    (fun _ hq => call_meets F.slot_tuple_eq ⟨_, ho, rfl⟩ F.entry_tuple_eq (F.args_tuple_eq_2 _ _) (tup_declines l b xs n dd dd2 sl sl2 _) ⟨ho, hb, hq⟩)
    (fun Q' hq => ?_) (fun _ hq => wpAny_isSame_ref_other' hne ho hb (by simp) hq) (.inr hu) h
  have T : s.TypeIs (.ref b) "dict" := ⟨_, hb, rfl⟩
  have U : s.TypeIs (.ref l) "tuple" := ⟨_, ho, rfl⟩
  refine wpAny_call_entry F.slot_dict_eq T F.entry_dict_eq ?_ (F.args_dict_eq_2 _ _)
  show wpAny _ _ (Builtin.Dict.dictSlotArgs "__eq__" ⟨[.ref b, .ref l], []⟩ >>= _) _ _ s
  refine wpAny_bind ?_
  unfold Builtin.Dict.dictSlotArgs
  refine wpAny_bind (wpAny_notOrdered_dict T ?_)
  refine wpAny_bind (wpAny_pure ?_)
  refine wpAny_pure ?_
  refine wpAny_bind (wpAny_isInstance (T := "tuple") U sub_td ?_)
  refine wp_if_pos (by decide) ?_
  first
    | exact wpAny_bind (wpAny_rule (wpAny_pure ⟨_, rfl, hq⟩))
    | exact wpAny_bind (wpAny_rule (wpAny_bind (wpAny_pure (wpAny_pure ⟨_, rfl, hq⟩))))
    | exact wpAny_bind (wpAny_rule (wpAny_bind (wpAny_pure (wpAny_pure hq))))
theorem eq_tup_dict {l b : Addr} {xs : Array Value} {ob : Obj} {es : Array DictEntry} {ep : Nat} (hl : s.heap.IsTuple l xs) (hb : s.heap.get? b = some ob) (hc : ob.cls = .type "dict") (hd : ob.data = .dict es ep) (hu : A.units < cLine) : EqAt A s (.ref l) (.ref b) false := by
  refine .of_refs (fun e => ?_) (rc_tup_dict hl hb hc hd hu)
  subst e
  obtain ⟨o, ho, c1, _⟩ := hl
  rw [ho] at hb
  cases hb
  rw [c1] at hc
  exact nomatch hc
theorem reads_rd {h : Heap} : ∀ (S : List Rl) (vs : List Value) (as : List Addr), ReadsAll h vs (S.map rd) as → ∀ y ∈ vs, ∃ r ∈ S, ∃ bs, Reads h y (rd r) bs
  | [], _, _, r, y, hy => by
    cases r
    exact nomatch hy
  | q :: S, _, _, r, y, hy => by
    cases r with
    | cons r1 r2 =>
      rcases List.mem_cons.mp hy with rfl | hy
      · exact ⟨q, List.mem_cons_self, _, r1⟩
      · obtain ⟨r, hr, bs, h⟩ := reads_rd S _ _ r2 y hy
        exact ⟨r, List.mem_cons_of_mem _ hr, bs, h⟩
/-- what the fourth item is decides -/
theorem eq_end_dict {y x b : Addr} {r : Rl} {bs : List Addr} {w1 w2 w3 : W} {u1 u2 u3 : Value} {a1 a2 a3 : List Addr} {ob : Obj} {es : Array DictEntry} {ep : Nat} (ry : Reads s.heap (.ref y) (rd r) bs) (hr : IsR r) (hx : s.heap.IsTuple x #[u1, u2, u3, .ref b])
    (k1 : Reads s.heap u1 (wd w1) a1) (k2 : Reads s.heap u2 (wd w2) a2) (k3 : Reads s.heap u3 (wd w3) a3) (i1 : IsW w1) (i2 : IsW w2) (i3 : IsW w3) (hb : s.heap.get? b = some ob) (hc : ob.cls = .type "dict") (hd : ob.data = .dict es ep) (hu : A.units + 5 < cLine) : EqAt A s (.ref y) (.ref x) false := by
  obtain ⟨r1, r2, r3, r4⟩ := r
  unfold rd parts at ry
  cases ry with
  | @tuple _ o xs n _ _ h1 h2 h3 h4 =>
    obtain ⟨xl⟩ := xs
    cases h4 with
    | @cons y1 _ _ _ _ _ p1 t => cases t with
      | @cons y2 _ _ _ _ _ p2 t => cases t with
        | @cons y3 _ _ _ _ _ p3 t => cases t with
          | @cons y4 _ _ _ _ _ p4 t =>
            cases t
            obtain ⟨q4, e4, T4⟩ : ∃ (q4 : Addr) (z4 : Array Value), y4 = .ref q4 ∧ s.heap.IsTuple q4 z4 := by
              unfold wd at p4
              cases p4 with
              | tuple g1 g2 g3 g4 => exact ⟨_, _, rfl, _, g1, g2, _, g3⟩
            obtain ⟨rfl, T4⟩ := T4
            have hy : s.heap.IsTuple y #[y1, y2, y3, .ref q4] := ⟨o, h1, h2, _, h3⟩
            have lw : ∀ w, (wd w).depth ≤ 1 := fun w => Nat.le_of_eq (depth_wd w)
            have one : ∀ {da db : W} {u v : Value} {as' bs' : List Addr}, IsW da → IsW db → Reads s.heap u (wd da) as' → Reads s.heap v (wd db) bs' → EqAt A.in1 s u v (PyData.eqv (wd da) (wd db)) := fun {da db u v as' bs'} i j p q => by
              have z1 := lw da
              have z2 := lw db
              refine eqAt_reads _ _ A.in1 s u v _ _ p q (lay_wd i.names) (lay_wd j.names) ?_
              simp only [Around.in1_units]
              omega
            refine .of_refs (fun e => ?_) ?_
            · subst e
              obtain ⟨o', g1, g2, n', g3⟩ := hx
              rw [h1] at g1
              cases g1
              rw [h3] at g3
              injection g3 with g3 _
              injection g3 with g3
              simp only [List.cons.injEq, and_true] at g3
              obtain ⟨_, _, _, g4⟩ := g3
              injection g4 with g4
              subst g4
              obtain ⟨o4, f1, f2, _⟩ := T4
              rw [f1] at hb
              cases hb
              rw [f2] at hc
              exact absurd hc (by simp)
            · have z := RcAt.tuples (A := A) (s := s) (e := fun j => if j = 0 then PyData.eqv (wd r1) (wd w1) else if j = 1 then PyData.eqv (wd r2) (wd w2) else if j = 2 then PyData.eqv (wd r3) (wd w3) else false) hy hx (by omega) (fun j j1 j2 => by
                match j, j1, j2 with
                | 0, _, _ => exact one hr.h i1 p1 k1
                | 1, _, _ => exact one hr.d i2 p2 k2
                | 2, _, _ => exact one hr.n i3 p3 k3
                | 3, _, _ =>
                  refine eq_tup_dict T4 hb hc hd ?_
                  simp only [Around.in1_units]
                  omega)
              have e : ((List.range (min (#[y1, y2, y3, Value.ref q4] : Array Value).size (#[u1, u2, u3, Value.ref b] : Array Value).size)).all fun j => if j = 0 then PyData.eqv (wd r1) (wd w1) else if j = 1 then PyData.eqv (wd r2) (wd w2) else if j = 2 then PyData.eqv (wd r3) (wd w3) else false) = false := by
                rw [List.all_eq_false]
                exact ⟨3, by simp, by simp⟩
              rw [e] at z
              exact z
end
/-- a dict, or a tuple of three sets of names and a dict -/
def OddY (K : PySem.W.Frag) (H : Hp) (y : V) : Prop := (∃ d kvs, y = .ref d ∧ H d = some (.dK kvs)) ∨
  (∃ t v1 v2 v3 d kvs w1 w2 w3, y = .ref t ∧ SqT K H t [v1, v2, v3, .ref d] ∧ Dp K H v1 (wd w1) ∧ Dp K H v2 (wd w2) ∧ Dp K H v3 (wd w3) ∧ IsW w1 ∧ IsW w2 ∧ IsW w3 ∧ H d = some (.dK kvs))
section
variable {X : Cx}
def rInOdd (K : PySem.W.Frag) : R2 := fun x y H Q => ∃ S : List Rl, OddY K H x ∧ Dp K H y (.tuple (S.map rd)) ∧ (∀ r ∈ S, IsR r) ∧ Q (.bl false) H
theorem op_inOdd (hu : X.A.units + 65 < cLine) : OpR X (compareOp .In) (rInOdd X.K) := by
  intro pins s σ H x y v u Q I rx ry h
  obtain ⟨S, hx, hy, hI, q⟩ := h
  obtain ⟨bs, ry'⟩ := Dp.reads I (.tuple (S.map rd)) y u hy ry
  have fin : wpAny (model X.prog X.w) X.A (compareOp .In v u) (EP X pins σ Q) X.xe s := by
    cases ry' with
    | @tuple a o vs n _ _ h1 h2 h3 h4 =>
      refine in_tupleAt (fun _ => false) ⟨o, h1, h2, n, h3⟩ (fun z hz => ?_) ?_
      · obtain ⟨r, hr, cs, rz⟩ := reads_rd S _ _ h4 z (by simpa using hz)
        have hrr := hI r hr
        have rz0 := rz
        unfold rd at rz0
        cases rz0 with
        | @tuple az oz vz nz _ _ g1 g2 g3 g4 =>
          rcases hx with ⟨d, kvs, rfl, hd⟩ | ⟨t, v1, v2, v3, d, kvs, w1, w2, w3, rfl, hT, k1, k2, k3, i1, i2, i3, hd⟩
          · obtain rfl : v = Value.ref d := rx
            obtain ⟨_, _, ws, _, od, es, ep, e1, e2, e3, _⟩ := I.hok d _ hd
            refine eq_tup_dict ⟨oz, g1, g2, nz, g3⟩ e1 e2.1 e3 ?_
            simp only [Around.in1_units]
            omega
          · obtain rfl : v = Value.ref t := rx
            obtain ⟨_, _, ws, _, od, es, ep, e1, e2, e3, _⟩ := I.hok d _ hd
            obtain ⟨its, rv, pt, _⟩ := I.tuple hT
            cases rv with
            | cons a1 rv => cases rv with
              | cons a2 rv => cases rv with
                | cons a3 rv => cases rv with
                  | cons a4 rv =>
                    cases rv
                    rename_i u1 u2 u3 u4
                    obtain rfl : u4 = Value.ref d := a4
                    obtain ⟨b1, q1⟩ := Dp.reads I _ _ _ k1 a1
                    obtain ⟨b2, q2⟩ := Dp.reads I _ _ _ k2 a2
                    obtain ⟨b3, q3⟩ := Dp.reads I _ _ _ k3 a3
                    refine eq_end_dict rz hrr pt q1 q2 q3 i1 i2 i3 e1 e2.1 e3 ?_
                    simp only [Around.in1_units]
                    omega
      · have e : (vs.any fun _ => false) = false := by simp
        rw [e]
        exact ⟨.bl false, H, I, rfl, q⟩
  exact fin
end
end Rw
namespace Rw
open PySem PySem.Spec PyProof.Rows L2 PySem.SeqAt
/-! ### a dict is none of some texts -/
theorem sub_ds : isSubtype (.type "dict") (.type "str") = pure false := by rw [isSubtype_type]; kernel_rfl
theorem sub_sd : isSubtype (.type "str") (.type "dict") = pure false := by rw [isSubtype_type]; kernel_rfl
theorem str_declines (x : Str) (t : Tok) (b : Addr) (dd2 : Option Addr) (sl2 : Array (Option Value)) (es : Array DictEntry) (ep : Nat) :
    Meets (Builtin.«str.__eq__» ⟨[.str x t, .ref b], []⟩) (fun _ R s => s.heap.get? b = some { cls := .type "dict", dict := dd2, data := .dict es ep, slots := sl2 } ∧ R (.ok (.ret .notImplemented)) s) :=
  .of_wp fun prog w A R s h => by
    obtain ⟨hp, g, d, tk, os⟩ := s
    obtain ⟨hb, h⟩ := h
    have f1 := sub_ds
    wp_walk using AutoSeq1.wpAny_loadPart' hb
    exact ⟨_, rfl, h⟩
section
variable {A : Around} {s : Shared}
theorem rc_str_dict {x : Str} {t : Tok} {b : Addr} {ob : Obj} {es : Array DictEntry} {ep : Nat} (hb : s.heap.get? b = some ob) (hc : ob.cls = .type "dict") (hd : ob.data = .dict es ep) (hu : A.units < cLine) : RcAt A s (.str x t) (.ref b) false := fun prog w E Q h => by
  obtain ⟨cls2, dd2, data2, sl2⟩ := ob
  simp only at hc hd
  subst hc hd
  have T : s.TypeIs (.ref b) "dict" := ⟨_, hb, rfl⟩
  refine rc_eq_decline_or (k := false) (typeIs_str s x t) T (by decide) sub_ds F.slot_str_eq slot_de
    (fun _ hq => call_meets F.slot_str_eq (typeIs_str s x t) F.entry_str_eq (F.args_str_eq_2 _ _) (str_declines x t b dd2 sl2 es ep) ⟨hb, hq⟩)
    (fun Q' hq => ?_) (fun _ hq => wpAny_of_eq (rfl : isSame (.str x t) (.ref b) = pure false) hq) (.inr hu) h
  refine wpAny_call_entry F.slot_dict_eq T F.entry_dict_eq ?_ (F.args_dict_eq_2 _ _)
  show wpAny _ _ (Builtin.Dict.dictSlotArgs "__eq__" ⟨[.ref b, .str x t], []⟩ >>= _) _ _ s
  refine wpAny_bind ?_
  unfold Builtin.Dict.dictSlotArgs
  refine wpAny_bind (wpAny_notOrdered_dict T ?_)
  refine wpAny_bind (wpAny_pure ?_)
  refine wpAny_pure ?_
  refine wpAny_bind (wpAny_isInstance (T := "str") (typeIs_str s x t) sub_sd ?_)
  refine wp_if_pos (by decide) ?_
  first
    | exact wpAny_bind (wpAny_rule (wpAny_pure ⟨_, rfl, hq⟩))
    | exact wpAny_bind (wpAny_rule (wpAny_bind (wpAny_pure (wpAny_pure ⟨_, rfl, hq⟩))))
    | exact wpAny_bind (wpAny_rule (wpAny_bind (wpAny_pure (wpAny_pure hq))))
theorem eq_str_dict {x : Str} {t : Tok} {b : Addr} {ob : Obj} {es : Array DictEntry} {ep : Nat} (hb : s.heap.get? b = some ob) (hc : ob.cls = .type "dict") (hd : ob.data = .dict es ep) (hu : A.units < cLine) : EqAt A s (.str x t) (.ref b) false := fun prog w E Q h => by
  unfold eqBool
  refine wpAny_holding ?_
  refine wpAny_ite_split (fun hab => absurd (eq_of_beq hab) nofun) (fun _ => ?_)
  exact wpAny_bind (rc_str_dict hb hc hd hu prog w E _ (wpAny_truthy_bool h))
end
section
variable {X : Cx}
/-- x not in y: y a tuple of texts, x a dict -/
def rNotInE (K : PySem.W.Frag) : R2 := fun x y H Q => ∃ (a b : Addr) (kvs : List (Key × V)) (ns : W), x = .ref a ∧ y = .ref b ∧ H a = some (.dK kvs) ∧ SqT K H b (ns.map V.str) ∧ Q (.bl true) H
theorem op_notInE (hu : X.A.units + 64 < cLine) : OpR X (compareOp .NotIn) (rNotInE X.K) := by
  intro pins s σ H x y v u Q I rx ry h
  obtain ⟨a, b, kvs, ns, rfl, rfl, ha, hb, q⟩ := h
  obtain rfl : v = Value.ref a := rx
  obtain rfl : u = Value.ref b := ry
  obtain ⟨its, rv, pl, hz⟩ := I.tuple hb
  obtain ⟨_, _, ws, _, od, es, ep, ho, hc, hd, _⟩ := I.hok a _ ha
  have txt : ∀ {ns : W} {us : List Value}, Vals (ns.map V.str) us → ∀ y ∈ us, ∃ x t, y = Value.str x t := by
    intro ns
    induction ns with
    | nil =>
      intro us r y hy
      cases r
      exact nomatch hy
    | cons n ns ih =>
      intro us r y hy
      cases r with
      | cons r1 r2 =>
        rcases List.mem_cons.mp hy with rfl | hy
        · obtain ⟨t, rfl⟩ := r1
          exact ⟨_, _, rfl⟩
        · exact ih r2 y hy
  refine notIn_tupleAt (fun _ => false) pl (fun y hy => ?_) ?_
  · obtain ⟨x, t, rfl⟩ := txt rv y (by simpa using hy)
    refine eq_str_dict ho hc.1 hd ?_
    simp only [Around.in1_units]
    omega
  · have e : its.toArray.any (fun _ => false) = false := by simp
    rw [e]
    exact ⟨.bl true, H, I, rfl, q⟩
end
end Rw
namespace Rw
open PySem PySem.Spec PyProof.Rows L2
/-! ### refusals: the words -/
theorem opr_or {X : Cx} {f : Value → Value → Sem Value} {r r' : R2} (h : OpR X f r) (h' : OpR X f r') : OpR X f (fun x y H Q => r x y H Q ∨ r' x y H Q) := fun pins s σ H x y v u Q I rx ry hq => hq.elim (h pins s σ H x y v u Q I rx ry) (h' pins s σ H x y v u Q I rx ry)
section
variable {X : Cx}
/-- x not in y, y a tuple of data -/
def rNotInDT (K : PySem.W.Frag) : R2 := fun x y H Q => ∃ d ds, Dp K H x d ∧ Dp K H y (.tuple ds) ∧ SeqAt.shaped d = true ∧ SeqAt.shaped (.tuple ds) = true ∧ Q (.bl (!ds.any fun z => PyData.eqv z d)) H
theorem op_notInDT (hu : X.A.units + 65 < cLine) : OpR X (compareOp .NotIn) (rNotInDT X.K) := by
  intro pins s σ H x y v u Q I rx ry h
  obtain ⟨d, ds, hd, he, sd, se, q⟩ := h
  obtain ⟨as, r1⟩ := Dp.reads I d x v hd rx
  obtain ⟨bs, r2⟩ := Dp.reads I (.tuple ds) y u he ry
  exact SeqAt.notIn_tuple_reads r2 r1 (SeqAt.canLay_of_shaped se) (SeqAt.canLay_of_shaped sd) (room_in_shaped sd hu) ⟨.bl _, H, I, rfl, q⟩
end
theorem scEKind : FnScope ["self", "value"] ["self", "value"] (defScope sEKind) := ⟨rfl, rfl, rfl, by decide +kernel, rfl, by decide +kernel, by decide +kernel⟩
theorem scCheckKind : FnScope ["thing", "kinds"] ["thing", "kinds"] (defScope sCheckKind) := ⟨rfl, rfl, rfl, by decide +kernel, rfl, by decide +kernel, by decide +kernel⟩
theorem scAsked : FnScope ["one", "other", "added"] ["one", "other", "added"] (defScope sAsked) := ⟨rfl, rfl, rfl, by decide +kernel, rfl, by decide +kernel, by decide +kernel⟩
def addW : W := ["rules", "facts", "nothing"]
/-- no one of the words -/
def NoWord (K : PySem.W.Frag) (H : Hp) (v : V) : Prop := (∃ d, Dp K H v d ∧ SeqAt.shaped d = true ∧ ∀ z ∈ addW, PyData.eqv (.str z) d = false) ∨ ∃ a kvs, v = .ref a ∧ H a = some (.dK kvs)
theorem NoWord.same {K : PySem.W.Frag} {H H' : Hp} {v : V} (h : NoWord K H v) (e : Same H H') : NoWord K H' v := by
  rcases h with ⟨d, h1, h2⟩ | ⟨a, kvs, h1, h2⟩
  · exact .inl ⟨d, dp_same e _ _ h1, h2⟩
  · exact .inr ⟨a, kvs, h1, e _ _ h2⟩
/-- an error of class C with one field is raised -/
def Rai (E : XK) (C : Addr) (n : Str) (v : V) (H : Hp) : Prop := ∀ H', Same H H' → ∀ dx, H' dx = none → E (.ref C) (some dx) (upd H' dx (.xd [(n, v)]))
theorem Rai.same {E : XK} {C : Addr} {n : Str} {v : V} {H H' : Hp} (h : Rai E C n v H) (e : Same H H') : Rai E C n v H' := fun H2 s => h H2 (e.trans s)
theorem Rai.here {E : XK} {C : Addr} {n : Str} {v : V} {H : Hp} (h : Rai E C n v H) : ∀ dx, H dx = none → E (.ref C) (some dx) (upd H dx (.xd [(n, v)])) := h H fun _ _ e => e
section
variable {P : Program} {w : World} {K : PySem.W.Frag} {mg : Str → Option Value} {base : Heap} {f : Addr} {fd : FuncData} {k : Nat}
theorem ok_eKind {C : Addr} (F : FunD K "__init__" "InvalidKind.__init__" (defArgs sEKind) (defBody sEKind) (defScope sEKind) [.non] [] f fd) (O : OexC K C) (no : PySem.W.findIn K (.ref C) "value" = some none) : FnOk P w K mg base CX0 (k + 1) f fd ["self", "value"] (spErr C "value") := by
  refine F.ok scEKind (fun vs H Q E h => ?_) (fun cdv A outer s H vs Q E hr h => ?_)
  · obtain ⟨a, v, rfl, _⟩ := h
    rfl
  obtain ⟨a, v, rfl, ha, q⟩ := h
  exact ⟨_, PSs.nox (pss_one (ps_ost (pv 0) (pv 1))), v, rfl, .ref a, rfl, a, C, rfl, O, no, .inl ⟨ha, fun dx h1 h2 => q dx h1 h2⟩⟩
def spCheckKind (K : PySem.W.Frag) (CE : Addr) : Sp := fun vs H Q E => ∃ (v : V) (a : Addr), vs = [v, .ref a] ∧ SqT K H a (addW.map V.str) ∧ ((∃ z ∈ addW, v = .str z ∧ Q .non H) ∨ (NoWord K H v ∧ Rai E CE "value" v H))
theorem ok_checkKind {CE : Addr} (F : Fun K "check_kind" "check_kind" sCheckKind f fd) (X : ErrT P w K mg base k "InvalidKind" "value" CE) : FnOk P w K mg base (L2.CX P w) (k + 2) f fd ["thing", "kinds"] (spCheckKind K CE) := by
  obtain ⟨fI, fdI, i1, i2, i3, i4⟩ := X.ex
  refine F.okX scCheckKind (fun vs H Q E h => ?_) (fun cdv A outer s H vs Q E hr h => ?_)
  · obtain ⟨v, a, rfl, _⟩ := h
    rfl
  obtain ⟨v, a, rfl, hS, h⟩ := h
  refine ⟨_, pss_one (ps_if (pt_cmpR (opr_or (op_notInDT (room65 hr)) (op_notInE hr.units)) (pv 0) (pv 1) (by rfl)) (pss_one (ps_raise rfl (takes_of rfl rfl rfl rfl) (pmk_oex X.oex i1 i2 i3 hr i4 .nil pass0 (by rfl) X.m (pa_cons (pv 0) pa_nil)))) pss_nil), ?_⟩
  have sk : SeqAt.shaped (.tuple (addW.map PyData.str)) = true := by decide +kernel
  rcases h with ⟨z, hz, rfl, q⟩ | ⟨hn, q⟩
  · have all : (addW.all fun z => SeqAt.shaped (.str z) && (addW.map PyData.str).any fun y => PyData.eqv y (.str z)) = true := by decide +kernel
    have hz2 := List.all_eq_true.mp all z hz
    rw [Bool.and_eq_true] at hz2
    refine ⟨.str z, rfl, .ref a, rfl, .inl ⟨.str z, addW.map .str, .str _, to_wd hS, hz2.1, sk, _, rfl, ?_⟩⟩
    rw [hz2.2]
    exact iteF q
  · rcases hn with ⟨d, hd, sd, hne⟩ | ⟨b, kvs, rfl, hb⟩
    · refine ⟨v, rfl, .ref a, rfl, .inl ⟨d, addW.map .str, hd, to_wd hS, sd, sk, _, rfl, ?_⟩⟩
      have e : ((addW.map PyData.str).any fun y => PyData.eqv y d) = false := by
        rw [List.any_eq_false]
        intro y hy
        obtain ⟨z, hz, rfl⟩ := List.mem_map.mp hy
        rw [hne z hz]
        exact Bool.false_ne_true
      rw [e]
      exact iteT ⟨v, rfl, err_made q.here⟩
    · exact ⟨.ref b, rfl, .ref a, rfl, .inr ⟨b, a, kvs, addW, rfl, rfl, hb, hS, _, rfl, iteT ⟨.ref b, rfl, err_made q.here⟩⟩⟩
/-- what the refusals lead to; G if nothing is refused -/
def AskR (K : PySem.W.Frag) (C CP CK : Addr) (x y v : V) (H : Hp) (E : XK) (G : Hp → Prop) : Prop := ((∃ d, Dp K H x d) ∧ Rai E CP "thing" x H) ∨ ((∃ S, PgAt K C H x S) ∧ (((∃ d, Dp K H y d) ∧ Rai E CP "thing" y H) ∨ ((∃ S, PgAt K C H y S) ∧ ((NoWord K H v ∧ Rai E CK "value" v H) ∨ ∃ z ∈ addW, v = .str z ∧ G H))))
def spAskR (K : PySem.W.Frag) (C CP CK : Addr) : Sp := fun vs H Q E => ∃ x y v : V, vs = [x, y, v] ∧ AskR K C CP CK x y v H E (Q .non)
theorem ok_askR {C CP CK aK f1 f2 : Addr} {fd1 fd2 : FuncData} (F : Fun K "_check_asked" "_check_asked" sAsked f fd)
    (G1 : FnOk P w K mg base (L2.CX P w) (k + 2) f1 fd1 ["thing"] (spCheckProgram K C CP)) (b1 : Binds K fd1 ["thing"] []) (k1 : PySem.W.keepIn K (.ref f1) = true) (m1 : mg "check_program" = some (.ref f1))
    (G2 : FnOk P w K mg base (L2.CX P w) (k + 2) f2 fd2 ["thing", "kinds"] (spCheckKind K CK)) (b2 : Binds K fd2 ["thing", "kinds"] []) (k2 : PySem.W.keepIn K (.ref f2) = true) (m2 : mg "check_kind" = some (.ref f2))
    (mA : mg "ADDED" = some (.ref aK)) (hA : ∀ H : Hp, SqT K H aK (addW.map V.str)) : FnOk P w K mg base (L2.CX P w) (k + 3) f fd ["one", "other", "added"] (spAskR K C CP CK) := by
  refine F.okX scAsked (fun vs H Q E h => ?_) (fun cdv A outer s H vs Q E hr h => ?_)
  · obtain ⟨x, y, v, rfl, _⟩ := h
    rfl
  obtain ⟨x, y, v, rfl, h⟩ := h
  refine ⟨_, pss_cons (ps_expr (pe_call G1 hr (by rfl) m1 k1 b1 .nil (passes_call (takes_of rfl rfl rfl rfl) (fun _ _ _ _ h => h)) (pa_cons (pv 0) pa_nil)))
    (pss_cons (ps_expr (pe_call G1 hr (by rfl) m1 k1 b1 .nil (passes_call (takes_of rfl rfl rfl rfl) (fun _ _ _ _ h => h)) (pa_cons (pv 1) pa_nil)))
    (pss_one (ps_expr (pe_call G2 hr (by rfl) m2 k2 b2 .nil (passes_call (takes_of rfl rfl rfl rfl) (fun _ _ _ _ h => h)) (pa_cons (pv 2) (pa_cons (pe_glob (v := .ref aK) (by rfl) mA rfl) pa_nil)))))), ?_⟩
  rcases h with ⟨⟨d, hd⟩, q⟩ | ⟨⟨S, hS⟩, h⟩
  · exact ⟨x, rfl, x, rfl, .inr ⟨d, hd, q.here⟩⟩
  refine ⟨x, rfl, x, rfl, .inl ⟨S, hS, ?_⟩⟩
  rcases h with ⟨⟨d, hd⟩, q⟩ | ⟨⟨S2, hS2⟩, h⟩
  · exact ⟨y, rfl, y, rfl, .inr ⟨d, hd, q.here⟩⟩
  refine ⟨y, rfl, y, rfl, .inl ⟨S2, hS2, ?_⟩⟩
  refine ⟨v, rfl, v, aK, rfl, hA _, ?_⟩
  rcases h with ⟨hn, q⟩ | ⟨z, hz, rfl, q⟩
  · exact .inr ⟨hn, q⟩
  · exact .inl ⟨z, hz, rfl, q⟩
end
/-! ### which parts may be added -/
theorem scIsFact : FnScope ["row", "heads", "denied", "needs", "bars"] ["row"] (defScope sIsFact) := ⟨rfl, rfl, rfl, by decide +kernel, rfl, by decide +kernel, by decide +kernel⟩
theorem scMayAdd : FnScope ["part", "added", "row"] ["part", "added"] (defScope sMayAdd) := ⟨rfl, rfl, rfl, by decide +kernel, rfl, by decide +kernel, by decide +kernel⟩
def factB (r : Rl) : Bool := decide (r.1.length = 1) && (r.2.1.isEmpty && r.2.2.1.isEmpty && r.2.2.2.isEmpty)
def mayB (z : Str) (S : List Rl) : Bool := if z = "nothing" then decide (S.length = 0) else decide (z = "rules") || S.all factB
section
variable {P : Program} {w : World} {K : PySem.W.Frag} {mg : Str → Option Value} {base : Heap} {f : Addr} {fd : FuncData} {k : Nat}
theorem tru_tup {K : PySem.W.Frag} {H : Hp} {a : Addr} {ns : W} (h : SqT K H a (ns.map V.str)) : TruV K (.ref a) H (!ns.isEmpty) := .inr (.inl ⟨_, h, by rw [List.isEmpty_map]⟩)
theorem eqV_int1 (n : Nat) : decide (V.int (n : Int) = V.int 1) = decide (n = 1) := by
  by_cases h : n = 1
  · subst h
    rfl
  · rw [decide_eq_false h]
    exact decide_eq_false fun e => h (by injection e with e; omega)
def spIsFact (K : PySem.W.Frag) : Sp := fun vs H Q _ => ∃ (x : V) (r : Rl), vs = [x] ∧ Dp K H x (rd r) ∧ Q (.bl (factB r)) H
theorem ok_isFact (F : Fun K "_is_fact" "_is_fact" sIsFact f fd) (T : Bl mg) : FnOk P w K mg base CX0 (k + 1) f fd ["row"] (spIsFact K) := by
  refine F.ok scIsFact (fun vs H Q E h => ?_) (fun cdv A outer s H vs Q E hr h => ?_)
  · obtain ⟨x, r, rfl, _⟩ := h
    rfl
  obtain ⟨x, r, rfl, hx, q⟩ := h
  refine ⟨_, pss_cons (ps_asg (pv 0) (pg_tup (by rfl) (pgs_cons (pg_name (i := 1) scIsFact.nd rfl (.inl rfl)) (pgs_cons (pg_name (i := 2) scIsFact.nd rfl (.inl rfl)) (pgs_cons (pg_name (i := 3) scIsFact.nd rfl (.inl rfl)) (pgs_cons (pg_name (i := 4) scIsFact.nd rfl (.inl rfl)) pgs_nil))))))
    (pss_one (ps_ret (pe_and (pe_cmpR op_eq (pe_callB call_len_seq (by rfl) T.len PySem.boot_len (pa_cons (pv 1) pa_nil)) pe_int (nomark _)) (pe_one (pe_notT (pe_orT (pv 2) (pe_orT (pv 3) (pe_one (pv 4))))))))), ?_⟩
  obtain ⟨b0, v1, v2, v3, v4, rfl, hT, h1, h2, h3, h4⟩ := of_rd hx
  obtain ⟨a1, rfl, t1⟩ := of_wd h1
  obtain ⟨a2, rfl, t2⟩ := of_wd h2
  obtain ⟨a3, rfl, t3⟩ := of_wd h3
  obtain ⟨a4, rfl, t4⟩ := of_wd h4
  refine ⟨.ref b0, rfl, b0, _, rfl, hT, rfl, _, _, rfl, _, _, rfl, _, _, rfl, _, [], rfl, rfl, ?_⟩
  refine ⟨.ref a1, rfl, a1, r.1.map V.str, rfl, .inr t1, rfl, decide (r.1.length = 1), ?_, ?_⟩
  · rw [List.length_map]
    exact congrArg V.bl (eqV_int1 _)
  by_cases c : r.1.length = 1
  · rw [decide_eq_true c]
    refine iteT ⟨.ref a2, rfl, _, tru_tup t2, ?_⟩
    have ef : ∀ b, (r.2.1.isEmpty && r.2.2.1.isEmpty && r.2.2.2.isEmpty) = b → factB r = b := fun b e => by
      unfold factB
      rw [decide_eq_true c, Bool.true_and, e]
    cases e2 : r.2.1.isEmpty with
    | false =>
      refine iteT ⟨_, tru_tup t2, ?_⟩
      rw [ef false (by rw [e2]; rfl)] at q
      rw [e2]
      exact q
    | true =>
      refine iteF ⟨.ref a3, rfl, _, tru_tup t3, ?_⟩
      cases e3 : r.2.2.1.isEmpty with
      | false =>
        refine iteT ⟨_, tru_tup t3, ?_⟩
        rw [ef false (by rw [e2, e3]; rfl)] at q
        rw [e3]
        exact q
      | true =>
        refine iteF ⟨.ref a4, rfl, _, tru_tup t4, ?_⟩
        rw [ef r.2.2.2.isEmpty (by rw [e2, e3]; rfl)] at q
        rw [Bool.not_not]
        exact q
  · rw [decide_eq_false c]
    refine iteF ?_
    unfold factB at q
    rw [decide_eq_false c, Bool.false_and] at q
    exact q
def spMayAdd (K : PySem.W.Frag) (C : Addr) : Sp := fun vs H Q _ => ∃ (v : V) (z : Str) (S : List Rl), vs = [v, .str z] ∧ z ∈ addW ∧ PgAt K C H v S ∧ S.length < 76 ∧ ∀ H', Same H H' → Q (.bl (mayB z S)) H'
theorem decV (x y : Str) : decide (V.str x = V.str y) = decide (x = y) := by
  by_cases h : x = y
  · rw [h, decide_eq_true rfl, decide_eq_true rfl]
  · rw [decide_eq_false h, decide_eq_false fun e => h (by injection e)]
theorem ok_mayAdd {C pR fR fL f1 : Addr} {fdR fd1 : FuncData} (F : Fun K "_may_be_added" "_may_be_added" sMayAdd f fd) (T : Bl mg) (c : Cls K C)
    (hsL : PySem.W.findIn K (.ref C) "__len__" = some (some (.ref fL))) (hfL : PySem.W.isFn K (.ref fL) = true) (FL : FnR P w K mg base CX0 k fL (spPLen K C))
    (hpR : PropOf K C "rules" pR fR) (GR : FnOk P w K mg base CX0 k fR fdR ["self"] (spRules K C)) (bR : Binds K fdR ["self"] [])
    (G1 : FnOk P w K mg base CX0 (k + 1) f1 fd1 ["row"] (spIsFact K)) (b1 : Binds K fd1 ["row"] []) (k1 : PySem.W.keepIn K (.ref f1) = true) (m1 : mg "_is_fact" = some (.ref f1)) :
    FnOk P w K mg base CX0 (k + 2) f fd ["part", "added"] (spMayAdd K C) := by
  refine F.ok scMayAdd (fun vs H Q E h => ?_) (fun cdv A outer s H vs Q E hr h => ?_)
  · obtain ⟨v, z, S, rfl, _⟩ := h
    rfl
  obtain ⟨v, z, S, rfl, hz, hS, few, q⟩ := h
  refine ⟨_, pss_cons (ps_if (pt_cmpR op_eq (pv 1) pe_str (nomark _)) (pss_one (ps_ret (pe_cmpR op_eq (pe_callB (call_lenP hsL hfL FL hr pass0) (by rfl) T.len PySem.boot_len (pa_cons (pv 0) pa_nil)) pe_int (nomark _)))) pss_nil)
    (pss_one (ps_ret (pe_or (pe_cmpR op_eq (pv 1) pe_str (nomark _)) (pe_one (pe_callB (cr_all rfl) (by rfl) T.all (by decide +kernel) (pa_cons (pe_lc (own := [("row", 2)]) (g := gName 2) (by rfl) scMayAdd.nd (pi_tup (pe_prop (pv 0) c hpR GR hr bR .nil pass0 rfl)) (blkOk_by (N := ["part", "added", "row"]) (sc := defScope sMayAdd) (by decide +kernel))
        (fun _ _ _ _ _ => pg_name (i := 2) scMayAdd.nd rfl (Or.inl rfl)) (fun _ _ _ _ _ => pts_nil) (fun _ _ _ _ _ => pe_call G1 hr (by rfl) m1 k1 b1 .nil pass0 (pa_cons (pv 2) pa_nil))) pa_nil)))))), ?_⟩
  obtain ⟨a, dx, t, ys, rfl, h1, h2, h3⟩ := id hS
  have q0 := q H fun _ _ e => e
  refine ⟨.str z, rfl, rfl, _, rfl, ite2 (fun e => ?_) (fun e => ?_)⟩
  · have ez : z = "nothing" := by
      rw [decV] at e
      exact of_decide_eq_true e
    refine ⟨.ref a, rfl, a, dx, _, rfl, h1, .ref a, S, rfl, hS, ((S.length : Nat) : Int), rfl, by omega, by omega, rfl, ?_⟩
    unfold mayB at q0
    rw [if_pos ez] at q0
    have : decide (V.int ((S.length : Nat) : Int) = V.int 0) = decide (S.length = 0) := by
      by_cases h : S.length = 0
      · rw [h]
        rfl
      · rw [decide_eq_false h]
        exact decide_eq_false fun e => h (by injection e with e; omega)
    rw [this]
    exact q0
  have ez : ¬ z = "nothing" := by
    rw [decV] at e
    exact fun h => e (decide_eq_true h)
  refine ⟨.str z, rfl, rfl, decide (z = "rules"), congrArg V.bl (decV _ _), ?_⟩
  unfold mayB at q
  simp only [if_neg ez] at q
  by_cases c2 : z = "rules"
  · rw [decide_eq_true c2] at q ⊢
    exact iteT (q H fun _ _ e => e)
  rw [decide_eq_false c2] at q ⊢
  refine iteF ?_
  refine ⟨.ref a, rfl, a, dx, _, rfl, h1, .ref a, S, rfl, hS, fun t2 ys2 ht2 hys2 => ?_⟩
  refine ⟨t2, rfl, ⟨_, ht2⟩, fun D hD => ?_⟩
  refine lc_tup (xs := ys2) (fun i H1 => Same H H1 ∧ H1 D = some (.lst ((S.take i).map fun r => V.bl (factB r)))) ⟨same_new hD _, upd_same⟩ (fun i H1 _ hI => same_tup hI.1 ht2) (fun i x H1 hxi hI => ?_) (fun H1 hI => ?_)
  · obtain ⟨sm, hd⟩ := hI
    obtain ⟨d, hdi, hxd⟩ := dpAll_at' hys2 hxi
    obtain ⟨r, hr0, rfl⟩ := map_at hdi
    refine ⟨rfl, x, rfl, x, r, rfl, dp_same sm _ _ hxd, _, hd, small_line' (by rw [List.length_map, List.length_take]; omega), same_put sm hD, ?_⟩
    rw [upd_same, take_snoc hr0, List.map_append]
    rfl
  · obtain ⟨sm, hd⟩ := hI
    have yl : ys2.length = S.length := by rw [dpAll_len hys2, List.length_map]
    rw [yl, List.take_length] at hd
    refine ⟨D, S.map factB, rfl, SqL.of (by rw [List.map_map]; exact hd), ?_⟩
    have z1 : (S.map factB).all id = S.all factB := by
      rw [List.all_map]
      rfl
    rw [z1]
    have := q H1 sm
    rw [Bool.false_or] at this
    exact this
end
end Rw
namespace Rw
open PySem PySem.Spec PyProof.Rows L2
/-! ### a def without defaults, called by names; C() of a class whose __init__ takes *args -/
theorem kbn_fun {K : PySem.W.Frag} {x qual : Str} {st : Stmt} {f : Addr} {fd : FuncData} {ps : List Str} (F : Fun K x qual st f fd) (n : Nat) (ks : List Str) (g : List Value → List Value → List Value) (gV : List V → List V → List V)
    (h : ∀ (kV doc pm : Value) (an : Option Addr) (cdv ct : Value) (us ws : List Value), us.length = n → ws.length = ks.length → bindArgs (PySem.W.fnOf x qual (defArgs st) (defBody st) (defScope st) .none kV doc pm an cdv ct) { pos := us, kw := ks.zip ws } = pure (ps.zip (g us ws)))
    (rel : ∀ {vs : List V} {us : List Value} {zs : List V} {ws : List Value}, Vals vs us → Vals zs ws → Vals (gV vs zs) (g us ws)) : KBn K fd ps n ks g gV := by
  obtain ⟨oc, od, kV, doc, pm, an, cdv, ct, osl, rfl, lk, hcd⟩ := F.ex
  refine ⟨fun s us ws X l1 l2 => ?_, fun a b => rel a b⟩
  intro M A E Q q
  rw [h kV doc pm an cdv ct us ws l1 l2]
  exact wpAny_pure q
theorem pe_makeR0 {X : Cx} {CX : CXT} {k : Nat} {f C : Addr} {sp : Sp} {E : XK} {x : Str} {p pos : Pos} (M : Mk X.K C f) (F : FnR X.prog X.w X.K X.mg X.base CX k f sp) (hr : Room (k + 1) X.A) (hg : Gl X x) (hm : X.mg x = some (.ref C)) (hx : Passes CX X E)
    (hd : (x == ("__debug__" : Str)) = false := by rfl) : PE X (.Call (.Name x p) [] [] pos) (StX.tMakeR C sp E tNil) :=
  ⟨fun pins s σ H Q I h => wpAny_Call_Name_kw (ld_glob I hg hm (PySem.W.callWith_K0 I.kIn M.kp (StX.run_makeR M F hr hx I Paired.nil h)) hd)⟩
theorem passNo {P : Program} {w : World} {X : Cx} : Passes (L2.CX P w) X (fun _ _ _ => False) := fun pins σ H s e s' _ h => by
  obtain ⟨_, _, _, _, _, _, _, _, _, _, _, _, z⟩ := h
  exact z.elim
end Rw
namespace Rw
open PySem PySem.Spec PyProof.Rows L2
/-! ### lists of the very same things -/
def SameV (x y : V) : Prop := (x = y ∧ flatB x = true) ∨ ∃ a, x = .ref a ∧ y = .ref a
def EqL1 (K : PySem.W.Frag) (H : Hp) (x y : V) : Prop := SameV x y ∨ ∃ a b xs ys, x = .ref a ∧ y = .ref b ∧ SqL K H a xs ∧ SqL K H b ys ∧ Paired SameV xs ys
theorem paired_at {P : Program} {w : World} {A : Around} {s : Shared} {F : V → V → Prop} (ih : ∀ x y v u, F x y → RelV x v → RelV y u → SeqAt.EqAt A s v u true) {xs ys : List V} (hp : Paired F xs ys) :
    ∀ {us ws : List Value}, Vals xs us → Vals ys ws → ∀ j (h1 : j < us.length) (h2 : j < ws.length), SeqAt.EqAt A s us[j] ws[j] true := by
  induction hp with
  | nil =>
    intro us ws r1 r2 j h1 h2
    cases r1
    exact absurd h1 (Nat.not_lt_zero j)
  | cons h _ k =>
    intro us ws r1 r2 j h1 h2
    cases r1 with
    | cons a1 b1 =>
      cases r2 with
      | cons a2 b2 =>
        cases j with
        | zero => exact ih _ _ _ _ h a1 a2
        | succ j => exact k b1 b2 j (Nat.lt_of_succ_lt_succ h1) (Nat.lt_of_succ_lt_succ h2)
theorem sameV_at {A : Around} {s : Shared} {x y : V} {v u : Value} (h : SameV x y) (r1 : RelV x v) (r2 : RelV y u) : SeqAt.EqAt A s v u true := by
  rcases h with ⟨rfl, f⟩ | ⟨a, rfl, rfl⟩
  · exact eqAt_same r1 r2 f
  · cases (show v = Value.ref a from r1)
    cases (show u = Value.ref a from r2)
    exact SeqAt.EqAt.same _
section
variable {X : Cx}
def rNeI (K : PySem.W.Frag) : R2 := fun x y H Q => ∃ a b xs ys, x = .ref a ∧ y = .ref b ∧ SqL K H a xs ∧ SqL K H b ys ∧ Paired (EqL1 K H) xs ys ∧ Q (.bl false) H
theorem op_neI (hu : X.A.units + 64 < cLine) : OpR X (compareOp .NotEq) (rNeI X.K) := by
  intro pins s σ H x y v u Q I rx ry h
  obtain ⟨a, b, xs, ys, rfl, rfl, ha, hb, hp, q⟩ := h
  cases (show v = Value.ref a from rx)
  cases (show u = Value.ref b from ry)
  obtain ⟨us, r1, p1, _⟩ := I.list ha
  obtain ⟨ws, r2, p2, _⟩ := I.list hb
  have hsz : us.toArray.size = ws.toArray.size := by
    rw [List.size_toArray, List.size_toArray, ← r1.length, ← r2.length]
    exact Paired.length hp
  have hu1 : X.A.in1.units < cLine := by show X.A.units + 1 < cLine; omega
  have hu2 : X.A.in1.in1.units < cLine := by show X.A.units + 1 + 1 < cLine; omega
  have one : ∀ x y v u, EqL1 X.K H x y → RelV x v → RelV y u → SeqAt.EqAt X.A.in1 s v u true := fun x y v u h rx ry => by
    rcases h with h | ⟨a, b, xs, ys, rfl, rfl, ha, hb, hp⟩
    · exact sameV_at h rx ry
    · cases (show v = Value.ref a from rx)
      cases (show u = Value.ref b from ry)
      by_cases e : a = b
      · subst e
        exact SeqAt.EqAt.same _
      · obtain ⟨us, r1, p1, _⟩ := I.list ha
        obtain ⟨ws, r2, p2, _⟩ := I.list hb
        have hsz : us.toArray.size = ws.toArray.size := by
          rw [List.size_toArray, List.size_toArray, ← r1.length, ← r2.length]
          exact Paired.length hp
        refine SeqAt.EqAt.of_refs e ?_
        have := SeqAt.RcAt.lists (A := X.A.in1) (e := fun _ => true) p1.isList p2.isList hsz hu1 (fun j h1 h2 => by
          have k := paired_at (P := X.prog) (w := X.w) (A := X.A.in1.in1) (s := s) (fun x y v u h r1 r2 => sameV_at h r1 r2) hp r1 r2 j (by simpa using h1) (by simpa using h2)
          simpa using k)
        rw [show ((List.range us.toArray.size).all fun _ => true) = true from List.all_eq_true.mpr fun _ _ => rfl] at this
        exact this
  have := SeqAt.RcNeAt.lists (A := X.A) (e := fun _ => true) p1.isList p2.isList hsz (by omega) (fun j h1 h2 => by
    have k := paired_at (P := X.prog) (w := X.w) (A := X.A.in1) (s := s) one hp r1 r2 j (by simpa using h1) (by simpa using h2)
    simpa using k)
  rw [show ((List.range us.toArray.size).all fun _ => true) = true from List.all_eq_true.mpr fun _ _ => rfl] at this
  exact this X.prog X.w _ _ ⟨.bl false, H, I, rfl, q⟩
end
def boolS (b : Bool) : Str := if b then PySem.Str.ofString "True" else PySem.Str.ofString "False"
theorem call_str_bl {X : Cx} : CallR X (.type "str") (fun xs H Q => ∃ b, xs = [.bl b] ∧ Q (.str (boolS b)) H) := by
  intro pins s σ H xs us Q I r ⟨b, e, q⟩
  subst e
  obtain ⟨u, rfl, ru⟩ := vals1 r
  obtain rfl : u = Value.bool b := ru
  exact P.str_of_bool ⟨.str (boolS b), H, I.tok _, ⟨_, rfl⟩, q⟩
end Rw
namespace Rw
open PySem PySem.Spec PyProof.Rows L2
/-! ### the names of rules, in order; whether a world is an answer of rules -/
noncomputable def theW (p : W → Prop) : W := @dite _ (∃ o, p o) (Classical.propDecidable _) (fun h => h.choose) fun _ => []
theorem theW_of {p : W → Prop} {o : W} (h : p o) (u : ∀ a, p a → a = o) : theW p = o := by
  unfold theW
  rw [dif_pos ⟨o, h⟩]
  exact u _ (Exists.choose_spec (⟨o, h⟩ : ∃ o, p o))
noncomputable def nmsW (S : List Rl) : W := theW fun own => IsW own ∧ ∀ z, z ∈ own ↔ z ∈ namesL S
theorem nmsW_of {S : List Rl} {own : W} (h : IsW own) (m : ∀ z, z ∈ own ↔ z ∈ namesL S) : nmsW S = own :=
  theW_of ⟨h, m⟩ fun a ha => upX_one ha.1.up h.up fun z => (ha.2 z).trans (m z).symm
theorem nmsW_congr {S L : List Rl} (h : ∀ r, r ∈ S ↔ r ∈ L) : nmsW S = nmsW L := by
  unfold nmsW
  refine congrArg theW (funext fun own => propext ⟨fun q => ⟨q.1, fun z => (q.2 z).trans (namesL_congr h z)⟩, fun q => ⟨q.1, fun z => (q.2 z).trans (namesL_congr h z).symm⟩⟩)
noncomputable def ansP (S : List Rl) (w : W) : Bool := sub w (nmsW S) && fdB S (nmsW S) w
theorem ansP_of {S : List Rl} {own w : W} (h : IsW own) (m : ∀ z, z ∈ own ↔ z ∈ namesL S) : (sub w own && fdB S own w) = ansP S w := by
  unfold ansP
  rw [nmsW_of h m]
theorem ansP_congr {S L : List Rl} {own w : W} (h : ∀ r, r ∈ S ↔ r ∈ L) (hw : IsW w) (ho : IsW own) (hm : ∀ z, z ∈ own ↔ z ∈ namesL S) : ansP S w = ansP L w := by
  have hm2 : ∀ z, z ∈ own ↔ z ∈ namesL L := fun z => (hm z).trans (namesL_congr h z)
  rw [← ansP_of ho hm, ← ansP_of ho hm2]
  cases c : sub w own with
  | false => rfl
  | true =>
    have hin : w ∈ everyW own := by
      rw [mem_every, ← mem_subs, parts_iff ho]
      exact ⟨hw, c⟩
    rw [fd_comp ho (nin_of hm) h hin, fd_comp ho (nin_of hm2) (fun _ => Iff.rfl) hin]
theorem in_ans {S : List Rl} {own w : W} (ho : IsW own) (hm : ∀ z, z ∈ own ↔ z ∈ namesL S) (hw : IsW w) : decide (w ∈ (everyW own).filter (fdB S own)) = ansP S w := by
  rw [in_told ho hw, ansP_of ho hm]
/-- what check_parting tells of a program SP and a world -/
noncomputable def partB (S1 S2 SP : List Rl) (z : Str) (w : W) : Bool := mayB z SP && (sub (nmsW SP) (nmsW (S1 ++ S2)) && (ansP (S1 ++ SP) w != ansP (S2 ++ SP) w))
/-! ### check_parting -/
abbrev nCheckPart : List Str := ["one", "other", "thing", "added", "part", "world"]
theorem scCheckPart : FnScope nCheckPart ["one", "other", "thing", "added"] (defScope sCheckPart) := ⟨rfl, rfl, rfl, by decide +kernel, rfl, by decide +kernel, by decide +kernel⟩
/-- no program -/
def NotP (K : PySem.W.Frag) (C : Addr) (H : Hp) (x : V) : Prop := ∃ t, TyX K H x t ∧ PySem.W.kitOne K t (.ref C) = some false
theorem NotP.same {K : PySem.W.Frag} {C : Addr} {H H' : Hp} {x : V} (h : NotP K C H x) (e : Same H H') : NotP K C H' x := let ⟨t, h1, h2⟩ := h; ⟨t, tyx_same e h1, h2⟩
/-- a thing, and what check_parting tells of it -/
def ThV (K : PySem.W.Frag) (C : Addr) (bd : W) (S1 S2 : List Rl) (z : Str) (H : Hp) (t : V) (b : Bool) : Prop :=
  (NotT K H t "tuple" ∧ b = false) ∨ (∃ a xs, t = .ref a ∧ SqT K H a xs ∧ xs.length ≠ 2 ∧ b = false) ∨
  (∃ a x0 x1, t = .ref a ∧ SqT K H a [x0, x1] ∧ ((NotP K C H x0 ∧ b = false) ∨ ∃ SP, PgAt K C H x0 SP ∧ (∀ r ∈ SP, IsR r) ∧ S1.length + SP.length < 76 ∧ S2.length + SP.length < 76 ∧ (∀ z ∈ namesL SP, z ∈ bd) ∧
    ((WlV K H x1 false ∧ b = false) ∨ ∃ ws, IsW ws ∧ Dp K H x1 (wd ws) ∧ b = partB S1 S2 SP z ws)))
theorem ThV.same {K : PySem.W.Frag} {C : Addr} {bd : W} {S1 S2 : List Rl} {z : Str} {H H' : Hp} {t : V} {b : Bool} (h : ThV K C bd S1 S2 z H t b) (e : Same H H') : ThV K C bd S1 S2 z H' t b := by
  rcases h with ⟨h, hb⟩ | ⟨a, xs, rfl, hS, hl, hb⟩ | ⟨a, x0, x1, rfl, hS, h⟩
  · exact .inl ⟨h.same e, hb⟩
  · exact .inr (.inl ⟨a, xs, rfl, same_tup e hS, hl, hb⟩)
  · refine .inr (.inr ⟨a, x0, x1, rfl, same_tup e hS, ?_⟩)
    rcases h with ⟨h, hb⟩ | ⟨SP, h1, h2, h3, h4, h5, h⟩
    · exact .inl ⟨h.same e, hb⟩
    · refine .inr ⟨SP, h1.same e, h2, h3, h4, h5, ?_⟩
      rcases h with ⟨h, hb⟩ | ⟨ws, hw, hd, hb⟩
      · exact .inl ⟨h.same e, hb⟩
      · exact .inr ⟨ws, hw, dp_same e _ _ hd, hb⟩
theorem namesL_app (S L : List Rl) (z : Str) : z ∈ namesL (S ++ L) ↔ z ∈ namesL S ∨ z ∈ namesL L := by
  unfold namesL
  rw [List.flatMap_append, List.mem_append]
section
variable {P : Program} {w : World} {K : PySem.W.Frag} {mg : Str → Option Value} {base : Heap} {f : Addr} {fd : FuncData} {k : Nat}
def spCheckPart (K : PySem.W.Frag) (C CP CK : Addr) : Sp := fun vs H Q E => ∃ x y t v : V, vs = [x, y, t, v] ∧ (AskR K C CP CK x y v H E (fun _ => False) ∨
  ∃ (S1 S2 : List Rl) (z : Str) (bd : W) (b : Bool), PgAt K C H x S1 ∧ (∀ r ∈ S1, IsR r) ∧ PgAt K C H y S2 ∧ (∀ r ∈ S2, IsR r) ∧ S1.length + S2.length < 76 ∧ v = .str z ∧ z ∈ addW ∧ (∀ z ∈ namesL S1, z ∈ bd) ∧ (∀ z ∈ namesL S2, z ∈ bd) ∧ bd.length ≤ 40 ∧ ThV K C bd S1 S2 z H t b ∧ ∀ H', Same H H' → Q (.bl b) H')
theorem askR_false {K : PySem.W.Frag} {C CP CK : Addr} {x y v : V} {H : Hp} {E : XK} {G : Hp → Prop} (h : AskR K C CP CK x y v H E fun _ => False) : AskR K C CP CK x y v H E G := by
  rcases h with h | ⟨h1, h | ⟨h2, h | ⟨_, _, _, h⟩⟩⟩
  · exact .inl h
  · exact .inr ⟨h1, .inl h⟩
  · exact .inr ⟨h1, .inr ⟨h2, .inl h⟩⟩
  · exact h.elim
theorem dp_pgE {C : Addr} {H : Hp} {v : V} {S : List Rl} (h : PgAt K C H v S) : ∃ a dx fs, v = .ref a ∧ H a = some (.ins C dx fs) := by
  obtain ⟨a, dx, t, ys, rfl, h1, _⟩ := h
  exact ⟨a, dx, _, rfl, h1⟩
/-- one + other, both told -/
theorem add_ok {C CP : Addr} {E : XK} {i j : Nat} {σ : L2.St} {x y : V} {S1 S2 : List Rl} {H : Hp} {Q : VK} (hx : σ[i]? = some (some x)) (hy : σ[j]? = some (some y)) (h1 : PgAt K C H x S1) (hI1 : ∀ r ∈ S1, IsR r) (h2 : PgAt K C H y S2) (hI2 : ∀ r ∈ S2, IsR r) (few : S1.length + S2.length < 76)
    (q : ∀ H' v S, Same H H' → (∀ r, r ∈ S ↔ r ∈ S1 ++ S2) → (∀ r ∈ S, IsR r) → S.length < 76 → PgAt K C H' v S → Q v H') : tOp (rBinP C (spAdd K C CP) E) (tVar i) (tVar j) σ H Q := by
  obtain ⟨a1, dx1, f1, rfl, i1⟩ := dp_pgE h1
  obtain ⟨a2, dx2, f2, rfl, i2⟩ := dp_pgE h2
  refine ⟨.ref a1, hx, .ref a2, hy, a1, dx1, f1, a2, dx2, f2, rfl, rfl, i1, i2, .ref a1, .ref a2, S1, rfl, h1, hI1, .inl ⟨S2, h2, hI2, few, fun H3 v3 S3 s3 hS3 few3 hv3 => ?_⟩⟩
  exact q H3 v3 S3 s3 hS3.mem (fun r hr => (List.mem_append.mp ((hS3.mem r).mp hr)).elim (hI1 r) (hI2 r)) few3 hv3
theorem prop_ok {C : Addr} {E : XK} {v : V} {S : List Rl} {bd : W} {H : Hp} {Q : VK} (hS : PgAt K C H v S) (hI : ∀ r ∈ S, IsR r) (hbd : ∀ z ∈ namesL S, z ∈ bd) (lbd : bd.length ≤ 40)
    (q : ∀ H' tn own, Same H H' → SqT K H' tn (own.map V.str) → IsW own → (∀ z, z ∈ own ↔ z ∈ namesL S) → Q (.ref tn) H') : ∃ a dx fs, v = .ref a ∧ H a = some (.ins C dx fs) ∧ spNames K C [.ref a] H Q E := by
  obtain ⟨a, dx, fs, rfl, i1⟩ := dp_pgE hS
  exact ⟨a, dx, fs, rfl, i1, .ref a, S, bd, rfl, hS, hI, hbd, lbd, fun H' t ns s h1 h2 h3 => q H' t ns s h1 h2 h3⟩
theorem ok_checkPart {C CP CK CW pN fA f1 f2 f3 f4 f5 fN : Addr} {fdN fd1 fd2 fd3 fd4 fd5 : FuncData} (F : FunD K "check_parting" "check_parting" (defArgs sCheckPart) (defBody sCheckPart) (defScope sCheckPart) [.str "rules"] [] f fd) (T : Bl mg) (mC : mg "Program" = some (.ref C)) (G : PgC K mg C) (c : Cls K C)
    (hsf : PySem.W.selfFirst K C = true) (hsA : PySem.W.findIn K (.ref C) (PySem.dunder Operator.Add.info.2) = some (some (.ref fA))) (hfA : PySem.W.isFn K (.ref fA) = true) (FA : FnR P w K mg base (L2.CX P w) (k + 3) fA (spAdd K C CP))
    (hpN : PropOf K C "names" pN fN) (GN : FnOk P w K mg base CX0 (k + 2) fN fdN ["self"] (spNames K C)) (bN : Binds K fdN ["self"] [])
    (G1 : FnOk P w K mg base (L2.CX P w) (k + 3) f1 fd1 ["one", "other", "added"] (spAskR K C CP CK)) (b1 : Binds K fd1 ["one", "other", "added"] []) (k1 : PySem.W.keepIn K (.ref f1) = true) (m1 : mg "_check_asked" = some (.ref f1))
    (G2 : FnOk P w K mg base CX0 (k + 3) f2 fd2 ["thing"] (spIsWorldX K)) (b2 : Binds K fd2 ["thing"] []) (k2 : PySem.W.keepIn K (.ref f2) = true) (m2 : mg "is_world" = some (.ref f2))
    (G3 : FnOk P w K mg base CX0 (k + 3) f3 fd3 ["part", "added"] (spMayAdd K C)) (b3 : Binds K fd3 ["part", "added"] []) (k3 : PySem.W.keepIn K (.ref f3) = true) (m3 : mg "_may_be_added" = some (.ref f3))
    (G4 : FnOk P w K mg base CX0 (k + 3) f4 fd4 ["names", "wanted"] (spHasAll K)) (b4 : Binds K fd4 ["names", "wanted"] []) (k4 : PySem.W.keepIn K (.ref f4) = true) (m4 : mg "has_all" = some (.ref f4))
    (G5 : FnOk P w K mg base (L2.CX P w) (k + 3) f5 fd5 ["program", "world"] (spIsAnswer K C CP CW)) (b5 : Binds K fd5 ["program", "world"] []) (k5 : PySem.W.keepIn K (.ref f5) = true) (m5 : mg "is_answer" = some (.ref f5)) :
    FnOk P w K mg base (L2.CX P w) (k + 4) f fd ["one", "other", "thing", "added"] (spCheckPart K C CP CK) := by
  refine F.ok scCheckPart (fun vs H Q E h => ?_) (fun cdv A outer s H vs Q E hr h => ?_)
  · obtain ⟨x, y, t, v, rfl, _⟩ := h
    rfl
  obtain ⟨x, y, t, v, rfl, h⟩ := h
  refine ⟨_, (pss_cons (ps_expr (pe_call G1 hr (by rfl) m1 k1 b1 .nil (passes_call (takes_of rfl rfl rfl rfl) (fun _ _ _ _ h => h)) (pa_cons (pv 0) (pa_cons (pv 1) (pa_cons (pv 3) pa_nil))))) (pss_cons (ps_if (PW.pt (pw_or (pt_not (pt_val (pe_callB call_isi (by rfl) T.isi PyProof.Rows.boot_isinstance (pa_cons (pv 2) (pa_cons (pe_bltn (v := .ty "tuple") (by rfl) T.tuple (by decide +kernel) rfl) pa_nil))))) (pw_or1 (pt_cmpR  op_ne (pe_callB call_len_seq (by rfl) T.len PySem.boot_len (pa_cons (pv 2) pa_nil)) pe_int (nomark _))))) (pss_one (ps_ret pe_bl)) pss_nil) (pss_cons (ps_asg (pv 2) (pg_tup (by rfl) (pgs_cons (pg_name (i := 4) scCheckPart.nd rfl (.inl rfl)) (pgs_cons (pg_name (i := 5) scCheckPart.nd rfl (.inl rfl)) pgs_nil)))) (pss_cons (ps_if (PW.pt (pw_or (pt_not (pt_val (pe_callB call_isi (by rfl) T.isi PyProof.Rows.boot_isinstance (pa_cons (pv 4) (pa_cons (pe_glob (v := .ref C) (by rfl) mC rfl) pa_nil))))) (pw_or (pt_not (pt_val (pe_call G2 hr (by rfl) m2 k2 b2 .nil pass0 (pa_cons (pv 5) pa_nil)))) (pw_or1 (pt_not (pt_val (pe_call G3 hr (by rfl) m3 k3 b3 .nil pass0 (pa_cons (pv 4) (pa_cons (pv 3) pa_nil))))))))) (pss_one (ps_ret pe_bl)) pss_nil) (pss_cons (ps_if (pt_not (pt_val (pe_call G4 hr (by rfl) m4 k4 b4 .nil pass0 (pa_cons (pe_prop (pe_op (op_binP hsf hsA hfA FA hr passNo) (pv 0) (pv 1)) c hpN GN hr bN .nil pass0 rfl) (pa_cons (pe_prop (pv 4) c hpN GN hr bN .nil pass0 rfl) pa_nil))))) (pss_one (ps_ret pe_bl)) pss_nil) (pss_one (ps_ret (pe_cmpR  op_ne (pe_call G5 hr (by rfl) m5 k5 b5 .nil passNo (pa_cons (pe_op (op_binP hsf hsA hfA FA hr passNo) (pv 0) (pv 4)) (pa_cons (pv 5) pa_nil))) (pe_call G5 hr (by rfl) m5 k5 b5 .nil passNo (pa_cons (pe_op (op_binP hsf hsA hfA FA hr passNo) (pv 1) (pv 4)) (pa_cons (pv 5) pa_nil))) (nomark _))))))))), ?_⟩
  rcases h with h | ⟨S1, S2, z, bd, b, h1, hI1, h2, hI2, few, rfl, hz, hb1, hb2, lbd, hT, q⟩
  · exact ⟨x, rfl, y, rfl, v, rfl, x, y, v, rfl, askR_false h⟩
  have refl : Same H H := fun _ _ e => e
  refine ⟨x, rfl, y, rfl, .str z, rfl, x, y, .str z, rfl, .inr ⟨⟨S1, h1⟩, .inr ⟨⟨S2, h2⟩, .inr ⟨z, hz, rfl, ?_⟩⟩⟩⟩
  rcases hT with ⟨⟨ty, t1, t2⟩, rfl⟩ | ⟨a, xs, rfl, hS, hl, rfl⟩ | ⟨a, x0, x1, rfl, hS, hT⟩
  · exact ⟨t, rfl, t, .ty "tuple", ty, .type "tuple", false, rfl, .ty "tuple", t1, t2, false, rfl, iteT (q H refl)⟩
  · refine ⟨.ref a, rfl, .ref a, .ty "tuple", .type "tuple", .type "tuple", true, rfl, .ty "tuple", tyx_tup hS, kit_ty (by decide +kernel), true, rfl, iteF ⟨.ref a, rfl, a, xs, rfl, .inr hS, rfl, true, congrArg V.bl ?_, iteT (q H refl)⟩⟩
    rw [decide_eq_false fun e => hl (by injection e with e; omega)]
    rfl
  refine ⟨.ref a, rfl, .ref a, .ty "tuple", .type "tuple", .type "tuple", true, rfl, .ty "tuple", tyx_tup hS, kit_ty (by decide +kernel), true, rfl, iteF ⟨.ref a, rfl, a, [x0, x1], rfl, .inr hS, rfl, false, rfl, iteF ?_⟩⟩
  refine ⟨.ref a, rfl, a, _, rfl, hS, rfl, _, _, rfl, _, [], rfl, rfl, ?_⟩
  rcases hT with ⟨⟨ty, t1, t2⟩, rfl⟩ | ⟨SP, hP, hIP, few1, few2, hbP, hT⟩
  · exact ⟨x0, rfl, x0, .ref C, ty, .ref C, false, rfl, .own C, t1, t2, false, rfl, iteT (q H refl)⟩
  obtain ⟨p, dxp, tp, ysp, rfl, g1, g2, g3⟩ := id hP
  refine ⟨.ref p, rfl, .ref p, .ref C, .ref C, .ref C, true, rfl, .own C, ty_ins G g1, G.yes, true, rfl, iteF ?_⟩
  rcases hT with ⟨hW, rfl⟩ | ⟨ws, hw, hd, rfl⟩
  · exact ⟨x1, rfl, x1, false, rfl, hW, fun H1 s1 => ⟨false, rfl, iteT (q H1 s1)⟩⟩
  refine ⟨x1, rfl, x1, true, rfl, .inl ⟨wd ws, hd, oddW_wd hw, (worldD_wd hw).symm⟩, fun H1 s1 => ⟨true, rfl, iteF ?_⟩⟩
  refine ⟨.ref p, rfl, .str z, rfl, .ref p, z, SP, rfl, hz, hP.same s1, by omega, fun H2 s2 => ⟨mayB z SP, rfl, ?_⟩⟩
  have s12 := s1.trans s2
  cases em : mayB z SP with
  | false =>
    have z0 := q H2 s12
    unfold partB at z0
    rw [em, Bool.false_and] at z0
    exact iteT z0
  | true =>
  refine iteF ?_
  unfold partB at q
  rw [em, Bool.true_and] at q
  refine add_ok (i := 0) (j := 1) rfl rfl (h1.same s12) hI1 (h2.same s12) hI2 few fun H3 v3 S3 s3 m3 hI3 few3 hv3 => ?_
  have hb3 : ∀ z ∈ namesL S3, z ∈ bd := fun z hz => by
    have := (namesL_congr m3 z).mp hz
    exact ((namesL_app S1 S2 z).mp this).elim (hb1 z) (hb2 z)
  refine prop_ok hv3 hI3 hb3 lbd fun H4 tn own s4 htn hown hm => ?_
  have s14 := s12.trans (s3.trans s4)
  refine ⟨.ref p, rfl, prop_ok (hP.same s14) hIP hbP lbd fun H5 tm ownP s5 htm hownP hmP => ?_⟩
  have fw := hownP.few
  refine ⟨.ref tn, .ref tm, own, ownP, rfl, ⟨tn, rfl, .inr (same_tup s5 htn)⟩, ⟨tm, rfl, .inr htm⟩, by omega, fun H6 s6 => ⟨sub ownP own, rfl, ?_⟩⟩
  have s16 := s14.trans (s5.trans s6)
  have e1 : nmsW SP = ownP := nmsW_of hownP hmP
  have e2 : nmsW (S1 ++ S2) = own := (nmsW_congr m3).symm.trans (nmsW_of hown hm)
  rw [e1, e2] at q
  cases es : sub ownP own with
  | false =>
    have z0 := q H6 s16
    rw [es, Bool.false_and] at z0
    exact iteT z0
  | true =>
  refine iteF ?_
  rw [es, Bool.true_and] at q
  have nbd : ∀ {S : List Rl} {Sn : List Rl}, (∀ r, r ∈ S ↔ r ∈ Sn ++ SP) → (∀ z ∈ namesL Sn, z ∈ bd) → ∀ z ∈ namesL S, z ∈ bd := fun {S Sn} m hb z hz => by
    have := (namesL_congr m z).mp hz
    exact ((namesL_app Sn SP z).mp this).elim (hb z) (hbP z)
  refine add_ok (i := 0) (j := 4) rfl rfl (h1.same s16) hI1 (hP.same s16) hIP few1 fun H7 v7 S7 s7 m7 hI7 few7 hv7 => ?_
  have s17 := s16.trans s7
  refine ⟨x1, rfl, v7, x1, rfl, .inl ⟨S7, bd, wd ws, hv7, hI7, few7, nbd m7 hb1, lbd, .inl ⟨dp_same s17 _ _ hd, oddW_wd hw⟩, fun H8 s8 => ⟨fun own8 ws8 ho8 hm8 hw8 e8 => ?_, fun wf => by rw [worldD_wd hw] at wf; exact nomatch wf⟩⟩⟩
  have e8 := wd_inj e8
  subst e8
  rw [ansP_of ho8 hm8]
  have s18 := s17.trans s8
  refine add_ok (i := 1) (j := 4) rfl rfl (h2.same s18) hI2 (hP.same s18) hIP few2 fun H9 v9 S9 s9 m9 hI9 few9 hv9 => ?_
  have s19 := s18.trans s9
  refine ⟨x1, rfl, v9, x1, rfl, .inl ⟨S9, bd, wd ws, hv9, hI9, few9, nbd m9 hb2, lbd, .inl ⟨dp_same s19 _ _ hd, oddW_wd hw⟩, fun HA sA => ⟨fun ownA wsA hoA hmA hwA eA => ?_, fun wf => by rw [worldD_wd hw] at wf; exact nomatch wf⟩⟩⟩
  have eA := wd_inj eA
  subst eA
  rw [ansP_of hoA hmA]
  refine ⟨rfl, ?_⟩
  have z0 := q HA (s19.trans sA)
  rw [← ansP_congr m7 hw ho8 hm8, ← ansP_congr m9 hw hoA hmA] at z0
  have : (!decide (V.bl (ansP S7 ws) = V.bl (ansP S9 ws))) = (ansP S7 ws != ansP S9 ws) := by
    cases ansP S7 ws <;> cases ansP S9 ws <;> rfl
  rw [this]
  exact z0
end
end Rw
namespace Rw
open PySem PySem.Spec PyProof.Rows L2
/-! ### a table of sixteen slots, filled anew -/
theorem all15 : ((List.range 16).all fun i => (List.range 16).all fun j => (List.range 16).any fun k => lcgI 15 i k == j) = true := by decide +kernel
theorem meets15 (h : Int) {j : Nat} (hj : j ≤ 15) : ∃ n, n ≤ 27 ∧ runI 15 (SetTable.bits h) n = j := by
  have hi := runI_le 15 (SetTable.bits h) 12
  have a1 := List.all_eq_true.mp all15 (runI 15 (SetTable.bits h) 12) (List.mem_range.mpr (by omega))
  have a2 := List.all_eq_true.mp a1 j (List.mem_range.mpr (by omega))
  obtain ⟨k, hk, e⟩ := List.any_eq_true.mp a2
  have kl := List.mem_range.mp hk
  refine ⟨12 + k, by omega, ?_⟩
  rw [runI_tail (bits_lt h)]
  exact beq_iff_eq.mp e
theorem way15_le (h : Int) (k : Nat) : way 15 h k ≤ 15 := by
  have h0 : SetTable.bits h % (15 + 1) ≤ 15 := by omega
  have z := nth_in (m := 15) k (runAt 15 (SetTable.bits h % (15 + 1)) (SetTable.bits h)) (by
    have := runEnd_bd h0
    show SetTable.bits h % (15 + 1) + (SetTable.runEnd 15 (SetTable.bits h % (15 + 1)) - SetTable.bits h % (15 + 1)) ≤ 15
    omega)
  show (nth 15 (runAt 15 (SetTable.bits h % (15 + 1)) (SetTable.bits h)) k).j ≤ 15
  omega
theorem free15 (owner : Array (Option Nat)) (h : Int) {j : Nat} (hj : j ≤ 15) (hf : oAt owner j = none) :
    ∃ i, SetTable.layClean.free 15 owner (SetTable.turns 15) (SetTable.bits h % (15 + 1)) (SetTable.bits h) = some i ∧ i ≤ 15 ∧ oAt owner i = none := by
  obtain ⟨n, hn, e⟩ := meets15 h hj
  have here : oAt owner (way 15 h (off 15 (SetTable.bits h % (15 + 1)) (SetTable.bits h) n)) = none := by
    have z : way 15 h (off 15 (SetTable.bits h % (15 + 1)) (SetTable.bits h) n) = j := by
      unfold way
      rw [nth_off, itL_run]
      exact e
    rw [z, hf]
  obtain ⟨K, k1, k2, k3⟩ := st_least (p := fun k => oAt owner (way 15 h k) = none) _ here
  refine ⟨way 15 h K, free_spec 15 owner _ n _ _ K (by show n < 30; omega) k1 (fun k hk => ?_) ?_, way15_le h K, k2⟩
  · rw [Option.isNone_eq_false_iff, Option.isSome_iff_ne_none]
    exact k3 k hk
  · rw [Option.isNone_iff_eq_none]
    exact k2
/-- n keys sit in sixteen slots -/
structure Sit (n : Nat) (owner : Array (Option Nat)) : Prop where
  sz : owner.size = 16
  all : ∀ k, k < n → ∃ j, j ≤ 15 ∧ oAt owner j = some k
  ps : ∃ ps : List Nat, ps.length = n ∧ ∀ j, j ≤ 15 → oAt owner j ≠ none → j ∈ ps
theorem Sit.fold : ∀ (rest : List Int) (n : Nat) (owner : Array (Option Nat)), Sit n owner → n + rest.length ≤ 15 →
    ∃ o2, rest.foldl (stepF 15) (some (owner, n)) = some (o2, n + rest.length) ∧ Sit (n + rest.length) o2
  | [], n, owner, W, _ => ⟨owner, rfl, W⟩
  | h :: rest, n, owner, W, hl => by
    rw [List.length_cons] at hl
    obtain ⟨ps, p1, p2⟩ := W.ps
    obtain ⟨j0, b0, n0⟩ := st_missing ps 16 (by omega)
    have f0 : oAt owner j0 = none := Classical.byContradiction fun z => n0 (p2 j0 (by omega) z)
    obtain ⟨i, e, il, fi⟩ := free15 owner h (j := j0) (by omega) f0
    have self := oAt_set_self (owner := owner) (some n) (show i < owner.size by rw [W.sz]; omega)
    have W2 : Sit (n + 1) (owner.setIfInBounds i (some n)) := by
      refine ⟨by rw [Array.size_setIfInBounds, W.sz], fun k hk => ?_, i :: ps, by rw [List.length_cons, p1], fun j hj hne => ?_⟩
      · rcases Nat.lt_or_ge k n with c | c
        · obtain ⟨j, hj, ej⟩ := W.all k c
          have ne : j ≠ i := fun z => by
            rw [z, fi] at ej
            exact nomatch ej
          exact ⟨j, hj, by rw [oAt_set_ne _ ne, ej]⟩
        · obtain rfl : k = n := by omega
          exact ⟨i, il, self⟩
      · by_cases c : j = i
        · rw [c]
          exact List.mem_cons_self
        · rw [oAt_set_ne _ c] at hne
          exact List.mem_cons_of_mem _ (p2 j hj hne)
    obtain ⟨o2, g1, g2⟩ := Sit.fold rest (n + 1) _ W2 (by omega)
    rw [show n + (h :: rest).length = n + 1 + rest.length by rw [List.length_cons]; omega]
    refine ⟨o2, ?_, g2⟩
    rw [List.foldl_cons, stepF_some e]
    exact g1
theorem laid15 (finger moves : Nat) (led plain : Bool) {hs : Array Int} (hn : hs.size ≤ 15) : ∃ t order, SetTable.laid 15 finger moves led plain hs = some (t, order) ∧ order.toList.Perm (List.range hs.size) ∧ Ris t.place.toList ∧ t.place.size = hs.size ∧ t.mask = 15 ∧ t.led = led ∧ t.dummies = #[] := by
  have init : Sit 0 (Array.replicate 16 none) := ⟨by simp, (fun k hk => absurd hk (Nat.not_lt_zero _)), [], rfl, fun j hj e => absurd (oAt_init (m := 15) hj) e⟩
  obtain ⟨owner, f, W⟩ := Sit.fold hs.toList 0 _ init (by rw [Array.length_toList]; omega)
  have lc : SetTable.layClean 15 hs = some owner := by
    rw [layClean_eq]
    show Option.map _ (hs.toList.foldl (stepF 15) (some (Array.replicate 16 none, 0))) = _
    rw [f]
    rfl
  rw [Nat.zero_add, Array.length_toList] at W
  have e : SetTable.laid 15 finger moves led plain hs = some ({ mask := 15, place := ((liveOf 15 owner).map (·.1)).toArray, dummies := #[], finger, led, moves, plain }, ((liveOf 15 owner).map (·.2)).toArray) := by
    unfold SetTable.laid
    rw [lc]
    rfl
  have sz : owner.size = 15 + 1 := W.sz
  have rl := ris_live (fun j => owner.getD j none) (List.range 16) (by
    unfold Ris
    exact List.pairwise_lt_range)
  have r1 : Ris ((liveOf 15 owner).map (·.1)) := rl.1
  have hlen : (liveOf 15 owner).length = hs.size := by
    obtain ⟨ps, p1, p2⟩ := W.ps
    have nd : ((liveOf 15 owner).map (·.1)).Nodup := List.Pairwise.imp (fun h => Nat.ne_of_lt h) r1
    have a := nat_nodup_len ((liveOf 15 owner).map (·.1)) ps nd fun x hx => by
      obtain ⟨⟨y, k⟩, hq, rfl⟩ := List.mem_map.mp hx
      obtain ⟨b1, b2⟩ := (mem_live sz).1 hq
      exact p2 y b1 (by rw [b2]; exact fun z => nomatch z)
    have b := nat_nodup_len (List.range hs.size) ((liveOf 15 owner).map (·.2)) List.nodup_range fun k hk => by
      obtain ⟨j, b1, b2⟩ := W.all k (List.mem_range.mp hk)
      exact List.mem_map.mpr ⟨(j, k), (mem_live sz).2 ⟨b1, b2⟩, rfl⟩
    rw [List.length_map, p1] at a
    rw [List.length_map, List.length_range] at b
    omega
  refine ⟨_, _, e, ?_, r1, by rw [List.size_toArray, List.length_map, hlen], rfl, rfl, rfl⟩
  refine perm_range hs.size _ (by show ((liveOf 15 owner).map (·.2)).length = _; rw [List.length_map, hlen]) fun k hk => ?_
  obtain ⟨j, b1, b2⟩ := W.all k hk
  exact List.mem_map.mpr ⟨(j, k), (mem_live sz).2 ⟨b1, b2⟩, rfl⟩
end Rw
namespace Rw
open PySem PySem.Spec PyProof.Rows L2
/-! ### a set walked at once, and asked for a key -/
section
variable {P : Program} {w : World} {A : Around} {E : Value → Shared → Prop} {s : Shared} {a : Addr} {L : List (Addr × NK)} {es : Array (Int × Value)} {ep : Nat} {t : SetTable}
theorem walk_perm {o : Obj} (ho : s.heap.get? a = some o) (hd : o.data = .set es ep t) (hf : t.fits es.size = true) (hl : w.params.followText "set-order" = true ∨ t.led = true) {Q : Array (Int × Value) → Shared → Prop}
    (hQ : ∀ out d, out.toList.Perm es.toList → Q out { s with drawn := d }) : wpAny (model P w) A (setWalk a) Q E s := by
  unfold setWalk
  refine wpAny_bind (wpAny_setState_of ho hd hf ?_)
  dsimp only
  refine wpAny_bind (wpAny_byText ?_)
  by_cases bt : w.params.followText "set-order" = true
  · refine wp_if_pos bt ?_
    exact wpAny_bind (wpAny_askSetting (wpAny_pure (hQ _ s.drawn (pick_perm _ es))))
  · refine wp_if_neg bt ?_
    have led : t.led = true := hl.resolve_left bt
    by_cases dr : (!t.plain && decide (es.size > 1)) = true
    · first
        | refine wp_if_pos dr ?_
        | refine wpAny_bind (wp_if_pos dr ?_)
      exact wpAny_bind (drawOrder_at _ _ s _ (by rw [Array.length_toList]; exact Nat.le_refl _) fun ys d p => wpAny_pure (hQ _ d p))
    · first
        | refine wp_if_neg dr ?_
        | refine wpAny_bind (wp_if_neg dr ?_)
      refine wpAny_bind (wpAny_of_eq (a := ()) ?_ ?_)
      · show (if (!t.led && decide (es.size > 1)) = true then unsupported "set:maker-not-led" else pure ()) = pure ()
        rw [led]
        rfl
      · exact wpAny_pure (hQ es s.drawn (List.Perm.refl _))
/-- the sets are not quiet: the first has a tuple -/
theorem not_quiet (R : TSet P w s.heap a L es ep t) {p : Addr × NK} {L' : List (Addr × NK)} (hL : L = p :: L') {others : List Addr} (hp : ∃ o xs n, s.heap.get? p.1 = some o ∧ o.cls = .type "tuple" ∧ o.data = .seq xs n) {Q : Bool → Shared → Prop} (hQ : Q false s) :
    wpAny (model P w) A (setsQuiet (a :: others)) Q E s := by
  obtain ⟨o, ho, hex, hd⟩ := R.ob
  obtain ⟨u, xs, n, hu, hc, _⟩ := hp
  have e0 : es.toList = (p.2.hash w, Value.ref p.1) :: ents w L' := by
    rw [R.en, hL]
    rfl
  unfold setsQuiet
  refine wpAny_bind ?_
  rw [List.forIn_cons]
  refine wpAny_bind ?_
  refine wpAny_bind (wpAny_setEntries_of ho hd R.fits ?_)
  refine wpAny_bind ?_
  rw [← Array.forIn_toList, e0, List.forIn_cons]
  refine wpAny_bind ?_
  dsimp only
  refine wpAny_bind (wpAny_specialOf (T := "tuple") ⟨u, hu, hc⟩ F.slot_tuple_eq.lookup ?_)
  refine wp_if_pos (by decide) ?_
  refine wpAny_pure ?_
  refine wpAny_pure ?_
  refine wpAny_pure ?_
  exact wpAny_pure (wpAny_pure hQ)
theorem nested_tup {h : Heap} {k : NK} {b : Addr} (x : NestedIs h k (.ref b)) : ∃ o xs n, h.get? b = some o ∧ o.cls = .type "tuple" ∧ o.data = .seq xs n := by
  cases x with
  | tup h1 h2 h3 h4 => exact ⟨_, _, _, h1, h2, h3⟩
theorem unseen_perm (R : TSet P w s.heap a L es ep t) {others : List Addr} {filled : Option Addr} {Q : Array (Int × Value) → Shared → Prop}
    (hQ : ∀ out d, out.toList.Perm es.toList → Q out { s with drawn := d }) : wpAny (model P w) A (setWalkUnseen a others filled) Q E s := by
  obtain ⟨o, ho, hex, hd⟩ := R.ob
  have wk := walk_perm (A := A) (E := E) (P := P) ho hd R.fits R.led hQ
  unfold setWalkUnseen
  refine wpAny_bind (wpAny_setState_of ho hd R.fits ?_)
  dsimp only
  refine wpAny_bind (wpAny_byText ?_)
  by_cases c : (w.params.followText "set-order" || (t.led && t.plain) || decide (es.size ≤ 1)) = true
  · refine wp_if_pos c ?_
    first
      | exact wk
      | exact wpAny_bind (wpAny_mono wk (fun _ _ h => wpAny_pure h) fun _ _ h => h)
  · refine wp_if_neg c ?_
    have many : ¬ es.size ≤ 1 := fun z => c (by rw [decide_eq_true z, Bool.or_true])
    have sz := size_of_ents R.en
    obtain ⟨p, L', hL⟩ : ∃ p L', L = p :: L' := by
      cases L with
      | nil => exact absurd (by rw [sz]; decide) many
      | cons p L' => exact ⟨p, L', rfl⟩
    have pk := R.ks p (by rw [hL]; exact List.mem_cons_self)
    refine wpAny_bind (not_quiet R hL (nested_tup pk.1) ?_)
    refine wp_if_pos (by decide) ?_
    first
      | exact wk
      | exact wpAny_bind (wpAny_mono wk (fun _ _ h => wpAny_pure h) fun _ _ h => h)
/-! the search that adds nothing -/
theorem seek (R : TSet P w s.heap a L es ep t) {x : Addr} {k : NK} (hx : TupK s.heap k x) (hu : A.units + 8 < cLine) {g : Int} (hg : g = k.hash w) {K : Nat} (hf : K < 10 * SetTable.turns t.mask)
    (free : way t.mask g K ∉ t.place.toList) (full : ∀ c, c < K → way t.mask g c ∈ t.place.toList) {Q : SetFound → Shared → Prop}
    (yes : ∀ (i : Nat) p, L[i]? = some p → p.2 = k → Q (.there (some i)) s) (no : k ∉ L.map (·.2) → Q (.free (way t.mask g K) false) s) :
    ∀ (f c : Nat) (stand : Option SetTable.Probe), stand.getD (t.probeStart g) = st t.mask g c → c ≤ K → K - c < f →
      (∀ (i : Nat) p, L[i]? = some p → p.2 = k → ∃ c', c ≤ c' ∧ c' < K ∧ t.place.toList[i]? = some (way t.mask g c')) →
      wpAny (model P w) A (setSearchFrom a (.ref x) g false f stand) Q E s
  | 0, c, stand, _, _, h, _ => absurd h (Nat.not_lt_zero _)
  | f + 1, c, stand, hst, hc, hlt, ahead => by
    obtain ⟨o, ho, hex, hd⟩ := R.ob
    have big := R.fits
    have hashOf : ∀ (i : Nat) p, L[i]? = some p → (es[i]?.map (·.1)).getD 0 = p.2.hash w := fun i p hp => by
      rw [R.at hp]
      rfl
    have oddM := mask_odd R.tab.mok
    rw [setSearchFrom_succ]
    refine wpAny_bind (wpAny_setState_of ho hd big ?_)
    dsimp only
    refine wp_if_neg (by unfold SetTable.gaveWay; rw [oddM]; decide) ?_
    try refine wpAny_bind (wpAny_pure ?_)
    have jAt : ∀ q, (nth t.mask (st t.mask g c) q).j = way t.mask g (c + q) := fun q => congrArg SetTable.Probe.j (st_more t.mask g c q)
    rcases go_spec t R.tab.ris R.tab.dm (fun i => (es[i]?.map (·.1)).getD 0) g (10 * SetTable.turns t.mask) (K - c) (st t.mask g c) (st_dummy _ _ _) (by omega)
      (fun q hq => by rw [jAt]; exact full (c + q) (by omega)) (by rw [jAt, show c + (K - c) = K by omega]; exact free) with ⟨q, i, hq, hi, hh, first, met⟩ | ⟨none_, met⟩
    · have met' : t.probe (fun i => (es[i]?.map (·.1)).getD 0) g (stand.getD (t.probeStart g)) = some (.candidate (way t.mask g (c + q)) i (st t.mask g (c + (q + 1)))) := by
        rw [hst, ← jAt, ← st_more]
        exact met
      rw [met']
      dsimp only
      rw [jAt] at hi
      have il : i < L.length := by
        have z1 : i < t.place.toList.length := (List.getElem?_eq_some_iff.mp hi).1
        have z2 := R.tab.sz
        rw [hashes_len] at z2
        rw [Array.length_toList] at z1
        omega
      obtain ⟨p, hp⟩ : ∃ p, L[i]? = some p := ⟨L[i], List.getElem?_eq_getElem il⟩
      have pm : p ∈ L := List.mem_of_getElem? hp
      have pk := R.ks p pm
      have go : wpAny (model P w) A (searchRest a (.ref x) g false f es t (way t.mask g (c + q)) i (st t.mask g (c + (q + 1)))) Q E s := by
        unfold searchRest
        rw [R.at hp]
        dsimp only
        refine wpAny_bind (wpAny_holding ((nestedKind P w).eqBool (x := p.2) (y := k) hu pk hx ?_))
        refine wpAny_bind (wpAny_setState_of ho hd big ?_)
        dsimp only
        refine wp_if_neg (by simp) ?_
        try refine wpAny_bind (wpAny_pure ?_)
        rw [sameMem]
        dsimp only
        have live : t.slot (way t.mask g (c + q)) = .live i := slot_live R.tab.ris hi
        simp only [if_true, live, R.at hp]
        refine wpAny_bind (wpAny_isSame_ref_self (wpAny_bind (wpAny_pure ?_)))
        simp only [if_true]
        by_cases same : p.2 = k
        · refine wp_if_pos (by simp [same]) (wpAny_pure (yes i p hp same))
        · refine wp_if_neg (by simp [same]) ?_
          refine seek R hx hu hg hf free full yes no f (c + (q + 1)) _ rfl (by omega) (by omega) fun i0 p0 h0 k0 => ?_
          obtain ⟨c', b1, b2, b3⟩ := ahead i0 p0 h0 k0
          refine ⟨c', ?_, b2, b3⟩
          by_cases ec : c' = c + q
          · exfalso
            rw [ec] at b3
            have l0 := slot_live R.tab.ris b3
            rw [live] at l0
            injection l0 with l0
            rw [← l0, hp] at h0
            exact same ((congrArg Prod.snd (Option.some.inj h0)).trans k0)
          · by_cases lt : c' < c + q
            · exfalso
              refine first (c' - c) i0 (by omega) (by rw [jAt, show c + (c' - c) = c' by omega]; exact b3) ?_
              show (es[i0]?.map (·.1)).getD 0 = g
              rw [hashOf i0 p0 h0, k0, hg]
            · omega
      by_cases hl : t.led = true
      · refine wp_if_neg (by simp [hl]) ?_
        try refine wpAny_bind (wpAny_pure ?_)
        exact go
      · refine wp_if_pos (by simp [hl]) (wpAny_bind (unseen hx (fun y hy => ?_) ?_))
        · obtain ⟨e, he, ee⟩ := List.mem_map.mp hy
          have he1 : e ∈ es ∧ e.1 = g := by simpa using he
          have he2 : e ∈ es.toList := by simpa using he1.1
          rw [R.en] at he2
          obtain ⟨p2, hp2, e2⟩ := List.mem_map.mp he2
          exact ⟨p2.2, p2.1, by rw [← ee, ← e2], R.ks p2 hp2⟩
        · refine wp_if_neg (by decide) ?_
          try refine wpAny_bind (wpAny_pure ?_)
          exact go
    · have met' : t.probe (fun i => (es[i]?.map (·.1)).getD 0) g (stand.getD (t.probeStart g)) = some (.empty (way t.mask g K) none) := by
        have e2 : way t.mask g K = (nth t.mask (st t.mask g c) (K - c)).j := by
          rw [jAt, show c + (K - c) = K by omega]
        rw [hst, e2]
        exact met
      rw [met']
      dsimp only
      refine wpAny_pure (no fun hm => ?_)
      obtain ⟨p0, m0, k0⟩ := List.mem_map.mp hm
      obtain ⟨i0, hi0, e0⟩ := List.getElem_of_mem m0
      have h0 : L[i0]? = some p0 := by rw [List.getElem?_eq_getElem hi0, e0]
      obtain ⟨c', b1, b2, b3⟩ := ahead i0 p0 h0 k0
      refine none_ (c' - c) i0 (by omega) (by rw [jAt, show c + (c' - c) = c' by omega]; exact b3) ?_
      show (es[i0]?.map (·.1)).getD 0 = g
      rw [hashOf i0 p0 h0, k0, hg]
theorem soughtI (R : TSet P w s.heap a L es ep t) {x : Addr} {k : NK} (hx : TupK s.heap k x) (hu : A.units + 8 < cLine) {Q : Option Nat → Shared → Prop} (yes : ∀ (i : Nat) p, L[i]? = some p → p.2 = k → Q (some i) s) (no : k ∉ L.map (·.2) → Q none s) :
    wpAny (model P w) A (setFind a (.ref x) (k.hash w)) Q E s := by
  obtain ⟨o, ho, hex, hd⟩ := R.ob
  have space := R.room
  obtain ⟨K, kf, free, full⟩ := R.tab.first (by rw [hashes_len]; omega) (k.hash w)
  have small : K < 100000 := by
    have : 10 * SetTable.turns t.mask ≤ 1420 := by
      unfold SetTable.turns
      rcases R.tab.mok with e | e | e <;> omega
    omega
  unfold setFind
  show wpAny (model P w) A (setState a >>= _) Q E s
  refine wpAny_bind (wpAny_setState_of ho hd R.fits ?_)
  dsimp only
  refine wp_if_neg (by simp [byScan, Value.scannable]) ?_
  try refine wpAny_bind (wpAny_pure ?_)
  unfold setSearch
  refine wpAny_bind (seek R hx hu rfl kf free full (fun i p hi hk => ?_) (fun hn => ?_) 100000 0 none rfl (Nat.zero_le _) (by omega) fun i p hp hk => ?_)
  · exact wpAny_pure (yes i p hi hk)
  · exact wpAny_pure (no hn)
  · have hi : (hashes w L)[i]? = some (k.hash w) := by
      unfold hashes
      rw [List.getElem?_map, hp, ← hk]
      rfl
    have il : i < t.place.toList.length := by
      have z1 : i < L.length := (List.getElem?_eq_some_iff.mp hp).1
      have z2 := R.tab.sz
      rw [hashes_len] at z2
      rw [Array.length_toList]
      omega
    have hj := List.getElem?_eq_getElem il
    obtain ⟨c, hc, e⟩ := R.tab.before free hi hj
    exact ⟨c, Nat.zero_le _, hc, by rw [hj, e]⟩
theorem sought (R : TSet P w s.heap a L es ep t) {x : Addr} {k : NK} (hx : TupK s.heap k x) (hu : A.units + 8 < cLine) {Q : Option Nat → Shared → Prop} (h : ∀ r : Option Nat, r.isSome = decide (k ∈ L.map (·.2)) → Q r s) :
    wpAny (model P w) A (setFind a (.ref x) (k.hash w)) Q E s := by
  refine soughtI R hx hu (fun i p hi hk => h (some i) ?_) fun hn => h none ?_
  · rw [decide_eq_true (List.mem_map.mpr ⟨p, List.mem_of_getElem? hi, hk⟩)]
    rfl
  · rw [decide_eq_false hn]
    rfl
end
end Rw
namespace Rw
open PySem PySem.Spec PyProof.Rows L2 Builtin.Frozenset
/-! ### set - set -/
theorem entry_set_sub : entryFor table "set.__sub__" = some Builtin.«frozenset.__sub__» :=
  entryFor_alias (id' := "frozenset.__sub__") (by kernel_rfl) rfl (by decide +kernel) (by kernel_rfl)
section
variable {P : Program} {w : World} {A : Around} {E : Value → Shared → Prop} {s : Shared} {a : Addr} {L : List (Addr × NK)} {es : Array (Int × Value)} {ep : Nat} {t : SetTable}
theorem any_set {Q : Bool → Shared → Prop} (hT : s.TypeIs (.ref a) "set") (h : Q true s) : wpAny (model P w) A (isAnySet (.ref a)) Q E s := by
  unfold isAnySet orM
  refine wpAny_bind (wpAny_isInstance (b := true) hT sub_set_self ?_)
  exact wpAny_pure h
theorem size_of {o : Obj} (ho : s.heap.get? a = some o) (hd : o.data = .set es ep t) (hf : t.fits es.size = true) {Q : Nat → Shared → Prop} (h : Q es.size s) : wpAny (model P w) A (Builtin.Frozenset.sizeOf a) Q E s := by
  unfold Builtin.Frozenset.sizeOf
  exact wpAny_bind (wpAny_setEntries_of ho hd hf (wpAny_pure h))
theorem base_set {Q : Value → Shared → Prop} (hT : s.TypeIs (.ref a) "set") (h : Q (.type "set") s) : wpAny (model P w) A (baseOf a) Q E s := by
  unfold baseOf
  refine wpAny_bind (wpAny_isInstance (b := true) hT sub_set_self ?_)
  exact wpAny_pure h
theorem new_set {Q : Value → Shared → Prop} (h : Q (.ref s.heap.objs.size) { s with heap := s.heap.push (newSetObj w) }) : wpAny (model P w) A (newSet (.type "set")) Q E s := by
  unfold newSet
  refine wpAny_bind (wpAny_byText ?_)
  dsimp only
  simp only [newObj]
  exact wpAny_bind (wpAny_alloc (wpAny_pure h))
theorem diff_eq (id : String) (s : Addr) (other : Value) : Builtin.Frozenset.difference id s other = (do
    let viaCopy : Sem Value := do
      let r ← copyOf s
      holding [r] (differenceUpdate id (← addrOf r) other)
      return r
    let isSet ← isAnySet other
    if !isSet then
      if (← typeOf other) != .type "dict" then return ← viaCopy
    let o ← addrOf other
    if !isSet && o == sysModules then unsupported "sys.modules:all-start-up-values-wanted"
    let otherSize ← if isSet then Builtin.Frozenset.sizeOf o else pure (← dictEntries o).size
    if (← Builtin.Frozenset.sizeOf s) / 4 > otherSize then rule s!"{id}.much-larger"; return ← viaCopy
    let result ← newSet (← baseOf s)
    let r ← addrOf result
    let was ← setEpoch s
    holding [result] do
      for (h, x) in ← (if isSet then setWalkUnseen s [o, r] (some r) else setWalk s) do
        holding [x] do
          let there ← if isSet then pure (← setFind o x h).isSome else pure (← dictFind o x h).isSome
          if !there then
            let _ ← setAddHashed r x h
        unchanged id s was
    return result) := rfl
/-- entries in another order are entries of the keys in another order -/
theorem ents_perm {L : List (Addr × NK)} {out : List (Int × Value)} (p : out.Perm (ents w L)) : ∃ L2 : List (Addr × NK), out = ents w L2 ∧ L2.Perm L := by
  have key : ∀ {l m : List (Int × Value)}, l.Perm m → ∀ L0, m = ents w L0 → ∃ L2, l = ents w L2 ∧ L2.Perm L0 := by
    intro l m p
    induction p with
    | nil => exact fun L0 e => ⟨L0, e, List.Perm.refl _⟩
    | cons x p ih =>
      intro L0 e
      cases L0 with
      | nil => exact nomatch e
      | cons y L0 =>
        injection e with e1 e2
        obtain ⟨L2, e3, p3⟩ := ih L0 e2
        exact ⟨y :: L2, by rw [e3, e1]; rfl, p3.cons y⟩
    | swap x y l =>
      intro L0 e
      match L0, e with
      | u :: v :: L0, e =>
        injection e with e1 e2
        injection e2 with e2 e3
        exact ⟨v :: u :: L0, by rw [e1, e2, e3]; rfl, List.Perm.swap u v L0⟩
    | trans p q ih1 ih2 =>
      intro L0 e
      obtain ⟨L2, e2, p2⟩ := ih2 L0 e
      obtain ⟨L3, e3, p3⟩ := ih1 L2 e2
      exact ⟨L3, e3, p3.trans p2⟩
  exact key p L rfl
/-- what is not among them -/
def unlike (L M : List (Addr × NK)) : List (Addr × NK) := L.filter fun p => !decide (p.2 ∈ M.map (·.2))
theorem diff_walk {b r : Addr} {Lb : List (Addr × NK)} {eb : Array (Int × Value)} {epb : Nat} {tb : SetTable} {o : Obj} {id : String} {h0 : Heap} {was : Nat}
    (ho0 : h0.get? a = some o) (hd : o.data = .set es ep t) (hf : t.fits es.size = true) (hb0 : TSet P w h0 b Lb eb epb tb) (hk0 : ∀ p ∈ L, TupK h0 p.2 p.1) (hnd : (L.map (·.2)).Nodup) (few : L.length < 76) (hr0 : h0.get? r = none) (hu : A.units + 8 < cLine) (hw : was = ep) :
    ∀ (rest done Lr : List (Addr × NK)) (s : Shared) (er : Array (Int × Value)) (epr : Nat) (tr : SetTable) (Q : PUnit → Shared → Prop), L = done ++ rest → (∀ c u, h0.get? c = some u → s.heap.get? c = some u) → TSet P w s.heap r Lr er epr tr → Lr.Perm (unlike done Lb) →
      (∀ h' Lr er epr tr, (∀ c u, h0.get? c = some u → h'.get? c = some u) → TSet P w h' r Lr er epr tr → Lr.Perm (unlike L Lb) → Q ⟨⟩ { s with heap := h' }) →
      wpAny (model P w) A (forIn (ents w rest) (⟨⟩ : PUnit) fun hx _ => (do
        holding [hx.2] do
          let there ← pure (← setFind b hx.2 hx.1).isSome
          if !there then
            let _ ← setAddHashed r hx.2 hx.1
        unchanged id a was
        pure (ForInStep.yield ⟨⟩))) Q E s
  | [], done, Lr, s, er, epr, tr, Q, e, keep, R, pm, q => by
    rw [List.append_nil] at e
    subst e
    exact wpAny_pure (q s.heap Lr er epr tr keep R pm)
  | (x, k) :: rest, done, Lr, s, er, epr, tr, Q, e, keep, R, pm, q => by
    have hx0 := hk0 (x, k) (by rw [e]; simp)
    have hx : TupK s.heap k x := hx0.kept keep
    have Rb : TSet P w s.heap b Lb eb epb tb := hb0.moved (keep b) fun p hp => (hb0.ks p hp).kept keep
    have ho := keep _ _ ho0
    have e2 : L = (done ++ [(x, k)]) ++ rest := by rw [e, List.append_assoc]; rfl
    have ub : unlike (done ++ [(x, k)]) Lb = unlike done Lb ++ (if k ∈ Lb.map (·.2) then [] else [(x, k)]) := by
      unfold unlike
      rw [List.filter_append]
      congr 1
      by_cases c : k ∈ Lb.map (·.2)
      · rw [if_pos c]
        simp only [List.filter_cons, decide_eq_true c, List.filter_nil]
        rfl
      · rw [if_neg c]
        simp only [List.filter_cons, decide_eq_false c, List.filter_nil]
        rfl
    have last : ∀ {s' : Shared} {Q' : ForInStep PUnit → Shared → Prop}, s'.heap.get? a = some o → Q' (ForInStep.yield ⟨⟩) s' → wpAny (model P w) A (do unchanged id a was; pure (ForInStep.yield ⟨⟩)) Q' E s' := fun {s'} {Q'} ho' hq => by
      unfold unchanged
      refine wpAny_bind (wpAny_bind (wpAny_setEpoch_of ho' hd hf ?_))
      refine wp_if_neg (by rw [hw]; simp) ?_
      exact wpAny_pure (wpAny_pure hq)
    show wpAny (model P w) A (forIn ((k.hash w, Value.ref x) :: ents w rest) _ _) Q E s
    rw [List.forIn_cons]
    refine wpAny_bind ?_
    dsimp only
    refine wpAny_bind (wpAny_holding ?_)
    refine wpAny_bind (sought Rb hx hu fun rr hrr => ?_)
    by_cases c : k ∈ Lb.map (·.2)
    · rw [decide_eq_true c] at hrr
      rw [hrr]
      refine wpAny_bind (wpAny_pure ?_)
      refine wp_if_neg (by decide) ?_
      refine wpAny_pure ?_
      refine last ho ?_
      dsimp only
      rw [if_pos c, List.append_nil] at ub
      exact diff_walk ho0 hd hf hb0 hk0 hnd few hr0 hu hw rest (done ++ [(x, k)]) Lr s er epr tr Q e2 keep R (by rw [ub]; exact pm) q
    · rw [decide_eq_false c] at hrr
      rw [hrr]
      refine wpAny_bind (wpAny_pure ?_)
      refine wp_if_pos (by decide) ?_
      rw [if_neg c] at ub
      have lr : Lr.length + 1 < 76 := by
        have z1 := pm.length_eq
        have z2 : (unlike done Lb).length ≤ done.length := List.length_filter_le _ _
        have z3 : L.length = done.length + (rest.length + 1) := by rw [e, List.length_append, List.length_cons]
        omega
      refine wpAny_bind (added R hx hu lr fun bb h' L' es' ep' t' sb R' c1 c2 => ?_)
      have keep' : ∀ c u, h0.get? c = some u → h'.get? c = some u := fun c u hc => (sb.2 c (fun z => by rw [z, hr0] at hc; exact nomatch hc)).trans (keep c u hc)
      refine wpAny_pure ?_
      refine last (keep' _ _ ho0) ?_
      dsimp only
      have nin : k ∉ Lr.map (·.2) := fun hm => by
        have m2 := ((pm.map (·.2)).mem_iff).mp hm
        obtain ⟨p, hp, ep'⟩ := List.mem_map.mp m2
        have hp1 := (List.mem_filter.mp hp).1
        rw [e, List.map_append, List.map_cons] at hnd
        have := (List.nodup_append.mp hnd).2.2
        exact this p.2 (List.mem_map.mpr ⟨p, hp1, rfl⟩) k List.mem_cons_self ep'
      exact diff_walk ho0 hd hf hb0 hk0 hnd few hr0 hu hw rest (done ++ [(x, k)]) L' { s with heap := h' } es' ep' t' Q e2 keep' R' (by
        rw [ub]
        exact (c2 nin).trans ((pm.cons (x, k)).trans (List.perm_append_singleton (x, k) _).symm)) q
end
end Rw
namespace Rw
open PySem PySem.Spec PyProof.Rows L2 Builtin.Frozenset
section
variable {P : Program} {w : World} {A : Around} {E : Value → Shared → Prop} {s : Shared}
/-- what is sorted afterwards: a set's entries, whatever its table -/
structure SSet (P : Program) (w : World) (h : Heap) (a : Addr) (L : List (Addr × NK)) (es : Array (Int × Value)) (ep : Nat) (t : SetTable) : Prop where
  ob : ∃ o, h.get? a = some o ∧ o.cls = .type "set" ∧ o.data = .set es ep t
  en : es.toList = ents w L
  fit : t.fits es.size = true
  ris : Ris t.place.toList
  led : w.params.followText "set-order" = true ∨ t.led = true
theorem TSet.ss {h : Heap} {a : Addr} {L : List (Addr × NK)} {es : Array (Int × Value)} {ep : Nat} {t : SetTable} {s : Shared} (e : h = s.heap) (R : TSet P w s.heap a L es ep t) : SSet P w h a L es ep t := by
  subst e
  obtain ⟨o, ho, hex, hd⟩ := R.ob
  exact ⟨⟨o, ho, hex.1, hd⟩, R.en, R.fits, R.tab.ris, R.led⟩
/-- the way of a walk -/
theorem diff_near {id : String} {a b : Addr} {L1 L2 : List (Addr × NK)} {e1 e2 : Array (Int × Value)} {p1 p2 : Nat} {t1 t2 : SetTable} (R1 : TSet P w s.heap a L1 e1 p1 t1) (R2 : TSet P w s.heap b L2 e2 p2 t2) (few : L1.length / 4 ≤ L2.length) (hu : A.units + 8 < cLine)
    {Q : Value → Shared → Prop} (q : ∀ h' d L es ep t, (∀ c u, s.heap.get? c = some u → h'.get? c = some u) → SSet P w h' s.heap.objs.size L es ep t → L.Perm (unlike L1 L2) → Q (.ref s.heap.objs.size) { s with heap := h', drawn := d }) :
    wpAny (model P w) A (Builtin.Frozenset.difference id a (.ref b)) Q E s := by
  obtain ⟨o1, ho1, hex1, hd1⟩ := R1.ob
  obtain ⟨o2, ho2, hex2, hd2⟩ := R2.ob
  have T1 : s.TypeIs (.ref a) "set" := ⟨o1, ho1, hex1.1⟩
  have T2 : s.TypeIs (.ref b) "set" := ⟨o2, ho2, hex2.1⟩
  have s1 := size_of_ents R1.en
  have s2 := size_of_ents R2.en
  rw [diff_eq]
  refine wpAny_bind (any_set T2 ?_)
  refine wp_if_neg (by decide) ?_
  try refine wpAny_bind (wpAny_pure ?_)
  refine wp_if_neg (by simp) ?_
  refine wp_if_pos rfl ?_
  refine wpAny_bind (size_of ho2 hd2 R2.fits ?_)
  dsimp only
  refine wpAny_bind (size_of ho1 hd1 R1.fits ?_)
  refine wp_if_neg (by rw [s1, s2]; omega) ?_
  refine wpAny_bind (base_set T1 ?_)
  refine wpAny_bind (new_set ?_)
  have hr0 : s.heap.get? s.heap.objs.size = none := by
    cases q : s.heap.get? s.heap.objs.size with
    | none => rfl
    | some o => exact absurd (Heap.lt_size q) (Nat.lt_irrefl _)
  have hR : (s.heap.push (newSetObj w)).get? s.heap.objs.size = some (newSetObj w) := Heap.get?_push_size _ rfl
  have kp : ∀ c u, s.heap.get? c = some u → (s.heap.push (newSetObj w)).get? c = some u := fun c u hc => Heap.get?_push_of_some _ hc
  refine wpAny_bind (m := addrOf (.ref s.heap.objs.size)) (wpAny_pure ?_)
  refine wpAny_bind (wpAny_setEpoch_of (kp _ _ ho1) hd1 R1.fits ?_)
  refine wpAny_bind (wpAny_holding ?_)
  refine wpAny_bind ?_
  refine wp_if_pos rfl ?_
  have R1' : TSet P w (s.heap.push (newSetObj w)) a L1 e1 p1 t1 := R1.moved (kp a) fun p hp => (R1.ks p hp).kept kp
  refine unseen_perm (s := { s with heap := s.heap.push (newSetObj w) }) R1' fun out d pm => ?_
  have pm' : out.toList.Perm (ents w L1) := R1.en ▸ pm
  obtain ⟨Lp, eo, pmL⟩ := ents_perm pm'
  rw [← Array.forIn_toList, eo]
  simp only [↓reduceIte]
  refine wpAny_bind (diff_walk (id := id) (a := a) (L := Lp) (h0 := s.heap) (was := p1) ho1 hd1 R1.fits R2 (fun p hp => R1.ks p (pmL.mem_iff.mp hp)) ((pmL.map (·.2)).nodup_iff.mpr R1.nd) (by rw [pmL.length_eq]; exact R1.few) hr0 hu rfl Lp [] [] { s with heap := s.heap.push (newSetObj w), drawn := d } #[] 0 _ _ rfl kp (TSet.empty hR) (List.Perm.refl _) fun h' Lr er epr tr keep R pmr => ?_)
  refine wpAny_pure (wpAny_pure ?_)
  exact q h' d Lr er epr tr keep (TSet.ss (s := { s with heap := h' }) rfl R) (pmr.trans (pmL.filter _))
end
end Rw
namespace Rw
open PySem PySem.Spec PyProof.Rows L2 Builtin.Frozenset
/-! ### a set copied -/
theorem merge_eq (s o : Addr) : setMerge s o (pure ()) = (do
    if s == o then return
    let (eo, epoch, to) ← setState o
    if eo.isEmpty then return
    setRoomFor s eo.size
    let (_, _, ts) ← setState s
    match ts.road to with
    | .slotForSlot => storeSet s eo { to with finger := ts.finger, led := ts.led && to.led, moves := ts.moves, plain := ts.plain && to.plain }
    | .clean =>
      let (es, t) ← (do
        let some (t, order) := SetTable.laid ts.mask ts.finger ts.moves (led := ts.led && to.led) (plain := ts.plain && to.plain) (eo.map (·.1)) | unsupported "internal:set-table-without-room"
        let es' := order.filterMap (eo[·]?)
        if es'.size != eo.size then unsupported "internal:set-table-lost-an-element"
        pure (es', t) : Sem (Array (Int × Value) × SetTable))
      storeSet s es t
    | .oneByOne =>
      for (h, x) in ← setWalkUnseen o [s] (some s) do
        let _ ← holding [x] (setAddHashed s x h)
        pure ()
        if (← setState o).2.1 != epoch then unsupported "set.changed-during-merge") := rfl
/-- a table of few entries, filled anew -/
theorem laid7 (finger moves : Nat) (led plain : Bool) {hs : Array Int} (hn : hs.size ≤ 7) : ∃ t order, SetTable.laid 7 finger moves led plain hs = some (t, order) ∧ order.toList.Perm (List.range hs.size) ∧ Ris t.place.toList ∧ t.place.size = hs.size ∧ t.mask = 7 ∧ t.led = led ∧ t.dummies = #[] := by
  obtain ⟨t', order, e, p, T, m, l, _, d⟩ := relaid_ok ({ mask := 7, place := #[], dummies := #[], finger := finger, led := led, moves := moves, plain := plain } : SetTable) (hs := hs) (wanted := 1) (M := 7) (by decide +kernel) (.inl rfl) hn
  refine ⟨t', order, ?_, p, T.ris, ?_, m, l, d⟩
  · rw [← e]
    unfold SetTable.relaid
    have z : SetTable.sizeAbove 1 - 1 = 7 := by decide +kernel
    rw [z]
    rfl
  · rw [T.sz, List.length_map, p.length_eq, List.length_range]
section
variable {P : Program} {w : World} {A : Around} {E : Value → Shared → Prop} {s : Shared}
/-- the empty copy, with the room it is given -/
structure Bare (w : World) (h : Heap) (r : Addr) (m : Nat) (t : SetTable) : Prop where
  ob : ∃ o ep, h.get? r = some o ∧ o.cls = .type "set" ∧ o.data = .set #[] ep t
  pl : t.place = #[]
  dm : t.dummies = #[]
  msk : t.mask = m
  led : t.led = !w.params.followText "set-order"
theorem roomed {n : Nat} {r : Addr} (ho : s.heap.get? r = some (newSetObj w)) (h0 : 0 < n) (h8 : n < 8) {Q : Unit → Shared → Prop} (q : ∀ h' t m, Heap.SameBut r s.heap h' → Bare w h' r m t → n ≤ m → (m = 7 ∨ m = 15) → (n ≤ 4 → m = 7) → (5 ≤ n → m = 15) → Q () { s with heap := h' }) :
    wpAny (model P w) A (setRoomFor r n) Q E s := by
  have hf : (SetTable.fresh 0 0 (!w.params.followText "set-order")).fits (#[] : Array (Int × Value)).size = true := by
    unfold SetTable.fits SetTable.fill SetTable.fresh
    simp
  unfold setRoomFor
  refine wpAny_bind (wpAny_setState_of ho rfl hf ?_)
  dsimp only
  have rf : (SetTable.fresh 0 0 (!w.params.followText "set-order")).roomFor n = if n * 5 ≥ 21 then some (n * 2) else none := by
    unfold SetTable.roomFor SetTable.fill SetTable.fresh
    simp
  rw [rf]
  by_cases c : n * 5 ≥ 21
  · rw [if_pos c]
    dsimp only
    rw [setRelay_eq]
    refine wpAny_bind (wpAny_setState_of ho rfl hf ?_)
    dsimp only
    have sz : SetTable.sizeAbove (n * 2) = 16 := by
      have : n = 5 ∨ n = 6 ∨ n = 7 := by omega
      rcases this with rfl | rfl | rfl <;> decide +kernel
    refine wp_if_neg (by rw [sz, sizeLine_eq]; omega) ?_
    have rl : (SetTable.fresh 0 0 (!w.params.followText "set-order")).relaid ((#[] : Array (Int × Value)).map (·.1)) (n * 2) = some ({ mask := 15, place := #[], dummies := #[], finger := 0, led := !w.params.followText "set-order", moves := 1, plain := true }, #[]) := by
      have z : ∀ l : Bool, SetTable.laid 15 0 1 l true #[] = some (({ mask := 15, place := #[], dummies := #[], finger := 0, led := l, moves := 1, plain := true } : SetTable), #[]) := by
        intro l
        cases l <;> decide +kernel
      unfold SetTable.relaid
      rw [sz, show Array.map (fun x : Int × Value => x.fst) #[] = (#[] : Array Int) by simp]
      exact z _
    rw [rl]
    dsimp only
    refine wpAny_bind (wpAny_pure ?_)
    dsimp only
    refine wpAny_storeSet_of ho rfl ?_ (by rw [sizeLine_eq]; decide)
    refine q _ _ 15 (Heap.SameBut.update ..) ⟨⟨_, _, store_at ho rfl, rfl, rfl⟩, rfl, rfl, rfl, rfl⟩ (by omega) (.inr rfl) (fun z => by omega) fun _ => rfl
  · rw [if_neg c]
    dsimp only
    refine wpAny_pure ?_
    exact q s.heap _ 7 (Heap.SameBut.refl _ _) ⟨⟨_, _, ho, rfl, rfl⟩, rfl, rfl, rfl, rfl⟩ (by omega) (.inl rfl) (fun _ => rfl) fun z => by omega
theorem copied {a : Addr} {L : List (Addr × NK)} {es : Array (Int × Value)} {ep : Nat} {t : SetTable} (R : TSet P w s.heap a L es ep t) (h0 : 0 < L.length) (h8 : L.length < 8)
    {Q : Value → Shared → Prop} (q : ∀ h' L' es' ep' t', (∀ c u, s.heap.get? c = some u → h'.get? c = some u) → SSet P w h' s.heap.objs.size L' es' ep' t' → t'.dummies = #[] → L'.Perm L → Q (.ref s.heap.objs.size) { s with heap := h' }) :
    wpAny (model P w) A (copyOf a) Q E s := by
  obtain ⟨o, ho, hex, hd⟩ := R.ob
  have T : s.TypeIs (.ref a) "set" := ⟨o, ho, hex.1⟩
  have sz := size_of_ents R.en
  unfold copyOf
  refine wpAny_bind (base_set T ?_)
  refine wpAny_bind (new_set ?_)
  have hr0 : s.heap.get? s.heap.objs.size = none := by
    cases q : s.heap.get? s.heap.objs.size with
    | none => rfl
    | some o => exact absurd (Heap.lt_size q) (Nat.lt_irrefl _)
  have hR : (s.heap.push (newSetObj w)).get? s.heap.objs.size = some (newSetObj w) := Heap.get?_push_size _ rfl
  have kp : ∀ c u, s.heap.get? c = some u → (s.heap.push (newSetObj w)).get? c = some u := fun c u hc => Heap.get?_push_of_some _ hc
  refine wpAny_bind (m := addrOf (.ref s.heap.objs.size)) (wpAny_pure ?_)
  have ne : (s.heap.objs.size == a) = false := by
    rw [beq_eq_false_iff_ne]
    intro z
    rw [z] at hr0
    rw [hr0] at ho
    exact nomatch ho
  refine wpAny_bind ?_
  rw [merge_eq]
  refine wp_if_neg (by rw [ne]; decide) ?_
  refine wpAny_bind (wpAny_setState_of (kp _ _ ho) hd R.fits ?_)
  dsimp only
  refine wp_if_neg (by rw [Array.isEmpty_iff_size_eq_zero, sz]; omega) ?_
  refine wpAny_bind (roomed (s := { s with heap := s.heap.push (newSetObj w) }) hR (by rw [sz]; exact h0) (by rw [sz]; exact h8) fun h1 t1 m sb B hm mm m4 m5 => ?_)
  obtain ⟨ob1, ep1, hob1, hcl1, hdt1⟩ := B.ob
  have fit1 : t1.fits (#[] : Array (Int × Value)).size = true := by
    unfold SetTable.fits SetTable.fill
    rw [B.pl, B.dm]
    show ((0 == 0) && decide (0 + 0 ≤ t1.mask)) = true
    simp
  have old : ∀ c u, s.heap.get? c = some u → h1.get? c = some u := fun c u hc => (sb.2 c (fun z => by rw [z, hr0] at hc; exact nomatch hc)).trans (kp c u hc)
  refine wpAny_bind (wpAny_setState_of (s := { s with heap := h1 }) hob1 hdt1 fit1 ?_)
  dsimp only
  have fill0 : t1.fill = 0 := by
    unfold SetTable.fill
    rw [B.pl, B.dm]
    rfl
  have ledok : ∀ t' : SetTable, t'.led = (t1.led && t.led) → (w.params.followText "set-order" = true ∨ t'.led = true) := fun t' e => by
    rw [e, B.led]
    cases hb : w.params.followText "set-order" with
    | true => exact .inl rfl
    | false =>
      rcases R.led with z | z
      · rw [hb] at z
        exact nomatch z
      · rw [z]
        exact .inr rfl
  have fin : ∀ (es' : Array (Int × Value)) (t' : SetTable) (L' : List (Addr × NK)), es'.toList = ents w L' → L'.Perm L → t'.fits es'.size = true → Ris t'.place.toList → t'.led = (t1.led && t.led) → t'.dummies = #[] →
      wpAny (model P w) A (storeSet s.heap.objs.size es' t') (fun _ s' => wpAny (model P w) A (pure (Value.ref s.heap.objs.size)) Q E s') E { s with heap := h1 } := by
    intro es' t' L' he pm hf hr hl hdm
    have sz' : es'.size = L.length := by rw [size_of_ents he, pm.length_eq]
    refine wpAny_storeSet_of (s := { s with heap := h1 }) hob1 hdt1 ?_ (by rw [sz', sizeLine_eq]; omega)
    refine wpAny_pure (q _ L' es' (ep1 + 1) t' (fun c u hc => ?_) ⟨⟨_, store_at hob1 hdt1, hcl1, rfl⟩, he, hf, hr, ledok t' hl⟩ hdm pm)
    have := (Heap.SameBut.update (h := h1) (a := s.heap.objs.size) (f := Obj.putSet es' t')).2 c (fun z => by rw [z, hr0] at hc; exact nomatch hc)
    exact this.trans (old c u hc)
  by_cases slot : t1.mask = t.mask
  · have rd : t1.road t = .slotForSlot := by
      unfold SetTable.road
      rw [fill0, slot, R.tab.dm]
      simp
    rw [rd]
    dsimp only
    refine fin es _ L R.en (List.Perm.refl _) ?_ R.tab.ris rfl R.tab.dm
    exact R.fits
  · have rd : t1.road t = .clean := by
      unfold SetTable.road
      rw [fill0]
      simp [slot]
    rw [rd]
    dsimp only
    have hsz : (es.map (·.1)).size = L.length := by rw [Array.size_map, sz]
    have laid : ∃ t' order, SetTable.laid t1.mask t1.finger t1.moves (t1.led && t.led) (t1.plain && t.plain) (es.map (·.1)) = some (t', order) ∧ order.toList.Perm (List.range (es.map (·.1)).size) ∧ Ris t'.place.toList ∧ t'.place.size = (es.map (·.1)).size ∧ t'.mask = m ∧ t'.led = (t1.led && t.led) ∧ t'.dummies = #[] := by
      rw [B.msk]
      rcases mm with e | e
      · subst e
        exact laid7 _ _ _ _ (by rw [hsz]; omega)
      · subst e
        exact laid15 _ _ _ _ (by rw [hsz]; omega)
    obtain ⟨t', order, e, p, ris, psz, msk, led, dmm⟩ := laid
    rw [hsz] at p psz
    obtain ⟨L2, r1, r2, _⟩ := relist L es order R.en p
    have hs2 : (order.filterMap (es[·]?)).size = es.size := by rw [size_of_ents r1, r2.length_eq, sz]
    rw [e]
    dsimp only
    refine wpAny_bind (wp_if_neg (by rw [hs2]; simp) ?_)
    refine wpAny_pure ?_
    dsimp only
    refine fin _ t' L2 r1 r2 ?_ ris led dmm
    unfold SetTable.fits SetTable.fill
    rw [dmm, psz, msk, hs2, sz]
    show ((L.length == L.length) && decide (L.length + 0 ≤ m)) = true
    rw [beq_self_eq_true, Bool.true_and, decide_eq_true_eq]
    omega
end
end Rw
namespace Rw
open PySem PySem.Spec PyProof.Rows L2 Builtin.Frozenset
section
variable {P : Program} {w : World} {A : Around} {E : Value → Shared → Prop} {s : Shared}
/-- nothing taken out of a set -/
theorem less_none {id : String} {r b : Addr} {L : List (Addr × NK)} {es e2 : Array (Int × Value)} {ep p2 : Nat} {t t2 : SetTable} (S : SSet P w s.heap r L es ep t) (dm : t.dummies = #[]) (R2 : TSet P w s.heap b [] e2 p2 t2) (hne : b ≠ r) {Q : Unit → Shared → Prop} (q : ∀ d, Q () { s with drawn := d }) :
    wpAny (model P w) A (differenceUpdate id r (.ref b)) Q E s := by
  obtain ⟨o, ho, hc, hd⟩ := S.ob
  obtain ⟨o2, ho2, hex2, hd2⟩ := R2.ob
  have T2 : s.TypeIs (.ref b) "set" := ⟨o2, ho2, hex2.1⟩
  have z2 : e2.size = 0 := size_of_ents R2.en
  unfold differenceUpdate
  refine wp_if_neg (by simp [hne]) ?_
  refine wpAny_bind (any_set T2 ?_)
  refine wp_if_pos rfl ?_
  refine wpAny_bind (m := addrOf (.ref b)) (wpAny_pure ?_)
  refine wpAny_bind (size_of ho2 hd2 R2.fits ?_)
  refine wpAny_bind (size_of ho hd S.fit ?_)
  refine wp_if_neg (by rw [z2]; omega) ?_
  refine wpAny_bind (wpAny_setEpoch_of ho2 hd2 R2.fits ?_)
  refine wpAny_bind (wpAny_holding ?_)
  refine wpAny_bind (unseen_perm R2 fun out d pm => ?_)
  have e0 : out = #[] := by
    have := pm.length_eq
    rw [Array.length_toList, Array.length_toList, z2] at this
    exact Array.eq_empty_of_size_eq_zero this
  subst e0
  refine wpAny_bind ?_
  rw [← Array.forIn_toList]
  refine wpAny_pure ?_
  refine wpAny_pure ?_
  unfold setTidy
  refine wpAny_bind (wpAny_setState_of (s := { s with drawn := d }) ho hd S.fit ?_)
  dsimp only
  refine wp_if_neg (by unfold SetTable.tooManyDummies; rw [dm]; simp) ?_
  exact wpAny_pure (q d)
theorem diff_far {id : String} {a b : Addr} {L1 : List (Addr × NK)} {e1 e2 : Array (Int × Value)} {p1 p2 : Nat} {t1 t2 : SetTable} (R1 : TSet P w s.heap a L1 e1 p1 t1) (R2 : TSet P w s.heap b [] e2 p2 t2) (h4 : 4 ≤ L1.length) (h8 : L1.length < 8)
    {Q : Value → Shared → Prop} (q : ∀ h' d L es ep t, (∀ c u, s.heap.get? c = some u → h'.get? c = some u) → SSet P w h' s.heap.objs.size L es ep t → L.Perm L1 → Q (.ref s.heap.objs.size) { s with heap := h', drawn := d }) :
    wpAny (model P w) A (Builtin.Frozenset.difference id a (.ref b)) Q E s := by
  obtain ⟨o1, ho1, hex1, hd1⟩ := R1.ob
  obtain ⟨o2, ho2, hex2, hd2⟩ := R2.ob
  have T2 : s.TypeIs (.ref b) "set" := ⟨o2, ho2, hex2.1⟩
  have s1 := size_of_ents R1.en
  have s2 : e2.size = 0 := size_of_ents R2.en
  rw [diff_eq]
  refine wpAny_bind (any_set T2 ?_)
  refine wp_if_neg (by decide) ?_
  try refine wpAny_bind (wpAny_pure ?_)
  refine wp_if_neg (by simp) ?_
  refine wp_if_pos rfl ?_
  refine wpAny_bind (size_of ho2 hd2 R2.fits ?_)
  dsimp only
  refine wpAny_bind (size_of ho1 hd1 R1.fits ?_)
  refine wp_if_pos (by rw [s1, s2]; omega) ?_
  refine wpAny_bind (wpAny_rule ?_)
  refine wpAny_bind (copied R1 (by omega) h8 fun h' L' es' ep' t' keep S dm pm => ?_)
  have hb : b ≠ s.heap.objs.size := Nat.ne_of_lt (Heap.lt_size ho2)
  refine wpAny_bind (m := addrOf (.ref s.heap.objs.size)) (wpAny_pure ?_)
  refine wpAny_bind (wpAny_holding (less_none (s := { s with heap := h' }) S dm (R2.moved (keep b) fun p hp => nomatch hp) hb fun d => ?_))
  exact wpAny_pure (q h' d L' es' ep' t' keep S pm)
theorem sub_call {a b : Addr} {L1 L2 : List (Addr × NK)} {e1 e2 : Array (Int × Value)} {p1 p2 : Nat} {t1 t2 : SetTable} (R1 : TSet P w s.heap a L1 e1 p1 t1) (R2 : TSet P w s.heap b L2 e2 p2 t2) (few : L1.length / 4 ≤ L2.length ∨ L2 = [] ∧ L1.length < 8) (hu : A.units + 16 < cLine)
    {Q : Value → Shared → Prop} (q : ∀ h' d L es ep t, (∀ c u, s.heap.get? c = some u → h'.get? c = some u) → SSet P w h' s.heap.objs.size L es ep t → L.Perm (unlike L1 L2) → Q (.ref s.heap.objs.size) { s with heap := h', drawn := d }) :
    wpAny (model P w) A (binaryOp .Sub (.ref a) (.ref b)) Q E s := by
  obtain ⟨o1, ho1, hex1, hd1⟩ := R1.ob
  obtain ⟨o2, ho2, hex2, hd2⟩ := R2.ob
  have T1 : s.TypeIs (.ref a) "set" := ⟨o1, ho1, hex1.1⟩
  have T2 : s.TypeIs (.ref b) "set" := ⟨o2, ho2, hex2.1⟩
  have run : ∀ (B : Around), B.units + 8 < cLine → ∀ {R : Value → Shared → Prop}, (∀ h' d L es ep t, (∀ c u, s.heap.get? c = some u → h'.get? c = some u) → SSet P w h' s.heap.objs.size L es ep t → L.Perm (unlike L1 L2) → R (.ref s.heap.objs.size) { s with heap := h', drawn := d }) →
      wpAny (model P w) B (Builtin.Frozenset.difference "frozenset.__sub__" a (.ref b)) R E s := by
    intro B hB R q
    by_cases c : L1.length / 4 ≤ L2.length
    · exact diff_near R1 R2 c hB q
    · obtain ⟨rfl, h8⟩ := few.resolve_left c
      rw [List.length_nil] at c
      refine diff_far R1 R2 (by omega) h8 fun h' d L es ep t k S pm => q h' d L es ep t k S ?_
      have e : unlike L1 [] = L1 := by
        unfold unlike
        rw [List.filter_eq_self]
        exact fun p hp => rfl
      rw [e]
      exact pm
  refine wpAny_binaryOp_same (op := .Sub) T1 T2 F.fills_set_sub F.slot_set_sub (wpAny_call_entry F.slot_set_sub T1 entry_set_sub ?_ (F.args_set_sub_2 _ _))
  show wpAny _ _ (do
    let r ← isAnySet (.ref a) <&&> isAnySet (.ref b)
    if !r then do
      rule s!"frozenset.{"__sub__"}.declined"
      ret .notImplemented
    else do
      let l ← addrOf (.ref a)
      let v ← Builtin.Frozenset.difference s!"frozenset.{"__sub__"}" l (.ref b)
      ret v) _ _ s
  refine wpAny_bind ?_
  unfold andM
  refine wpAny_bind (any_set T1 ?_)
  refine any_set T2 ?_
  refine wp_if_neg (by decide) ?_
  refine wpAny_bind (m := addrOf (.ref a)) (wpAny_pure ?_)
  refine wpAny_bind (run _ ?_ fun h' d L es ep t k S pm => ?_)
  · simp only [Around.in1_units]
    omega
  · exact wpAny_pure ⟨_, rfl, (fun z => nomatch z), q h' d L es ep t k S pm⟩
end
end Rw
namespace Rw
open PySem PySem.Spec PyProof.Rows L2
/-! ### set - set over the abstract heap, sorted -/
/-- what a difference of sets of tuples is: only good for sorting -/
def SSetO (P : Program) (w : World) (a : Addr) (L : List (Addr × PyData)) : HO := .ext fun h => ∃ es ep t, SSet P w h a (tk L) es ep t
section
variable {X : Cx} {pins : List (Addr × Obj)} {σ : L2.St} {H : Hp} {s : Shared}
theorem tk_back : ∀ (L0 : List (Addr × PyData)) (M : List (Addr × NK)), (∀ p ∈ M, p ∈ tk L0) → ∃ M0 : List (Addr × PyData), M = tk M0 ∧ ∀ p ∈ M0, p ∈ L0
  | L0, [], _ => ⟨[], rfl, fun p hp => nomatch hp⟩
  | L0, m :: M, hm => by
    obtain ⟨M0, e, h0⟩ := tk_back L0 M fun p hp => hm p (List.mem_cons_of_mem _ hp)
    obtain ⟨z, hz, ez⟩ := List.mem_map.mp (hm m List.mem_cons_self)
    refine ⟨z :: M0, by rw [e, ← ez]; rfl, fun p hp => ?_⟩
    rcases List.mem_cons.mp hp with e' | hp
    · rw [e']
      exact hz
    · exact h0 p hp
theorem nodup_le {α : Type} : ∀ {l m : List α}, l.Nodup → (∀ z ∈ l, z ∈ m) → l.length ≤ m.length
  | [], _, _, _ => Nat.zero_le _
  | a :: l, m, nd, h => by
    obtain ⟨u, v, e⟩ := List.append_of_mem (h a List.mem_cons_self)
    obtain ⟨n1, n2⟩ := List.nodup_cons.mp nd
    have z := nodup_le (m := u ++ v) n2 fun z hz => by
      have := h z (List.mem_cons_of_mem _ hz)
      rw [e] at this
      rcases List.mem_append.mp this with q | q
      · exact List.mem_append_left _ q
      · rcases List.mem_cons.mp q with q | q
        · rw [q] at hz
          exact absurd hz n1
        · exact List.mem_append_right _ q
    rw [e, List.length_cons, List.length_append, List.length_cons]
    rw [List.length_append] at z
    omega
/-- a - b, sets of tuples -/
def rSubT (K : PySem.W.Frag) (P : Program) (w : World) : R2 := fun x y H Q => ∃ (a b : Addr) (L1 L2 : List (Addr × PyData)), x = .ref a ∧ y = .ref b ∧ H a = some (TSetO w a L1) ∧ H b = some (TSetO w b L2) ∧ (∀ p ∈ L1, Good p.2 ∧ Dp K H (.ref p.1) p.2) ∧ (∀ p ∈ L2, Good p.2 ∧ Dp K H (.ref p.1) p.2) ∧
  (∃ D : List PyData, (∀ p ∈ L1, p.2 ∈ D) ∧ D.length < 8) ∧ ∀ c L, H c = none → (∀ p ∈ L, p ∈ L1) → (∀ d, d ∈ L.map (·.2) ↔ d ∈ L1.map (·.2) ∧ d ∉ L2.map (·.2)) → (L.map (·.2)).Nodup → L.length < 76 → Q (.ref c) (upd H c (SSetO P w c L))
theorem op_subT (hu : X.A.units + 64 < cLine) : OpR X (binaryOp .Sub) (rSubT X.K X.prog X.w) := by
  intro pins s σ H x y v u Q I rx ry h
  obtain ⟨a, b, L1, L2, rfl, rfl, ha, hb, g1, g2, few, q⟩ := h
  obtain rfl : v = Value.ref a := rx
  obtain rfl : u = Value.ref b := ry
  obtain ⟨es1, ep1, t1, R1⟩ := tset_get I ha g1
  obtain ⟨es2, ep2, t2, R2⟩ := tset_get I hb g2
  have hn : H s.heap.objs.size = none := I.hok.fresh (Nat.le_refl _)
  have l1 : (tk L1).length = L1.length := List.length_map _
  have l2 : (tk L2).length = L2.length := List.length_map _
  refine sub_call R1 R2 ?_ (by omega) fun h' d L es ep t keep S pm => ?_
  · obtain ⟨D, hD, hD8⟩ := few
    have n1 : (L1.map (·.2)).Nodup := by
      have z : ((L1.map (·.2)).map toK).Nodup := by
        have e : (L1.map (·.2)).map toK = (tk L1).map (·.2) := by
          unfold tk
          rw [List.map_map, List.map_map]
          rfl
        rw [e]
        exact R1.nd
      exact nodup_of_map z
    have le := nodup_le (m := D) n1 fun d hd => by
      obtain ⟨p, hp, rfl⟩ := List.mem_map.mp hd
      exact hD p hp
    rw [List.length_map] at le
    rw [l1, l2]
    cases L2 with
    | nil => exact .inr ⟨rfl, by omega⟩
    | cons z zs =>
      rw [List.length_cons]
      exact .inl (by omega)
  have sub : ∀ p ∈ L, p ∈ tk L1 := fun p hp => (List.mem_filter.mp (pm.mem_iff.mp hp)).1
  obtain ⟨M, rfl, hM⟩ := tk_back L1 L sub
  have ndk : ((tk M).map (·.2)).Nodup := by
    refine (pm.map (·.2)).nodup_iff.mpr ?_
    exact List.Nodup.sublist (List.Sublist.map _ List.filter_sublist) R1.nd
  have nd : (M.map (·.2)).Nodup := by
    have z : ((M.map (·.2)).map toK).Nodup := by
      have e : (M.map (·.2)).map toK = (tk M).map (·.2) := by
        unfold tk
        rw [List.map_map, List.map_map]
        rfl
      rw [e]
      exact ndk
    exact nodup_of_map z
  have lenM : M.length < 76 := by
    have z1 := pm.length_eq
    have z2 : (unlike (tk L1) (tk L2)).length ≤ (tk L1).length := List.length_filter_le _ _
    have z3 : (tk M).length = M.length := List.length_map _
    have z4 := R1.few
    omega
  have mem : ∀ e, e ∈ M.map (·.2) ↔ e ∈ L1.map (·.2) ∧ e ∉ L2.map (·.2) := fun e => by
    have key : ∀ p ∈ L1, ((p.1, toK p.2) ∈ tk M ↔ p.2 ∉ L2.map (·.2)) := fun p hp => by
      rw [pm.mem_iff]
      unfold unlike
      rw [List.mem_filter]
      have hin : (p.1, toK p.2) ∈ tk L1 := List.mem_map.mpr ⟨p, hp, rfl⟩
      have e2 : toK p.2 ∈ (tk L2).map (·.2) ↔ p.2 ∈ L2.map (·.2) := by
        constructor
        · intro z
          obtain ⟨y, hy, ey⟩ := List.mem_map.mp z
          obtain ⟨y0, hy0, rfl⟩ := List.mem_map.mp hy
          have := toK_inj (g2 y0 hy0).1.ok (g1 p hp).1.ok ey
          exact List.mem_map.mpr ⟨y0, hy0, this⟩
        · intro z
          obtain ⟨y0, hy0, ey⟩ := List.mem_map.mp z
          exact List.mem_map.mpr ⟨(y0.1, toK y0.2), List.mem_map.mpr ⟨y0, hy0, rfl⟩, by rw [ey]⟩
      constructor
      · intro z
        have := z.2
        simp only [Bool.not_eq_true', decide_eq_false_iff_not] at this
        exact fun hh => this (e2.mpr hh)
      · intro z
        refine ⟨hin, ?_⟩
        simp only [Bool.not_eq_true', decide_eq_false_iff_not]
        exact fun hh => z (e2.mp hh)
    constructor
    · intro he
      obtain ⟨p, hp, rfl⟩ := List.mem_map.mp he
      exact ⟨List.mem_map.mpr ⟨p, hM p hp, rfl⟩, (key p (hM p hp)).mp (List.mem_map.mpr ⟨p, hp, rfl⟩)⟩
    · rintro ⟨h1, h2⟩
      obtain ⟨p, hp, rfl⟩ := List.mem_map.mp h1
      have z := (key p hp).mpr h2
      obtain ⟨y, hy, ey⟩ := List.mem_map.mp z
      have e3 : y.2 = p.2 := toK_inj (g1 y (hM y hy)).1.ok (g1 p hp).1.ok (congrArg Prod.snd ey)
      exact List.mem_map.mpr ⟨y, hy, e3⟩
  have new : ObjOk X.prog X.w (upd H s.heap.objs.size (SSetO X.prog X.w s.heap.objs.size M)) h' s.heap.objs.size (SSetO X.prog X.w s.heap.objs.size M) := by
    obtain ⟨o, ho, ho2⟩ := S.ob
    exact ⟨⟨es, ep, t, S⟩, ⟨o, ho⟩, fun h1 h2 ⟨es', ep', t', S'⟩ kk => ⟨es', ep', t', by
      obtain ⟨o', e1, e2⟩ := S'.ob
      exact ⟨⟨o', kk o' e1, e2⟩, S'.en, S'.fit, S'.ris, S'.led⟩⟩⟩
  have J : Inv X pins σ (upd H s.heap.objs.size (SSetO X.prog X.w s.heap.objs.size M)) { s with heap := h', gens := s.gens, drawn := d, toks := s.toks } :=
    I.call (ch := []) (Un.laid keep (Nat.le_refl _) hn) (I.hok.laid keep (Nat.le_refl _) new) I.bare (fun _ z => nomatch z)
  exact ⟨.ref s.heap.objs.size, _, J, rfl, q _ M hn hM mem nd lenM⟩
/-- sorted(a difference) -/
def rSortS (K : PySem.W.Frag) (P : Program) (w : World) : List V → Hp → VK → Prop := fun vs H Q => ∃ (a : Addr) (L : List (Addr × PyData)), vs = [V.ref a] ∧ H a = some (SSetO P w a L) ∧ (∀ p ∈ L, Good p.2 ∧ Dp K H (.ref p.1) p.2) ∧ (L.map (·.2)).Nodup ∧ L.length < 76 ∧ PySem.W.AllAlike (L.map (·.2)) ∧
  ∀ (ys : List V) (ds : List PyData) (p : Addr), ds.Perm (L.map (·.2)) → ds.Nodup → ds.length < 76 → Rising ds → DpAll K H ys ds → H p = none → Q (.ref p) (upd H p (.lst ys))
theorem cr_sortS (hc : X.calm = true) (hu : X.A.units + 64 < cLine) : CallR X (.builtin "sorted") (rSortS X.K X.prog X.w) := by
  intro pins s σ H vs us Q I r h
  obtain ⟨a, L, rfl, ha, hL, ndL, few, hal, q⟩ := h
  obtain ⟨es, ep, t, R⟩ := (I.hok a _ ha).1
  rw [Vals.ref1 r]
  have hvals : es.toList.map (·.2) = L.map fun p => Value.ref p.1 := by
    rw [R.en]
    unfold ents tk
    rw [List.map_map, List.map_map]
    rfl
  have e1 : PySem.W.EachIs (fun u d => ∃ x, RelV x u ∧ Dp X.K H x d) (es.toList.map (·.2)) (L.map (·.2)) := by
    rw [hvals]
    exact each_map' _ _ fun p hp => ⟨.ref p.1, rfl, (hL p hp).2⟩
  have e2 : PySem.W.EachIs (fun v d => ∃ as, Reads s.heap v (id d) as ∧ ∀ c ∈ as, c < s.heap.objs.size) (es.toList.map (·.2)) (L.map (·.2)) := by
    rw [hvals]
    refine each_map' _ _ fun p hp => ?_
    obtain ⟨as, rd⟩ := Dp.reads I p.2 (.ref p.1) (.ref p.1) (hL p hp).2 rfl
    refine ⟨as, rd, ?_⟩
    rw [(isK_of p.2 s.heap _ as (hL p hp).1.ok rd).2]
    exact fun c hc => nomatch hc
  have hm : ∀ d ∈ (L.map (·.2)).map id, Good d := fun d hd => by
    rw [List.map_id] at hd
    obtain ⟨p, hp, rfl⟩ := List.mem_map.mp hd
    exact (hL p hp).1
  refine sorted_coll (enc := id) (I.ok.hd hc) R.ob R.fit (by have := size_of_ents R.en; unfold tk at this; rw [List.length_map] at this; unfold scanBound; omega) R.ris R.led e1 e2 (by rw [List.map_id]; exact hal) (.inl fun d hd => (hm d hd).tu) (fun d hd => ?_) fun s' p out c ds k g os hp hg ho' pm sr => ?_
  · have z := (hm d (by rw [List.map_id]; exact hd)).dp
    show X.A.units + 3 + d.depth < cLine
    omega
  · obtain ⟨ys, hv, hd'⟩ := each_vals ho'
    have hn : H p = none := I.hok.fresh hp
    have hl : ds.length = L.length := by rw [pm.length_eq, List.length_map]
    have hlen : ys.length ≤ sizeLine := by
      rw [dpAll_len hd', sizeLine_eq]
      omega
    have nd : ds.Nodup := pm.nodup_iff.mpr ndL
    have J : Inv X pins σ (upd H p (.lst ys)) { s with heap := s'.heap, gens := s'.gens, drawn := s'.drawn, toks := s'.toks } :=
      I.call (ch := []) (Un.laid k hp hn) (I.hok.laid k hp ⟨hlen, out.toList, c, hv, hg⟩) (by rw [g]; exact I.bare) (fun _ z => nomatch z)
    have e : s' = { s with heap := s'.heap, gens := s'.gens, drawn := s'.drawn, toks := s'.toks } := by
      cases s'
      cases s
      cases os
      rfl
    rw [e]
    exact ⟨.ref p, _, J, rfl, q ys ds p pm nd (by omega) sr hd' hn⟩
end
end Rw
namespace Rw
open PySem PySem.Spec PyProof.Rows L2
/-! ### set ^ set, where both have just the same one tuple -/
theorem entry_set_xor : entryFor table "set.__xor__" = some Builtin.«frozenset.__xor__» :=
  entryFor_alias (id' := "frozenset.__xor__") (by kernel_rfl) rfl (by decide +kernel) (by kernel_rfl)
theorem merge_eqE (s o : Addr) (each : Sem Unit) : setMerge s o each = (do
    if s == o then return
    let (eo, epoch, to) ← setState o
    if eo.isEmpty then return
    setRoomFor s eo.size
    let (_, _, ts) ← setState s
    match ts.road to with
    | .slotForSlot => storeSet s eo { to with finger := ts.finger, led := ts.led && to.led, moves := ts.moves, plain := ts.plain && to.plain }
    | .clean =>
      let (es, t) ← (do
        let some (t, order) := SetTable.laid ts.mask ts.finger ts.moves (led := ts.led && to.led) (plain := ts.plain && to.plain) (eo.map (·.1)) | unsupported "internal:set-table-without-room"
        let es' := order.filterMap (eo[·]?)
        if es'.size != eo.size then unsupported "internal:set-table-lost-an-element"
        pure (es', t) : Sem (Array (Int × Value) × SetTable))
      storeSet s es t
    | .oneByOne =>
      for (h, x) in ← setWalkUnseen o [s] (some s) do
        let _ ← holding [x] (setAddHashed s x h)
        each
        if (← setState o).2.1 != epoch then unsupported "set.changed-during-merge") := rfl
theorem laid7T (finger moves : Nat) (led plain : Bool) {hs : Array Int} (hn : hs.size ≤ 7) : ∃ t order, SetTable.laid 7 finger moves led plain hs = some (t, order) ∧ order.toList.Perm (List.range hs.size) ∧ TabOk t (order.toList.map fun i => hs.getD i 0) ∧ t.mask = 7 ∧ t.led = led := by
  obtain ⟨t', order, e, p, T, m, l, _, d⟩ := relaid_ok ({ mask := 7, place := #[], dummies := #[], finger := finger, led := led, moves := moves, plain := plain } : SetTable) (hs := hs) (wanted := 1) (M := 7) (by decide +kernel) (.inl rfl) hn
  refine ⟨t', order, ?_, p, T, m, l⟩
  rw [← e]
  unfold SetTable.relaid
  have z : SetTable.sizeAbove 1 - 1 = 7 := by decide +kernel
  rw [z]
  rfl
section
open PySem.Builtin.Frozenset
variable {P : Program} {w : World} {A : Around} {E : Value → Shared → Prop} {s : Shared}
theorem fresh_fits (l : Bool) : (SetTable.fresh 0 0 l).fits (#[] : Array (Int × Value)).size = true := by
  unfold SetTable.fits SetTable.fill SetTable.fresh
  simp
theorem room1 {r : Addr} (ho : s.heap.get? r = some (newSetObj w)) {Q : Unit → Shared → Prop} (q : Q () s) : wpAny (model P w) A (setRoomFor r 1) Q E s := by
  unfold setRoomFor
  refine wpAny_bind (wpAny_setState_of ho rfl (fresh_fits _) ?_)
  dsimp only
  have rf : (SetTable.fresh 0 0 (!w.params.followText "set-order")).roomFor 1 = none := by
    unfold SetTable.roomFor SetTable.fill SetTable.fresh
    simp
  rw [rf]
  exact wpAny_pure q
/-- a set of one tuple, copied -/
theorem copied1 {id : String} {b y : Addr} {k : NK} {es : Array (Int × Value)} {ep : Nat} {t : SetTable} (R : TSet P w s.heap b [(y, k)] es ep t)
    {Q : Value → Shared → Prop} (q : ∀ h' es' ep' t', (∀ c u, s.heap.get? c = some u → h'.get? c = some u) → TSet P w h' s.heap.objs.size [(y, k)] es' ep' t' → Q (.ref s.heap.objs.size) { s with heap := h' }) :
    wpAny (model P w) A (newFrom id (.type "set") (.ref b)) Q E s := by
  obtain ⟨o, ho, hex, hd⟩ := R.ob
  have sz : es.size = 1 := size_of_ents R.en
  unfold newFrom
  refine wpAny_bind (new_set ?_)
  have hr0 : s.heap.get? s.heap.objs.size = none := by
    cases q : s.heap.get? s.heap.objs.size with
    | none => rfl
    | some o => exact absurd (Heap.lt_size q) (Nat.lt_irrefl _)
  have hR : (s.heap.push (newSetObj w)).get? s.heap.objs.size = some (newSetObj w) := Heap.get?_push_size _ rfl
  have kp : ∀ c u, s.heap.get? c = some u → (s.heap.push (newSetObj w)).get? c = some u := fun c u hc => Heap.get?_push_of_some _ hc
  refine wpAny_bind (m := addrOf (.ref s.heap.objs.size)) (wpAny_pure ?_)
  refine wpAny_bind (wpAny_holding ?_)
  unfold updateFrom
  refine wpAny_bind (any_set (s := { s with heap := _ }) ⟨o, kp _ _ ho, hex.1⟩ ?_)
  refine wp_if_pos rfl ?_
  refine wpAny_bind (m := addrOf (.ref b)) (wpAny_pure ?_)
  unfold merge
  refine wpAny_bind (wpAny_setEpoch_of (kp _ _ ho) hd R.fits ?_)
  have ne : (s.heap.objs.size == b) = false := by
    rw [beq_eq_false_iff_ne]
    intro z
    rw [z] at hr0
    rw [hr0] at ho
    exact nomatch ho
  rw [merge_eqE]
  refine wp_if_neg (by rw [ne]; decide) ?_
  refine wpAny_bind (wpAny_setState_of (kp _ _ ho) hd R.fits ?_)
  dsimp only
  refine wp_if_neg (by rw [Array.isEmpty_iff_size_eq_zero, sz]; omega) ?_
  rw [sz]
  refine wpAny_bind (room1 (s := { s with heap := s.heap.push (newSetObj w) }) hR ?_)
  refine wpAny_bind (wpAny_setState_of (s := { s with heap := s.heap.push (newSetObj w) }) hR rfl (fresh_fits _) ?_)
  dsimp only
  have ledok : ∀ t' : SetTable, t'.led = ((!w.params.followText "set-order") && t.led) → (w.params.followText "set-order" = true ∨ t'.led = true) := fun t' e => by
    rw [e]
    cases hb : w.params.followText "set-order" with
    | true => exact .inl rfl
    | false =>
      rcases R.led with z | z
      · rw [hb] at z
        exact nomatch z
      · rw [z]
        exact .inr rfl
  have fin : ∀ (es' : Array (Int × Value)) (t' : SetTable), es'.toList = ents w [(y, k)] → TabOk t' (hashes w [(y, k)]) → t'.led = ((!w.params.followText "set-order") && t.led) → 1 * 5 < t'.mask * 3 →
      wpAny (model P w) A (storeSet s.heap.objs.size es' t') (fun _ s' => wpAny (model P w) A (pure (Value.ref s.heap.objs.size)) Q E s') E { s with heap := s.heap.push (newSetObj w) } := by
    intro es' t' he T hl hm
    have sz' : es'.size = 1 := size_of_ents he
    refine wpAny_storeSet_of (s := { s with heap := s.heap.push (newSetObj w) }) hR rfl ?_ (by rw [sz', sizeLine_eq]; omega)
    have keep : ∀ c u, s.heap.get? c = some u → ((s.heap.push (newSetObj w)).update s.heap.objs.size (Obj.putSet es' t')).get? c = some u := fun c u hc =>
      ((Heap.SameBut.update (h := s.heap.push (newSetObj w)) (a := s.heap.objs.size) (f := Obj.putSet es' t')).2 c (fun z => by rw [z, hr0] at hc; exact nomatch hc)).trans (kp c u hc)
    refine wpAny_pure (q _ es' 1 t' keep ⟨⟨_, store_at hR rfl, ⟨rfl, rfl, rfl⟩, rfl⟩, he, T, R.nd, fun p hp => (R.ks p hp).kept keep, ledok t' hl, hm, R.few⟩)
  have fill0 : (SetTable.fresh 0 0 (!w.params.followText "set-order")).fill = 0 := rfl
  have hr := R.room
  by_cases slot : 7 = t.mask
  · have rd : (SetTable.fresh 0 0 (!w.params.followText "set-order")).road t = .slotForSlot := by
      unfold SetTable.road
      rw [fill0, R.tab.dm]
      show (if (0 != 0) = true then SetTable.Road.oneByOne else if (7 == t.mask && _) = true then _ else _) = _
      rw [← slot]
      rfl
    rw [rd]
    dsimp only
    refine fin es _ R.en ⟨R.tab.ris, R.tab.dm, R.tab.sz, R.tab.mok, R.tab.bd, R.tab.reach⟩ rfl hr
  · have rd : (SetTable.fresh 0 0 (!w.params.followText "set-order")).road t = .clean := by
      unfold SetTable.road
      rw [fill0]
      show (if (0 != 0) = true then SetTable.Road.oneByOne else if (7 == t.mask && _) = true then _ else _) = _
      have : (7 == t.mask) = false := by rw [beq_eq_false_iff_ne]; exact slot
      rw [this]
      rfl
    rw [rd]
    dsimp only
    have hsz : (es.map (·.1)).size = 1 := by rw [Array.size_map, sz]
    obtain ⟨t', order, e, p, T, msk, led⟩ := laid7T 0 0 ((!w.params.followText "set-order") && t.led) (true && t.plain) (hs := es.map (·.1)) (by rw [hsz]; omega)
    rw [hsz] at p
    obtain ⟨L2, r1, r2, r3⟩ := relist [(y, k)] es order R.en p
    have hs2 : (order.filterMap (es[·]?)).size = es.size := by rw [size_of_ents r1, r2.length_eq]; exact sz.symm
    have e' : SetTable.laid (SetTable.fresh 0 0 (!w.params.followText "set-order")).mask (SetTable.fresh 0 0 (!w.params.followText "set-order")).finger (SetTable.fresh 0 0 (!w.params.followText "set-order")).moves ((SetTable.fresh 0 0 (!w.params.followText "set-order")).led && t.led) ((SetTable.fresh 0 0 (!w.params.followText "set-order")).plain && t.plain) (es.map (·.1)) = some (t', order) := e
    rw [e']
    dsimp only
    refine wpAny_bind (wp_if_neg (by rw [hs2]; simp [sz]) ?_)
    refine wpAny_pure ?_
    dsimp only
    have eL : L2 = [(y, k)] := List.perm_singleton.mp r2
    subst eL
    rw [← r3] at T
    exact fin _ t' r1 T led (by rw [msk]; decide)
/-- the one tuple of r is in a, too: nothing is left -/
theorem flip1 {id : String} {a r x y : Addr} {k : NK} {e1 e2 : Array (Int × Value)} {p1 p2 : Nat} {t1 t2 : SetTable} (R1 : TSet P w s.heap a [(x, k)] e1 p1 t1) (R : TSet P w s.heap r [(y, k)] e2 p2 t2) (hne : a ≠ r) (hu : A.units + 8 < cLine)
    {Q : Unit → Shared → Prop} (q : ∀ h' d ep t, Heap.SameBut r s.heap h' → SSet P w h' r [] #[] ep t → Q () { s with heap := h', drawn := d }) :
    wpAny (model P w) A (symmetricDifferenceUpdate id r (.ref a)) Q E s := by
  obtain ⟨o1, ho1, hex1, hd1⟩ := R1.ob
  obtain ⟨o, ho, hex, hd⟩ := R.ob
  have T1 : s.TypeIs (.ref a) "set" := ⟨o1, ho1, hex1.1⟩
  have z1 : e1.size = 1 := size_of_ents R1.en
  have z2 : e2.size = 1 := size_of_ents R.en
  unfold symmetricDifferenceUpdate
  refine wp_if_neg (by simp [hne]) ?_
  dsimp only
  refine wpAny_bind (wpAny_typeOf T1 ?_)
  refine wp_if_neg (by decide) ?_
  refine wpAny_bind (any_set T1 ?_)
  refine wp_if_pos rfl ?_
  refine wpAny_bind (wpAny_pure ?_)
  refine wpAny_bind (m := addrOf (.ref a)) (wpAny_pure ?_)
  refine wpAny_bind (wpAny_setEpoch_of ho1 hd1 R1.fits ?_)
  refine wpAny_holding ?_
  refine wpAny_bind (unseen_perm R1 fun out d pm => ?_)
  have eo : out.toList = [(k.hash w, Value.ref x)] := by
    have : e1.toList = [(k.hash w, Value.ref x)] := R1.en
    rw [this] at pm
    exact List.perm_singleton.mp pm
  rw [← Array.forIn_toList, eo]
  refine wpAny_bind ?_
  rw [List.forIn_cons]
  refine wpAny_bind ?_
  dsimp only
  refine wpAny_bind (wpAny_holding ?_)
  have Rd : TSet P w ({ s with drawn := d } : Shared).heap r [(y, k)] e2 p2 t2 := R
  have hx : TupK ({ s with drawn := d } : Shared).heap k x := R1.ks (x, k) (List.mem_singleton.mpr rfl)
  have base : wpAny (model P w) A (setDiscardHashed r (.ref x) (k.hash w)) (fun b s' => b = true ∧ ∃ h', s' = { s with heap := h', drawn := d } ∧ Heap.SameBut r s.heap h' ∧ ∃ ep t, SSet P w h' r [] #[] ep t) E { s with drawn := d } := by
    unfold setDiscardHashed
    refine wpAny_bind (soughtI Rd hx hu (fun i p hi hk => ?_) fun hn => absurd (by simp) hn)
    dsimp only
    refine wpAny_bind (wpAny_setState_of (s := { s with drawn := d }) ho hd R.fits ?_)
    dsimp only
    have i0 : i = 0 := by
      have := (List.getElem?_eq_some_iff.mp hi).1
      simp at this
      omega
    subst i0
    obtain ⟨j, hj⟩ : ∃ j, t2.place = #[j] := by
      have := R.tab.sz
      rw [hashes_len] at this
      have l1 : t2.place.size = 1 := this
      obtain ⟨j, hj⟩ := List.length_eq_one_iff.mp (show t2.place.toList.length = 1 by rw [Array.length_toList]; exact l1)
      exact ⟨j, Array.ext' hj⟩
    have ee : SetTable.eraseAt e2 0 = #[] := by
      apply Array.eq_empty_of_size_eq_zero
      unfold SetTable.eraseAt
      simp [z2]
    have et : (t2.drop 0) = { t2 with place := #[], dummies := #[j] } := by
      unfold SetTable.drop
      rw [hj, R.tab.dm]
      rfl
    rw [ee, et]
    refine wpAny_bind (wpAny_storeSet_of (s := { s with drawn := d }) ho hd ?_ (by rw [sizeLine_eq]; decide))
    refine wpAny_bind (wpAny_point ?_)
    refine wpAny_pure ⟨rfl, _, rfl, Heap.SameBut.update .., _, _, ⟨⟨_, store_at ho hd, hex.1, rfl⟩, rfl, ?_, List.Pairwise.nil, R.led⟩⟩
    have hm := R.room
    unfold SetTable.fits SetTable.fill
    simp
    omega
  refine wpAny_bind (wpAny_mono base (fun b s' hb => ?_) fun _ _ h => h)
  obtain ⟨rfl, h', rfl, sb, ep, t, S⟩ := hb
  refine wp_if_neg (by decide) ?_
  refine wpAny_pure ?_
  have ho1' : h'.get? a = some o1 := (sb.2 a hne).trans ho1
  unfold unchanged
  refine wpAny_bind (wpAny_bind (wpAny_setEpoch_of (s := { s with heap := h', drawn := d }) ho1' hd1 R1.fits ?_))
  refine wp_if_neg (by simp) ?_
  refine wpAny_pure ?_
  refine wpAny_pure ?_
  dsimp only
  refine wpAny_pure ?_
  exact wpAny_pure (q h' d ep t sb S)
/-- a ^ b, both of the same one tuple -/
theorem xor_call1 {a b x y : Addr} {k : NK} {e1 e2 : Array (Int × Value)} {p1 p2 : Nat} {t1 t2 : SetTable} (R1 : TSet P w s.heap a [(x, k)] e1 p1 t1) (R2 : TSet P w s.heap b [(y, k)] e2 p2 t2) (hu : A.units + 16 < cLine)
    {Q : Value → Shared → Prop} (q : ∀ h' d ep t, (∀ c u, s.heap.get? c = some u → h'.get? c = some u) → SSet P w h' s.heap.objs.size [] #[] ep t → Q (.ref s.heap.objs.size) { s with heap := h', drawn := d }) :
    wpAny (model P w) A (binaryOp .BitXor (.ref a) (.ref b)) Q E s := by
  obtain ⟨o1, ho1, hex1, hd1⟩ := R1.ob
  obtain ⟨o2, ho2, hex2, hd2⟩ := R2.ob
  have T1 : s.TypeIs (.ref a) "set" := ⟨o1, ho1, hex1.1⟩
  have T2 : s.TypeIs (.ref b) "set" := ⟨o2, ho2, hex2.1⟩
  refine wpAny_binaryOp_same (op := .BitXor) T1 T2 F.fills_set_xor F.slot_set_xor (wpAny_call_entry F.slot_set_xor T1 entry_set_xor ?_ (F.args_set_xor_2 _ _))
  show wpAny _ _ (do
    let r ← isAnySet (.ref a) <&&> isAnySet (.ref b)
    if !r then do
      rule s!"frozenset.{"__xor__"}.declined"
      ret .notImplemented
    else do
      let l ← addrOf (.ref a)
      let v ← (do
        let result ← newFrom s!"frozenset.{"__xor__"}" (← baseOf l) (.ref b)
        holding [result] (symmetricDifferenceUpdate s!"frozenset.{"__xor__"}" (← addrOf result) (.ref l))
        return result)
      ret v) _ _ s
  refine wpAny_bind ?_
  unfold andM
  refine wpAny_bind (any_set T1 ?_)
  refine any_set T2 ?_
  refine wp_if_neg (by decide) ?_
  refine wpAny_bind (m := addrOf (.ref a)) (wpAny_pure ?_)
  refine wpAny_bind ?_
  refine wpAny_bind (base_set T1 ?_)
  refine wpAny_bind (copied1 R2 fun h' es' ep' t' keep R => ?_)
  have hne : a ≠ s.heap.objs.size := Nat.ne_of_lt (Heap.lt_size ho1)
  refine wpAny_bind (m := addrOf (.ref s.heap.objs.size)) (wpAny_pure ?_)
  refine wpAny_bind (wpAny_holding (flip1 (s := { s with heap := h' }) (R1.moved (keep a) fun p hp => (R1.ks p hp).kept keep) R hne (by simp only [Around.in1_units]; omega) fun h2 d ep t sb S => ?_))
  refine wpAny_pure ?_
  refine wpAny_pure ⟨_, rfl, (fun z => nomatch z), q h2 d ep t (fun c u hc => (sb.2 c fun z => ?_).trans (keep c u hc)) S⟩
  rw [z] at hc
  exact absurd (Heap.lt_size hc) (Nat.lt_irrefl _)
end
section
variable {X : Cx} {pins : List (Addr × Obj)} {σ : L2.St} {H : Hp} {s : Shared}
theorem oneTup {L : List (Addr × PyData)} {d : PyData} (nd : ((tk L).map (·.2)).Nodup) (h : ∀ p ∈ L, p.2 = d) (ne : L ≠ []) : ∃ x, L = [(x, d)] := by
  match L, nd, h, ne with
  | [(x, e)], _, h, _ => exact ⟨x, by rw [show e = d from h (x, e) List.mem_cons_self]⟩
  | (x, e) :: (y, g) :: L, nd, h, _ =>
    have e1 : e = d := h (x, e) List.mem_cons_self
    have e2 : g = d := h (y, g) (by simp)
    subst e1 e2
    exact absurd nd (by simp [tk])
  | [], _, _, ne => exact absurd rfl ne
/-- a ^ b, sets of the same one tuple -/
def rXor1 (K : PySem.W.Frag) (P : Program) (w : World) : R2 := fun x y H Q => ∃ (a b : Addr) (L1 L2 : List (Addr × PyData)) (d : PyData), x = .ref a ∧ y = .ref b ∧ H a = some (TSetO w a L1) ∧ H b = some (TSetO w b L2) ∧ Good d ∧ (∀ p ∈ L1, p.2 = d ∧ Dp K H (.ref p.1) d) ∧ (∀ p ∈ L2, p.2 = d ∧ Dp K H (.ref p.1) d) ∧ L1 ≠ [] ∧ L2 ≠ [] ∧ ∀ c, H c = none → Q (.ref c) (upd H c (SSetO P w c []))
theorem op_xor1 (hu : X.A.units + 64 < cLine) : OpR X (binaryOp .BitXor) (rXor1 X.K X.prog X.w) := by
  intro pins s σ H x y v u Q I rx ry h
  obtain ⟨a, b, L1, L2, d, rfl, rfl, ha, hb, g, d1, d2, n1, n2, q⟩ := h
  obtain rfl : v = Value.ref a := rx
  obtain rfl : u = Value.ref b := ry
  obtain ⟨es1, ep1, t1, R1⟩ := tset_get I ha fun p hp => by rw [(d1 p hp).1]; exact ⟨g, (d1 p hp).2⟩
  obtain ⟨es2, ep2, t2, R2⟩ := tset_get I hb fun p hp => by rw [(d2 p hp).1]; exact ⟨g, (d2 p hp).2⟩
  obtain ⟨x1, rfl⟩ := oneTup R1.nd (fun p hp => (d1 p hp).1) n1
  obtain ⟨y1, rfl⟩ := oneTup R2.nd (fun p hp => (d2 p hp).1) n2
  have hn : H s.heap.objs.size = none := I.hok.fresh (Nat.le_refl _)
  refine xor_call1 (x := x1) (y := y1) (k := toK d) R1 R2 (by omega) fun h' dd ep t keep S => ?_
  have new : ObjOk X.prog X.w (upd H s.heap.objs.size (SSetO X.prog X.w s.heap.objs.size [])) h' s.heap.objs.size (SSetO X.prog X.w s.heap.objs.size []) := by
    obtain ⟨o, ho, ho2⟩ := S.ob
    exact ⟨⟨#[], ep, t, S⟩, ⟨o, ho⟩, fun h1 h2 ⟨es', ep', t', S'⟩ kk => ⟨es', ep', t', by
      obtain ⟨o', e1, e2⟩ := S'.ob
      exact ⟨⟨o', kk o' e1, e2⟩, S'.en, S'.fit, S'.ris, S'.led⟩⟩⟩
  have J : Inv X pins σ (upd H s.heap.objs.size (SSetO X.prog X.w s.heap.objs.size [])) { s with heap := h', gens := s.gens, drawn := dd, toks := s.toks } :=
    I.call (ch := []) (Un.laid keep (Nat.le_refl _) hn) (I.hok.laid keep (Nat.le_refl _) new) I.bare (fun _ z => nomatch z)
  exact ⟨.ref s.heap.objs.size, _, J, rfl, q _ hn⟩
end
end Rw
namespace Rw
open PySem PySem.Spec PyProof.Rows L2
/-! ### alike: what it refuses; two programs without rules -/
theorem scParted0 : FnScope ["one", "other", "apart"] ["one", "other"] (defScope sParted0) := ⟨rfl, rfl, rfl, by decide +kernel, rfl, by decide +kernel, by decide +kernel⟩
theorem scAlike : FnScope ["one", "other", "added", "names", "first", "second", "apart"] ["one", "other", "added"] (defScope sAlike) := ⟨rfl, rfl, rfl, by decide +kernel, rfl, by decide +kernel, by decide +kernel⟩
theorem good_nil : Good (wd []) := ⟨ok_wd [], by decide, ⟨[], rfl⟩⟩
theorem pe_nev {X : Cx} {e : Expr} : PE X e (fun _ _ _ => False) := ⟨fun _ _ _ _ _ _ h => False.elim h⟩
section
variable {P : Program} {w : World} {K : PySem.W.Frag} {mg : Str → Option Value} {base : Heap} {f : Addr} {fd : FuncData} {k : Nat}
def spParted0 (K : PySem.W.Frag) (C : Addr) : Sp := fun vs H Q _ => ∃ x y : V, vs = [x, y] ∧ PgAt K C H x [] ∧ PgAt K C H y [] ∧ ∀ H', Same H H' → Q .non H'
theorem ok_parted0 {C CP f1 : Addr} {fd1 : FuncData} (F : Fun K "_parted_by_nothing" "_parted_by_nothing" sParted0 f fd) (T : Bl mg)
    (G1 : FnOk P w K mg base (L2.CX P w) (k + 1) f1 fd1 ["program"] (spAnswers K C CP)) (b1 : Binds K fd1 ["program"] []) (k1 : PySem.W.keepIn K (.ref f1) = true) (m1 : mg "answers" = some (.ref f1)) :
    FnOk P w K mg base CX0 (k + 2) f fd ["one", "other"] (spParted0 K C) := by
  refine F.ok scParted0 (fun vs H Q E h => ?_) (fun cdv A outer s H vs Q E hr h => ?_)
  · obtain ⟨x, y, rfl, _⟩ := h
    rfl
  obtain ⟨x, y, rfl, hx, hy, q⟩ := h
  refine ⟨_, pss_cons (ps_set (i := 2) scParted0.nd rfl (.inl rfl) (pe_callB (cr_sortS rfl hr.units) (by rfl) T.sorted (by decide +kernel) (pa_cons (pe_op (op_xor1 hr.units)
      (pe_callTy (cr_setT rfl hr.units) (by rfl) T.set (by decide +kernel) (pa_cons (pe_call G1 hr (by rfl) m1 k1 b1 .nil passNo (pa_cons (pv 0) pa_nil)) pa_nil))
      (pe_callTy (cr_setT rfl hr.units) (by rfl) T.set (by decide +kernel) (pa_cons (pe_call G1 hr (by rfl) m1 k1 b1 .nil passNo (pa_cons (pv 1) pa_nil)) pa_nil))) pa_nil)))
    (pss_one (ps_ret (pe_ifExp (pt_truth (pv 2) (fun _ => rfl)) pe_nev pe_non))), ?_⟩
  have ans : ∀ {H1 : Hp} {v : V} {Q2 : VK}, PgAt K C H1 v [] → (∀ H' l, Same H1 H' → WLs K H' l [[]] → Q2 (.ref l) H') → spAnswers K C CP [v] H1 Q2 (fun _ _ _ => False) := fun {H1 v Q2} hv q2 =>
    ⟨v, rfl, .inl ⟨[], [], hv, (fun _ z => nomatch z), by decide, (fun _ z => nomatch z), by decide, fun H' l own s _ hown hm hW => q2 H' l s (by rw [told_none hown hm fun r => Iff.rfl] at hW; exact hW)⟩⟩
  refine ⟨x, rfl, ?_⟩
  dsimp only [tNil]
  refine ans hx fun H1 l1 s1 hW1 => ?_
  obtain ⟨ys1, hl1, hy1⟩ := hW1
  refine ⟨l1, ys1, [wd []], rfl, .inl (SqL.of hl1), hy1, (fun d hd => by rw [List.mem_singleton.mp hd]; exact good_nil), by show 1 < 76; decide, fun a1 M1 ha1 hM1 hall1 => ?_⟩
  have sa1 := same_new ha1 (TSetO w a1 M1)
  refine ⟨y, rfl, ?_⟩
  dsimp only [tNil]
  refine ans (hy.same (s1.trans sa1)) fun H2 l2 s2 hW2 => ?_
  obtain ⟨ys2, hl2, hy2⟩ := hW2
  refine ⟨l2, ys2, [wd []], rfl, .inl (SqL.of hl2), hy2, (fun d hd => by rw [List.mem_singleton.mp hd]; exact good_nil), by show 1 < 76; decide, fun a2 M2 ha2 hM2 hall2 => ?_⟩
  have sa2 := same_new ha2 (TSetO w a2 M2)
  have ne : ∀ {M : List (Addr × PyData)}, (∀ d ∈ [wd []], d ∈ M.map (·.2)) → M ≠ [] := fun h e => by
    have := h (wd []) (List.mem_singleton.mpr rfl)
    rw [e] at this
    exact nomatch this
  have s12 := s2.trans sa2
  refine ⟨a1, a2, M1, M2, wd [], rfl, rfl, s12 _ _ upd_same, upd_same, good_nil, fun p hp => ?_, fun p hp => ?_, ne hall1, ne hall2, fun c hc => ?_⟩
  · have e := List.mem_singleton.mp (hM1 p hp).1
    exact ⟨e, e ▸ (Stay.same (sa1.trans s12)).dp _ _ (by rw [e]; exact ok_wd []) (hM1 p hp).2⟩
  · have e := List.mem_singleton.mp (hM2 p hp).1
    exact ⟨e, e ▸ (Stay.same sa2).dp _ _ (by rw [e]; exact ok_wd []) (hM2 p hp).2⟩
  have sc := same_new hc (SSetO P w c [])
  refine ⟨c, [], rfl, upd_same, (fun p hp => nomatch hp), List.nodup_nil, by show 0 < 76; decide, (fun _ z => nomatch z), fun zs ds p pm _ _ _ hz hp => ?_⟩
  obtain rfl : ds = [] := List.perm_nil.mp pm
  cases hz
  have sp := same_new hp (.lst [])
  refine ⟨.ref p, rfl, false, .inl ⟨[], SqL.of upd_same, rfl⟩, iteF ?_⟩
  exact q _ (s1.trans (sa1.trans (s12.trans (sc.trans sp))))
def spAlike (K : PySem.W.Frag) (C CP CK : Addr) : Sp := fun vs H Q E => ∃ x y v : V, vs = [x, y, v] ∧ (AskR K C CP CK x y v H E (fun _ => False) ∨ (PgAt K C H x [] ∧ PgAt K C H y [] ∧ v = .str "nothing" ∧ ∀ H', Same H H' → Q .non H'))
theorem ok_alike {C CP CK f1 f2 : Addr} {fd1 fd2 : FuncData} (F : FunD K "alike" "alike" (defArgs sAlike) (defBody sAlike) (defScope sAlike) [.str "rules"] [] f fd)
    (G1 : FnOk P w K mg base (L2.CX P w) (k + 3) f1 fd1 ["one", "other", "added"] (spAskR K C CP CK)) (b1 : Binds K fd1 ["one", "other", "added"] []) (k1 : PySem.W.keepIn K (.ref f1) = true) (m1 : mg "_check_asked" = some (.ref f1))
    (G2 : FnOk P w K mg base CX0 (k + 3) f2 fd2 ["one", "other"] (spParted0 K C)) (b2 : Binds K fd2 ["one", "other"] []) (k2 : PySem.W.keepIn K (.ref f2) = true) (m2 : mg "_parted_by_nothing" = some (.ref f2)) :
    FnOk P w K mg base (L2.CX P w) (k + 4) f fd ["one", "other", "added"] (spAlike K C CP CK) := by
  refine F.ok scAlike (fun vs H Q E h => ?_) (fun cdv A outer s H vs Q E hr h => ?_)
  · obtain ⟨x, y, v, rfl, _⟩ := h
    rfl
  obtain ⟨x, y, v, rfl, h⟩ := h
  refine ⟨_, pss_cons (ps_expr (pe_call G1 hr (by rfl) m1 k1 b1 .nil (passes_call (takes_of rfl rfl rfl rfl) (fun _ _ _ _ h => h)) (pa_cons (pv 0) (pa_cons (pv 1) (pa_cons (pv 2) pa_nil)))))
    (pss_cons (ps_if (pt_cmpR op_eq (pv 2) pe_str (nomark _)) (pss_one (ps_ret (pe_call G2 hr (by rfl) m2 k2 b2 .nil pass0 (pa_cons (pv 0) (pa_cons (pv 1) pa_nil))))) pss_nil) pss_never), ?_⟩
  rcases h with h | ⟨hx, hy, rfl, q⟩
  · exact ⟨x, rfl, y, rfl, v, rfl, x, y, v, rfl, askR_false h⟩
  refine ⟨x, rfl, y, rfl, .str "nothing", rfl, x, y, .str "nothing", rfl, .inr ⟨⟨[], hx⟩, .inr ⟨⟨[], hy⟩, .inr ⟨"nothing", by decide, rfl, ?_⟩⟩⟩⟩
  refine ⟨.str "nothing", rfl, rfl, true, rfl, iteT ?_⟩
  exact ⟨x, rfl, y, rfl, x, y, rfl, hx, hy, q⟩
end
end Rw
namespace Rw
open PySem PySem.Spec PyProof.Rows L2
/-! ### a list compared with [] -/
section
variable {X : Cx}
def rEqE (K : PySem.W.Frag) : R2 := fun x y H Q => ∃ p q xs, x = .ref p ∧ y = .ref q ∧ SqL K H p xs ∧ SqL K H q [] ∧ Q (.bl xs.isEmpty) H
def rNeE (K : PySem.W.Frag) : R2 := fun x y H Q => ∃ p q xs, x = .ref p ∧ y = .ref q ∧ SqL K H p xs ∧ SqL K H q [] ∧ Q (.bl (!xs.isEmpty)) H
theorem op_eqE (hu : X.A.units + 64 < cLine) : OpR X (compareOp .Eq) (rEqE X.K) := by
  intro pins s σ H x y v u Q I rx ry h
  obtain ⟨p, q, xs, rfl, rfl, hp, hq, k⟩ := h
  obtain rfl : v = Value.ref p := rx
  obtain rfl : u = Value.ref q := ry
  obtain ⟨its, rv, pl, _⟩ := I.list hp
  obtain ⟨its2, rv2, pl2, _⟩ := I.list hq
  cases rv2
  cases xs with
  | nil =>
    cases rv
    exact SeqAt.RcAt.lists (e := fun _ => true) pl.isList pl2.isList rfl (by omega) (fun j h1 _ => absurd h1 (Nat.not_lt_zero j)) X.prog X.w X.xe _ ⟨.bl true, H, I, rfl, k⟩
  | cons x xs =>
    cases rv with
    | cons _ _ => exact SeqAt.RcAt.lists_lengths pl.isList pl2.isList (by simp) (by omega) X.prog X.w X.xe _ ⟨.bl false, H, I, rfl, k⟩
theorem op_neE (hu : X.A.units + 64 < cLine) : OpR X (compareOp .NotEq) (rNeE X.K) := by
  intro pins s σ H x y v u Q I rx ry h
  obtain ⟨p, q, xs, rfl, rfl, hp, hq, k⟩ := h
  obtain rfl : v = Value.ref p := rx
  obtain rfl : u = Value.ref q := ry
  obtain ⟨its, rv, pl, _⟩ := I.list hp
  obtain ⟨its2, rv2, pl2, _⟩ := I.list hq
  cases rv2
  cases xs with
  | nil =>
    cases rv
    exact SeqAt.RcNeAt.lists (e := fun _ => true) pl.isList pl2.isList rfl (by omega) (fun j h1 _ => absurd h1 (Nat.not_lt_zero j)) X.prog X.w X.xe _ ⟨.bl false, H, I, rfl, k⟩
  | cons x xs =>
    cases rv with
    | cons _ _ => exact SeqAt.RcNeAt.lists_lengths pl.isList pl2.isList (by simp) (by omega) X.prog X.w X.xe _ ⟨.bl true, H, I, rfl, k⟩
end
end Rw
namespace Rw
open PySem PySem.Spec PyProof.Rows L2
/-! ### the law's own: a fact, a world -/
theorem scLawIsFact : FnScope ["row"] ["row"] (defScope sLawIsFact) := ⟨rfl, rfl, rfl, by decide +kernel, rfl, by decide +kernel, by decide +kernel⟩
theorem scLawIsWorld : FnScope ["item", "x"] ["item"] (defScope sLawIsWorld) := ⟨rfl, rfl, rfl, by decide +kernel, rfl, by decide +kernel, by decide +kernel⟩
theorem shaped_3 {a b c : W} (ha : IsW a) (hb : IsW b) (hc : IsW c) : SeqAt.shaped (.tuple [wd a, wd b, wd c]) = true := by
  refine shaped_of ?_ ?_
  · rw [PyData.canLay0]
    have := lay_wds (L := [a, b, c]) fun t ht => by
      simp only [List.mem_cons, List.mem_nil_iff, or_false] at ht
      rcases ht with rfl | rfl | rfl
      · exact ha
      · exact hb
      · exact hc
    exact this
  · rw [PyData.depth]
    have := depthAll_wd [a, b, c]
    have e : PyData.depthAll [wd a, wd b, wd c] = PyData.depthAll ([a, b, c].map wd) := rfl
    rw [e]
    omega
theorem eqv_3 (a b c : W) : PyData.eqv (.tuple [wd a, wd b, wd c]) (.tuple [wd [], wd [], wd []]) = (a.isEmpty && b.isEmpty && c.isEmpty) := by
  rw [PyData.eqv, PyData.eqvAll, PyData.eqvAll, PyData.eqvAll, PyData.eqvAll, eqv_wd, eqv_wd, eqv_wd]
  cases a <;> cases b <;> cases c <;> rfl
def fourW : W := ["a", "ab", "b", "z"]
def inFour (d : PyData) : Bool := (fourW.map PyData.str).any fun z => PyData.eqv z d
def lawWB (ds : List PyData) : Bool := ds.all inFour && decide (UpX (ds.map strOf))
theorem inFour_str {d : PyData} (h : inFour d = true) : ∃ z ∈ fourW, d = .str z := by
  unfold inFour at h
  obtain ⟨y, hy, e⟩ := List.any_eq_true.mp h
  obtain ⟨z, hz, rfl⟩ := List.mem_map.mp hy
  cases d with
  | str x =>
    have e' : (z == x) = true := e
    exact ⟨z, hz, by rw [eq_of_beq e']⟩
  | _ => exact nomatch e
theorem strs_four : ∀ {ds : List PyData}, ds.all inFour = true → ds = (ds.map strOf).map PyData.str ∧ ∀ x ∈ ds.map strOf, x ∈ fourW
  | [], _ => ⟨rfl, fun _ z => nomatch z⟩
  | d :: ds, h => by
    rw [List.all_cons, Bool.and_eq_true] at h
    obtain ⟨z, hz, rfl⟩ := inFour_str h.1
    obtain ⟨e, m⟩ := strs_four h.2
    refine ⟨?_, fun x hx => ?_⟩
    · rw [List.map_cons, List.map_cons, ← e]
      rfl
    · rcases List.mem_cons.mp hx with rfl | hx
      · exact hz
      · exact m x hx
theorem four_name : ∀ x ∈ fourW, nameB x = true := by decide +kernel
/-- a thing that the law asks whether it is a world, and its answer -/
def LwV (K : PySem.W.Frag) (H : Hp) (x : V) (b : Bool) : Prop := (∃ a xs ds, x = .ref a ∧ SqT K H a xs ∧ DpAll K H xs ds ∧ (∀ d ∈ ds, SeqAt.shaped d = true) ∧ ds.length ≤ 40 ∧ b = lawWB ds) ∨ (NotT K H x "tuple" ∧ b = false)
theorem LwV.same {K : PySem.W.Frag} {H H' : Hp} {x : V} {b : Bool} (h : LwV K H x b) (e : Same H H') : LwV K H' x b := by
  rcases h with ⟨a, xs, ds, h1, h2, h3, h4⟩ | ⟨h1, h2⟩
  · exact .inl ⟨a, xs, ds, h1, same_tup e h2, dpAll_same e _ _ h3, h4⟩
  · exact .inr ⟨h1.same e, h2⟩
section
variable {P : Program} {w : World} {K : PySem.W.Frag} {mg : Str → Option Value} {base : Heap} {f : Addr} {fd : FuncData} {k : Nat}
def spLawIsFact (K : PySem.W.Frag) : Sp := fun vs H Q _ => ∃ (x : V) (r : Rl), vs = [x] ∧ Dp K H x (rd r) ∧ IsR r ∧ ∀ H', Same H H' → Q (.bl (factB r)) H'
theorem ok_lawIsFact (F : Fun K "_law_is_fact" "_law_is_fact" sLawIsFact f fd) (T : Bl mg) : FnOk P w K mg base CX0 (k + 1) f fd ["row"] (spLawIsFact K) := by
  refine F.ok scLawIsFact (fun vs H Q E h => ?_) (fun cdv A outer s H vs Q E hr h => ?_)
  · obtain ⟨x, r, rfl, _⟩ := h
    rfl
  obtain ⟨x, r, rfl, hx, hR, q⟩ := h
  refine ⟨_, pss_one (ps_ret (pe_and (pe_cmpR op_eq (pe_callB call_len_seq (by rfl) T.len PySem.boot_len (pa_cons (pe_ix ix_tup (pv 0) pe_int (fun _ _ => rfl)) pa_nil)) pe_int (nomark _))
    (pe_one (pe_cmpR (op_eqD hr.units) (pe_slice sl_tup (pv 0) (po_some pe_int) po_none) (pe_tup (pa_cons (pe_tup pa_nil) (pa_cons (pe_tup pa_nil) (pa_cons (pe_tup pa_nil) pa_nil)))) (nomark _))))), ?_⟩
  obtain ⟨b0, v1, v2, v3, v4, rfl, hT, h1, h2, h3, h4⟩ := of_rd hx
  obtain ⟨a1, rfl, t1⟩ := of_wd h1
  refine ⟨.ref b0, rfl, b0, _, 0, .ref a1, rfl, rfl, hT, rfl, a1, r.1.map V.str, rfl, .inr t1, rfl, decide (r.1.length = 1), ?_, ?_⟩
  · rw [List.length_map]
    exact congrArg V.bl (eqV_int1 _)
  by_cases c : r.1.length = 1
  · rw [decide_eq_true c]
    refine iteT ?_
    refine ⟨.ref b0, rfl, 1, rfl, b0, _, rfl, hT, (fun z => absurd z.1 (by show ¬ (HT.sIx 4 0 (some 1) = 0); decide)), fun p hp => ?_⟩
    have ec : cutV [V.ref a1, v2, v3, v4] (some 1) none = [v2, v3, v4] := rfl
    rw [ec]
    have s1 := same_new hp (.tup [v2, v3, v4])
    refine ⟨by show 0 ≤ sizeLine; decide, fun e1 he1 => ⟨by show 0 ≤ sizeLine; decide, fun e2 he2 => ⟨by show 0 ≤ sizeLine; decide, fun e3 he3 => ⟨by show 3 ≤ sizeLine; decide, fun t ht => ?_⟩⟩⟩⟩
    have z1 := same_new he1 (.tup [])
    have z2 := same_new he2 (.tup [])
    have z3 := same_new he3 (.tup [])
    have z4 := same_new ht (.tup [.ref e1, .ref e2, .ref e3])
    have zz := z1.trans (z2.trans (z3.trans z4))
    have all := s1.trans zz
    have ef : factB r = (r.2.1.isEmpty && r.2.2.1.isEmpty && r.2.2.2.isEmpty) := by
      unfold factB
      rw [decide_eq_true c, Bool.true_and]
    refine ⟨.tuple [wd r.2.1, wd r.2.2.1, wd r.2.2.2], .tuple [wd [], wd [], wd []], .tup (same_tup zz (SqT.of upd_same)) (.cons (dp_same all _ _ h2) (.cons (dp_same all _ _ h3) (.cons (dp_same all _ _ h4) .nil))),
      .tup (SqT.of upd_same) (.cons (to_wd (ns := []) (same_tup (z2.trans (z3.trans z4)) (SqT.of upd_same))) (.cons (to_wd (ns := []) (same_tup (z3.trans z4) (SqT.of upd_same))) (.cons (to_wd (ns := []) (same_tup z4 (SqT.of upd_same))) .nil))), shaped_3 hR.d hR.n hR.b, shaped_3 isW_nil isW_nil isW_nil, ?_⟩
    rw [eqv_3, ← ef]
    exact q _ all
  · rw [decide_eq_false c]
    refine iteF ?_
    have q0 := q H fun _ _ e => e
    unfold factB at q0
    rw [decide_eq_false c, Bool.false_and] at q0
    exact q0
def spLawIsWorld (K : PySem.W.Frag) : Sp := fun vs H Q _ => ∃ (x : V) (b : Bool), vs = [x] ∧ LwV K H x b ∧ ∀ H', Same H H' → Q (.bl b) H'
theorem ok_lawIsWorld (F : Fun K "_law_is_world" "_law_is_world" sLawIsWorld f fd) (T : Bl mg) : FnOk P w K mg base CX0 (k + 1) f fd ["item"] (spLawIsWorld K) := by
  refine F.ok scLawIsWorld (fun vs H Q E h => ?_) (fun cdv A outer s H vs Q E hr h => ?_)
  · obtain ⟨x, b, rfl, _⟩ := h
    rfl
  obtain ⟨x, b, rfl, hx, q⟩ := h
  refine ⟨_, pss_cons (ps_if (PW.pt (pw_or (pt_not (pt_val (pe_callB call_isi (by rfl) T.isi PyProof.Rows.boot_isinstance (pa_cons (pv 0) (pa_cons (pe_bltn (v := .ty "tuple") (by rfl) T.tuple (by decide +kernel) rfl) pa_nil)))))
      (pw_or1 (pt_cmpR (r := rNeE K) (op_neE hr.units) (pe_lc (own := [("x", 1)]) (g := gName 1) (tt := tTest (tOp (rNotInDT K) (tVar 1) (tTup (tCons (tC (.str "a")) (tCons (tC (.str "ab")) (tCons (tC (.str "b")) (tCons (tC (.str "z")) tNil))))))) (te := tVar 1) (by rfl) scLawIsWorld.nd (pi_tup (pv 0)) (blkOk_by (N := ["item", "x"]) (sc := defScope sLawIsWorld) (by decide +kernel))
        (fun _ _ _ _ _ => pg_name (i := 1) scLawIsWorld.nd rfl (Or.inl rfl)) (fun _ _ _ _ _ => pts_one (pt_cmpR (r := rNotInDT K) (op_notInDT (room65 hr)) (pv 1) (pe_tup (pa_cons pe_str (pa_cons pe_str (pa_cons pe_str (pa_cons pe_str pa_nil))))) (by rfl))) (fun _ _ _ _ _ => pv 1)) (pe_lst pa_nil) (nomark _))))) (pss_one (ps_ret pe_bl)) pss_nil)
    (pss_one (ps_ret (pe_cmpR (op_eqD hr.units) (pv 0) (pe_callTy call_tuple_of (by rfl) T.tuple (by decide +kernel) (pa_cons (pe_callB (cr_sortX rfl hr.units) (by rfl) T.sorted (by decide +kernel) (pa_cons (pe_callTy (cr_setX rfl hr.units) (by rfl) T.set (by decide +kernel) (pa_cons (pv 0) pa_nil)) pa_nil)) pa_nil)) (nomark _)))), ?_⟩
  rcases hx with ⟨a, xs, ds, rfl, hS, hxs, hsh, hl, rfl⟩ | ⟨⟨t, h1, h2⟩, rfl⟩
  · have xl := dpAll_len hxs
    refine ⟨.ref a, rfl, .ref a, .ty "tuple", .type "tuple", .type "tuple", true, rfl, .ty "tuple", tyx_tup hS, kit_ty (by decide +kernel), true, rfl, iteF ?_⟩
    refine ⟨.ref a, rfl, a, rfl, ⟨_, hS⟩, fun D hD => ?_⟩
    let odd : Nat → Nat := fun i => ((ds.take i).filter fun d => !inFour d).length
    have oddS : ∀ {i : Nat} {d : PyData}, ds[i]? = some d → odd (i + 1) = odd i + if inFour d = true then 0 else 1 := fun {i d} hd => by
      show ((ds.take (i + 1)).filter _).length = _
      rw [filt_take hd]
      cases e : inFour d
      · simp [odd]
      · simp [odd]
    refine lc_tup (xs := xs) (fun i H1 => Same H H1 ∧ ∃ zs, H1 D = some (.lst zs) ∧ zs.length = odd i) ⟨same_new hD _, [], upd_same, rfl⟩ (fun i H1 _ hI => same_tup hI.1 hS) (fun i x H1 hxi hI => ?_) (fun H1 hI => ?_)
    · obtain ⟨sm, zs, hd, hz⟩ := hI
      obtain ⟨d, hdi, hxd⟩ := dpAll_at' hxs hxi
      have il : i < ds.length := (List.getElem?_eq_some_iff.mp hdi).1
      refine ⟨rfl, x, rfl, by show 4 ≤ sizeLine; decide, fun t ht => ?_⟩
      have s1 := same_new ht (.tup [.str "a", .str "ab", .str "b", .str "z"])
      refine ⟨d, fourW.map .str, dp_same (sm.trans s1) _ _ hxd, to_wd (ns := fourW) (SqT.of upd_same), hsh d (List.mem_of_getElem? hdi), by decide +kernel, _, rfl, ?_⟩
      have os := oddS hdi
      show if (!inFour d) = true then _ else _
      cases e : inFour d with
      | true =>
        rw [e] at os
        exact iteF ⟨sm.trans s1, zs, s1 _ _ hd, by rw [hz, os]; rfl⟩
      | false =>
        rw [e] at os
        have ol : odd i ≤ i := by
          have := List.length_filter_le (fun d => !inFour d) (ds.take i)
          rw [List.length_take] at this
          show ((ds.take i).filter _).length ≤ i
          omega
        refine iteT ⟨x, rfl, zs, s1 _ _ hd, small_line' (by omega), same_put (sm.trans s1) hD, zs ++ [x], upd_same, ?_⟩
        rw [List.length_append, hz, os]
        rfl
    · obtain ⟨sm, zs, hd, hz⟩ := hI
      refine ⟨by show 0 ≤ sizeLine; decide, fun e he => ?_⟩
      have s2 := same_new he (.lst [])
      have s02 := sm.trans s2
      refine ⟨D, e, zs, rfl, rfl, SqL.of (s2 _ _ hd), SqL.of upd_same, _, rfl, ?_⟩
      have ez : zs.isEmpty = ds.all inFour := by
        have e1 : odd xs.length = (ds.filter fun d => !inFour d).length := by
          show ((ds.take xs.length).filter _).length = _
          rw [xl, List.take_length]
        rw [Bool.eq_iff_iff, List.isEmpty_iff_length_eq_zero, hz, e1, List.length_eq_zero_iff, List.filter_eq_nil_iff, List.all_eq_true]
        exact ⟨fun g d hd => by simpa using g d hd, fun g d hd => by simpa using g d hd⟩
      rw [ez]
      cases e4 : ds.all inFour with
      | false =>
        refine iteT ?_
        have z0 := q _ s02
        unfold lawWB at z0
        rw [e4, Bool.false_and] at z0
        exact z0
      | true =>
        refine iteF ?_
        obtain ⟨ed, hm⟩ := strs_four e4
        have ex : xs = (ds.map strOf).map V.str := dps_str (K := K) (H := H) (by rw [← ed]; exact hxs)
        have hS2 := same_tup s02 hS
        rw [ex] at hS2
        have nm : ∀ x ∈ ds.map strOf, nameB x = true := fun x hx => four_name x (hm x hx)
        refine ⟨.ref a, rfl, .ref a, rfl, a, ds.map strOf, rfl, .inr hS2, by rw [List.length_map]; omega, fun b ms hb nd hmm hl' => ?_⟩
        have s3 := same_new hb (XSetO P w b ms)
        have ll : (ds.map strOf).length ≤ 40 := by rw [List.length_map]; exact hl
        refine ⟨b, ms, rfl, upd_same, by omega, fun zs2 p2 hz2 nz2 hlz rz2 hp2 => ?_⟩
        have s4 := same_new hp2 (.lst (zs2.map V.str))
        refine ⟨p2, zs2.map V.str, rfl, .inl ⟨SqL.of upd_same, fun t2 ht2 => ?_⟩⟩
        have s5 := same_new ht2 (.tup (zs2.map V.str))
        have s35 := s3.trans (s4.trans s5)
        have mem : ∀ z, z ∈ zs2 ↔ z ∈ ds.map strOf := fun z => (hz2 z).trans (hmm z)
        refine ⟨wd (ds.map strOf), wd zs2, to_wd (same_tup s35 hS2), to_wd (SqT.of upd_same), shaped_names nm, shaped_names (fun x hx => nm x ((mem x).mp hx)), ?_⟩
        rw [eqv_wd]
        have ev : decide (ds.map strOf = zs2) = decide (UpX (ds.map strOf)) := by
          by_cases u : UpX (ds.map strOf)
          · rw [decide_eq_true u, decide_eq_true (upX_one u (upX_of rz2 nz2) fun z => (mem z).symm)]
          · rw [decide_eq_false u, decide_eq_false fun z => u (by rw [z]; exact upX_of rz2 nz2)]
        rw [ev]
        have z0 := q _ (s02.trans s35)
        unfold lawWB at z0
        rw [e4, Bool.true_and] at z0
        exact z0
  · exact ⟨x, rfl, x, .ty "tuple", t, .type "tuple", false, rfl, .ty "tuple", h1, h2, false, rfl, iteT (q H fun _ _ e => e)⟩
end
end Rw
namespace Rw
open PySem PySem.Spec PyProof.Rows L2
/-! ### an item, and what is due of it -/
abbrev nLawDue : List Str := ["rows", "item", "added", "part", "both", "x", "row", "k"]
theorem scLawDue : FnScope nLawDue ["rows", "item", "added"] (defScope sLawDue) := ⟨rfl, rfl, rfl, by decide +kernel, rfl, by decide +kernel, by decide +kernel⟩
/-- an item: none of use, or a program with a world -/
def ItV (K : PySem.W.Frag) (C : Addr) (H : Hp) (t : V) : Option (List Rl × W) → Prop
  | none => NotT K H t "tuple" ∨ (∃ a xs, t = .ref a ∧ SqT K H a xs ∧ xs.length ≠ 2) ∨ (∃ a x0 x1, t = .ref a ∧ SqT K H a [x0, x1] ∧ (NotP K C H x0 ∨ ∃ SP, PgAt K C H x0 SP ∧ (∀ r ∈ SP, IsR r) ∧ SP.length ≤ 10 ∧ (∀ z ∈ namesL SP, z ∈ fourW) ∧ WlV K H x1 false ∧ LwV K H x1 false))
  | some (SP, ws) => ∃ a x0 x1, t = .ref a ∧ SqT K H a [x0, x1] ∧ PgAt K C H x0 SP ∧ (∀ r ∈ SP, IsR r) ∧ SP.length ≤ 10 ∧ (∀ z ∈ namesL SP, z ∈ fourW) ∧ IsW ws ∧ (∀ z ∈ ws, z ∈ fourW) ∧ Dp K H x1 (wd ws)
noncomputable def valI (S1 S2 : List Rl) (z : Str) : Option (List Rl × W) → Bool
  | none => false
  | some (SP, ws) => partB S1 S2 SP z ws
theorem ItV.same {K : PySem.W.Frag} {C : Addr} {H H' : Hp} {t : V} {o : Option (List Rl × W)} (h : ItV K C H t o) (e : Same H H') : ItV K C H' t o := by
  cases o with
  | none =>
    rcases h with h | ⟨a, xs, h1, h2, h3⟩ | ⟨a, x0, x1, h1, h2, h⟩
    · exact .inl (h.same e)
    · exact .inr (.inl ⟨a, xs, h1, same_tup e h2, h3⟩)
    · refine .inr (.inr ⟨a, x0, x1, h1, same_tup e h2, ?_⟩)
      rcases h with h | ⟨SP, g1, g2, g3, g4, g5, g6⟩
      · exact .inl (h.same e)
      · exact .inr ⟨SP, g1.same e, g2, g3, g4, g5.same e, g6.same e⟩
  | some p =>
    obtain ⟨SP, ws⟩ := p
    obtain ⟨a, x0, x1, h1, h2, h3, h4, h5, h6, h7, h8, h9⟩ := h
    exact ⟨a, x0, x1, h1, same_tup e h2, h3.same e, h4, h5, h6, h7, h8, dp_same e _ _ h9⟩
theorem ItV.thv {K : PySem.W.Frag} {C : Addr} {H : Hp} {t : V} {o : Option (List Rl × W)} {S1 S2 : List Rl} {z : Str} (h : ItV K C H t o) (l1 : S1.length ≤ 40) (l2 : S2.length ≤ 40) : ThV K C fourW S1 S2 z H t (valI S1 S2 z o) := by
  cases o with
  | none =>
    rcases h with h | ⟨a, xs, h1, h2, h3⟩ | ⟨a, x0, x1, h1, h2, h⟩
    · exact .inl ⟨h, rfl⟩
    · exact .inr (.inl ⟨a, xs, h1, h2, h3, rfl⟩)
    · refine .inr (.inr ⟨a, x0, x1, h1, h2, ?_⟩)
      rcases h with h | ⟨SP, g1, g2, g3, g4, g5, g6⟩
      · exact .inl ⟨h, rfl⟩
      · exact .inr ⟨SP, g1, g2, by omega, by omega, g4, .inl ⟨g5, rfl⟩⟩
  | some p =>
    obtain ⟨SP, ws⟩ := p
    obtain ⟨a, x0, x1, h1, h2, h3, h4, h5, h6, h7, h8, h9⟩ := h
    exact .inr (.inr ⟨a, x0, x1, h1, h2, .inr ⟨SP, h3, h4, by omega, by omega, h6, .inr ⟨ws, h7, h9, rfl⟩⟩⟩)
theorem lwv_world {K : PySem.W.Frag} {H : Hp} {x : V} {ws : W} (hw : IsW ws) (hf : ∀ z ∈ ws, z ∈ fourW) (hd : Dp K H x (wd ws)) : LwV K H x true := by
  obtain ⟨a, rfl, hS⟩ := of_wd hd
  refine .inl ⟨a, _, ws.map .str, rfl, hS, dps_strs ws, fun d hd => ?_, by rw [List.length_map]; exact hw.few, ?_⟩
  · obtain ⟨z, hz, rfl⟩ := List.mem_map.mp hd
    have all : (fourW.all fun z => SeqAt.shaped (.str z)) = true := by decide +kernel
    exact List.all_eq_true.mp all z (hf z hz)
  · unfold lawWB
    have e2 : (ws.map PyData.str).map strOf = ws := by
      rw [List.map_map]
      exact List.map_id' ws
    have e1 : (ws.map PyData.str).all inFour = true := by
      rw [List.all_map, List.all_eq_true]
      intro z hz
      have all : (fourW.all fun z => inFour (.str z)) = true := by decide +kernel
      exact List.all_eq_true.mp all z (hf z hz)
    rw [e1, e2, decide_eq_true hw.up]
    rfl
/-- a list filtered by names that are not there is empty -/
theorem minus_empty (a b : W) : (a.filter fun z => !decide (z ∈ b)).isEmpty = sub a b := by
  unfold sub
  rw [Bool.eq_iff_iff, List.isEmpty_iff, List.filter_eq_nil_iff, List.all_eq_true]
  exact ⟨fun g d hd => by simpa using g d hd, fun g d hd => by simpa using g d hd⟩
theorem mayB_of {z : Str} (hz : z ∈ addW) (SP : List Rl) : mayB z SP = !((decide (z = "facts") && !(SP.filter fun r => !factB r).isEmpty) || (decide (z = "nothing") && !SP.isEmpty)) := by
  have ef : (SP.filter fun r => !factB r).isEmpty = SP.all factB := by
    rw [Bool.eq_iff_iff, List.isEmpty_iff, List.filter_eq_nil_iff, List.all_eq_true]
    exact ⟨fun g d hd => by simpa using g d hd, fun g d hd => by simpa using g d hd⟩
  have el : decide (SP.length = 0) = SP.isEmpty := by cases SP <;> rfl
  unfold mayB
  rw [ef]
  simp only [addW, List.mem_cons, List.mem_nil_iff, or_false] at hz
  rcases hz with rfl | rfl | rfl
  · rw [if_neg (by decide), decide_eq_true rfl, decide_eq_false (by decide), decide_eq_false (by decide)]
    simp
  · rw [if_neg (by decide), decide_eq_false (show ¬ (("facts" : Str) = "rules") by decide), decide_eq_true rfl, decide_eq_false (by decide)]
    simp
  · rw [if_pos rfl, el, decide_eq_true rfl, decide_eq_false (by decide)]
    simp
section
variable {P : Program} {w : World} {K : PySem.W.Frag} {mg : Str → Option Value} {base : Heap} {f : Addr} {fd : FuncData} {k : Nat}
def spLawDue (K : PySem.W.Frag) (C : Addr) : Sp := fun vs H Q _ => ∃ (r l1 l2 : Addr) (t : V) (z : Str) (L1 L2 : List Rl) (o : Option (List Rl × W)), vs = [.ref r, t, .str z] ∧ z ∈ addW ∧ SqL K H r [.ref l1, .ref l2] ∧ RL K H l1 L1 ∧ RL K H l2 L2 ∧ (∀ r ∈ L1, IsR r) ∧ (∀ r ∈ L2, IsR r) ∧ L1.length ≤ 10 ∧ L2.length ≤ 10 ∧
  (∀ z ∈ namesL L1, z ∈ fourW) ∧ (∀ z ∈ namesL L2, z ∈ fourW) ∧ ItV K C H t o ∧ ∀ H', Same H H' → Q (.bl (valI L1 L2 z o)) H'
theorem few_names {L : List Rl} (hI : ∀ r ∈ L, IsR r) (hb : ∀ z ∈ namesL L, z ∈ fourW) (hl : L.length ≤ 40) : (namesL L).length < 1000 := by
  have nl := namesL_lenB hI hb
  have nl2 : 4 * fourW.length * L.length ≤ 16 * 40 := Nat.mul_le_mul (by decide) hl
  omega
/-- a list of worlds: the answers of rules -/
def AnsV (K : PySem.W.Frag) (H : Hp) (x : V) (L : List Rl) : Prop := ∃ (p : Addr) (A : List W), x = .ref p ∧ WLs K H p A ∧ (∀ t ∈ A, IsW t) ∧ ∀ w, IsW w → decide (w ∈ A) = ansP L w
theorem wls_put {K : PySem.W.Frag} {H : Hp} {p D : Addr} {A : List W} {o : List V} (h : WLs K H p A) (n : p ≠ D) (m : Mut (H D)) : WLs K (upd H D (.lst o)) p A := by
  obtain ⟨ys, h1, h2⟩ := h
  exact ⟨ys, by rw [upd_ne n]; exact h1, (Stay.put m _).dpAll _ _ (okDs_wds _) h2⟩
theorem AnsV.put {K : PySem.W.Frag} {H : Hp} {x D : Addr} {L : List Rl} {o : List V} (h : AnsV K H (.ref x) L) (n : x ≠ D) (m : Mut (H D)) : AnsV K (upd H D (.lst o)) (.ref x) L := by
  obtain ⟨p, A, e, h2, h3⟩ := h
  cases e
  exact ⟨x, A, rfl, wls_put h2 n m, h3⟩
theorem AnsV.same {K : PySem.W.Frag} {H H' : Hp} {x : V} {L : List Rl} (h : AnsV K H x L) (e : Same H H') : AnsV K H' x L := by
  obtain ⟨p, A, h1, h2, h3⟩ := h
  exact ⟨p, A, h1, h2.same e, h3⟩
theorem rl_app {K : PySem.W.Frag} {H : Hp} {l1 l2 : Addr} {L1 L2 : List Rl} {Q : VK} (h1 : RL K H l1 L1) (h2 : RL K H l2 L2) (hl : L1.length + L2.length ≤ 1000) (q : ∀ H' p, Same H H' → RL K H' p (L1 ++ L2) → Q (.ref p) H') : rCat (.ref l1) (.ref l2) H Q := by
  obtain ⟨xs, a1, a2⟩ := h1
  obtain ⟨ys, b1, b2⟩ := h2
  have x1 := dpAll_len a2
  have x2 := dpAll_len b2
  rw [List.length_map] at x1 x2
  refine ⟨l1, l2, xs, ys, rfl, rfl, a1, b1, small_line (by omega), fun p hp => ?_⟩
  have s := same_new hp (.lst (xs ++ ys))
  refine q _ p s ⟨_, upd_same, ?_⟩
  rw [List.map_append]
  exact dps_app12 (dpAll_same s _ _ b2) (dpAll_same s _ _ a2)
/-- the test of what may be added, as the law puts it -/
theorem due_cond {σ : L2.St} {H : Hp} {z : Str} {lp : Addr} {SP : List Rl} {Q : Bool → Hp → Prop} (h2 : σ[2]? = some (some (.str z))) (h3 : σ[3]? = some (some (.ref lp))) (hl : σ.length = 8) (hz : z ∈ addW) (hR : RL K H lp SP) (hI : ∀ r ∈ SP, IsR r) (few : SP.length ≤ 40) (q : ∀ H', Same H H' → Q (!mayB z SP) H') :
    tOr (tAnd (tTest (tOp rEq (tVar 2) (tC (.str "facts")))) (tTest (tOp (rNeE K) (tLc (iList K (tVar 3)) (gName 6) (tNot (tTest (tCall (spLawIsFact K) [] E0 (tCons (tVar 6) tNil)))) (tVar 6) [6]) (tLst tNil)))) (tAnd (tTest (tOp rEq (tVar 2) (tC (.str "nothing")))) (tTest (tOp (rNeE K) (tVar 3) (tLst tNil)))) σ H Q := by
  obtain ⟨ys, hl0, hys⟩ := id hR
  have yl : ys.length = SP.length := by rw [dpAll_len hys, List.length_map]
  rw [mayB_of hz, Bool.not_not] at q
  have second : ∀ H', Same H H' → (decide (z = "facts") && !(SP.filter fun r => !factB r).isEmpty) = false → tAnd (tTest (tOp rEq (tVar 2) (tC (.str "nothing")))) (tTest (tOp (rNeE K) (tVar 3) (tLst tNil))) σ H' Q := fun H' s e0 => by
    rw [e0] at q
    refine ⟨.str z, h2, rfl, decide (z = "nothing"), congrArg V.bl (decV _ _), ?_⟩
    by_cases c : z = "nothing"
    · rw [decide_eq_true c] at q ⊢
      refine iteT ⟨.ref lp, h3, by show 0 ≤ sizeLine; decide, fun e he => ?_⟩
      have s2 := same_new he (.lst [])
      refine ⟨lp, e, ys, rfl, rfl, SqL.of (s2 _ _ (s _ _ hl0)), SqL.of upd_same, _, rfl, ?_⟩
      have ey : ys.isEmpty = SP.isEmpty := by
        cases ys <;> cases SP <;> simp_all
      rw [ey]
      have := q _ (s.trans s2)
      rw [Bool.false_or, Bool.true_and] at this
      exact this
    · rw [decide_eq_false c] at q ⊢
      refine iteF ?_
      have := q _ s
      rw [Bool.false_or, Bool.false_and] at this
      exact this
  refine ⟨.str z, h2, rfl, decide (z = "facts"), congrArg V.bl (decV _ _), ?_⟩
  by_cases c : z = "facts"
  · rw [decide_eq_true c, Bool.true_and] at second
    rw [decide_eq_true c, Bool.true_and] at q
    rw [decide_eq_true c]
    refine iteT ⟨.ref lp, h3, lp, rfl, ⟨_, SqL.of hl0⟩, fun D hD => ?_⟩
    let bad : List Rl → List Rl := fun l => l.filter fun r => !factB r
    refine lc_list (xs := ys) (fun i H1 => Same H H1 ∧ ∃ zs, H1 D = some (.lst zs) ∧ zs.length = (bad (SP.take i)).length) ⟨same_new hD _, [], upd_same, rfl⟩ (fun i H1 _ hI => SqL.of (hI.1 _ _ hl0)) (fun i x H1 hx hI1 => ?_) (fun H1 hI1 => ?_)
    · obtain ⟨sm, zs, hd, hz2⟩ := hI1
      obtain ⟨dd, hdd, hxd⟩ := dpAll_at' hys hx
      obtain ⟨r, hr0, rfl⟩ := map_at hdd
      have il : i < SP.length := (List.getElem?_eq_some_iff.mp hr0).1
      have w6 : ((wipe σ [6]).set 6 (some x))[6]? = some (some x) := by
        show ((σ.set 6 none).set 6 (some x))[6]? = _
        rw [List.set_set, List.getElem?_set_self (by omega)]
      have ww : wipe ((wipe σ [6]).set 6 (some x)) [6] = wipe σ [6] := by
        show ((σ.set 6 none).set 6 (some x)).set 6 none = σ.set 6 none
        rw [List.set_set, List.set_set]
      refine ⟨ww, x, w6, x, r, rfl, dp_same sm _ _ hxd, hI r (List.mem_of_getElem? hr0), fun H2 s2 => ⟨factB r, rfl, ?_⟩⟩
      have eb : bad (SP.take (i + 1)) = bad (SP.take i) ++ (if (!factB r) = true then [r] else []) := filt_take hr0
      have bl : (bad (SP.take i)).length ≤ i := by
        have := List.length_filter_le (fun r => !factB r) (SP.take i)
        rw [List.length_take] at this
        show ((SP.take i).filter _).length ≤ i
        omega
      show if (!factB r) = true then _ else _
      cases e : factB r with
      | true =>
        rw [e] at eb
        exact iteF ⟨sm.trans s2, zs, s2 _ _ hd, by rw [hz2, eb]; simp⟩
      | false =>
        rw [e] at eb
        refine iteT ⟨x, w6, zs, s2 _ _ hd, small_line' (by omega), same_put (sm.trans s2) hD, zs ++ [x], upd_same, ?_⟩
        rw [eb, List.length_append, List.length_append, hz2]
        rfl
    · obtain ⟨sm, zs, hd, hz2⟩ := hI1
      rw [yl, List.take_length] at hz2
      refine ⟨by show 0 ≤ sizeLine; decide, fun e he => ?_⟩
      have s2 := same_new he (.lst [])
      refine ⟨D, e, zs, rfl, rfl, SqL.of (s2 _ _ hd), SqL.of upd_same, _, rfl, ?_⟩
      have ez : zs.isEmpty = (bad SP).isEmpty := by
        rw [Bool.eq_iff_iff, List.isEmpty_iff_length_eq_zero, List.isEmpty_iff_length_eq_zero, hz2]
      rw [ez]
      cases e4 : (bad SP).isEmpty with
      | true => exact iteF (second _ (sm.trans s2) (by show (!(bad SP).isEmpty) = false; rw [e4]; rfl))
      | false =>
        have := q _ (sm.trans s2)
        rw [show (!(SP.filter fun r => !factB r).isEmpty) = true by show (!(bad SP).isEmpty) = true; rw [e4]; rfl, Bool.true_or] at this
        exact iteT this
  · rw [decide_eq_false c, Bool.false_and] at second
    rw [decide_eq_false c]
    exact iteF (iteF (second H (fun _ _ e => e) rfl))
theorem ok_lawDue {C pR fR f1 f2 f3 f4 : Addr} {fdR fd1 fd2 fd3 fd4 : FuncData} (F : Fun K "_law_due" "_law_due" sLawDue f fd) (T : Bl mg) (mC : mg "Program" = some (.ref C)) (G : PgC K mg C) (c : Cls K C)
    (hpR : PropOf K C "rules" pR fR) (GR : FnOk P w K mg base CX0 (k + 1) fR fdR ["self"] (spRules K C)) (bR : Binds K fdR ["self"] [])
    (G1 : FnOk P w K mg base CX0 (k + 2) f1 fd1 ["item"] (spLawIsWorld K)) (b1 : Binds K fd1 ["item"] []) (k1 : PySem.W.keepIn K (.ref f1) = true) (m1 : mg "_law_is_world" = some (.ref f1))
    (G2 : FnOk P w K mg base CX0 (k + 2) f2 fd2 ["rows"] (spLawNames K)) (b2 : Binds K fd2 ["rows"] []) (k2 : PySem.W.keepIn K (.ref f2) = true) (m2 : mg "_law_names" = some (.ref f2))
    (G3 : FnOk P w K mg base CX0 (k + 2) f3 fd3 ["row"] (spLawIsFact K)) (b3 : Binds K fd3 ["row"] []) (k3 : PySem.W.keepIn K (.ref f3) = true) (m3 : mg "_law_is_fact" = some (.ref f3))
    (G4 : FnOk P w K mg base CX0 (k + 2) f4 fd4 ["rows"] (spLawAnswers K)) (b4 : Binds K fd4 ["rows"] []) (k4 : PySem.W.keepIn K (.ref f4) = true) (m4 : mg "_law_answers" = some (.ref f4)) :
    FnOk P w K mg base CX0 (k + 3) f fd ["rows", "item", "added"] (spLawDue K C) := by
  refine F.ok scLawDue (fun vs H Q E h => ?_) (fun cdv A outer s H vs Q E hr h => ?_)
  · obtain ⟨r, l1, l2, t, z, L1, L2, o, rfl, _⟩ := h
    rfl
  obtain ⟨r, l1, l2, t, z, L1, L2, o, rfl, hz, hr1, hL1, hL2, hI1, hI2, n1, n2, hb1, hb2, hT, q⟩ := h
  refine ⟨_, (pss_cons (ps_if (PW.pt (pw_or (pt_not (pt_val (pe_callB call_isi (by rfl) T.isi PyProof.Rows.boot_isinstance (pa_cons (pv 1) (pa_cons (pe_bltn (v := .ty "tuple") (by rfl) T.tuple (by decide +kernel) rfl) pa_nil))))) (pw_or (pt_cmpR  op_ne (pe_callB call_len_seq (by rfl) T.len PySem.boot_len (pa_cons (pv 1) pa_nil)) pe_int (nomark _)) (pw_or1 (pt_not (pt_val (pe_callB call_isi (by rfl) T.isi PyProof.Rows.boot_isinstance (pa_cons (pe_ix ix_tup (pv 1) pe_int (fun _ _ => rfl)) (pa_cons (pe_glob (v := .ref C) (by rfl) mC rfl) pa_nil))))))))) (pss_one (ps_ret pe_bl)) pss_nil) (pss_cons (ps_if (pt_not (pt_val (pe_call G1 hr (by rfl) m1 k1 b1 .nil pass0 (pa_cons (pe_ix ix_tup (pv 1) pe_int (fun _ _ => rfl)) pa_nil)))) (pss_one (ps_ret pe_bl)) pss_nil) (pss_cons (ps_set (i := 3) scLawDue.nd rfl (.inr rfl) (pe_callTy (T := "list") (r := rListOf K) call_list_of (by rfl) T.list (by decide +kernel) (pa_cons (pe_prop (pe_ix ix_tup (pv 1) pe_int (fun _ _ => rfl)) c hpR GR hr bR .nil pass0 rfl) pa_nil))) (pss_cons (ps_if (pt_cmpR (r := rNeE K) (op_neE hr.units) (pe_lc (own := [("x", 5)]) (g := gName 5) (tt := tTest (tOp (rIn K true) (tVar 5) (tCall (spLawNames K) [] E0 (tCons (tOp rCat (tOp (rIxL K) (tVar 0) (tC (.int 0))) (tOp (rIxL K) (tVar 0) (tC (.int 1)))) tNil)))) (te := tVar 5) (by rfl) scLawDue.nd (pi_tup (pe_call G2 hr (by rfl) m2 k2 b2 .nil pass0 (pa_cons (pv 3) pa_nil))) (blkOk_by (N := nLawDue) (sc := defScope sLawDue) (by decide +kernel)) (fun _ _ _ _ _ => (pg_name (i := 5) scLawDue.nd rfl (Or.inl rfl))) (fun _ _ _ _ _ => pts_one (pt_cmpR (r := rIn K true) op_notIn_seq (pv 5) (pe_call G2 hr (by rfl) m2 k2 b2 .nil pass0 (pa_cons (pe_op (r := rCat) op_cat (pe_ix (r := rIxL K) ix_list (pv 0) pe_int (fun _ _ => rfl)) (pe_ix (r := rIxL K) ix_list (pv 0) pe_int (fun _ _ => rfl))) pa_nil)) (by rfl))) (fun _ _ _ _ _ => pv 5)) (pe_lst pa_nil) (nomark _)) (pss_one (ps_ret pe_bl)) pss_nil) (pss_cons (ps_if (PW.pt (pw_or (PW.pt (pw_and (pt_cmpR  op_eq (pv 2) pe_str (nomark _)) (pw_and1 (pt_cmpR (r := rNeE K) (op_neE hr.units) (pe_lc (own := [("row", 6)]) (g := gName 6) (tt := tNot (tTest (tCall (spLawIsFact K) [] E0 (tCons (tVar 6) tNil)))) (te := tVar 6) (by rfl) scLawDue.nd (pi_list (pv 3)) (blkOk_by (N := nLawDue) (sc := defScope sLawDue) (by decide +kernel)) (fun _ _ _ _ _ => (pg_name (i := 6) scLawDue.nd rfl (Or.inl rfl))) (fun _ _ _ _ _ => pts_one (pt_not (pt_val (pe_call G3 hr (by rfl) m3 k3 b3 .nil pass0 (pa_cons (pv 6) pa_nil))))) (fun _ _ _ _ _ => pv 6)) (pe_lst pa_nil) (nomark _))))) (pw_or1 (PW.pt (pw_and (pt_cmpR  op_eq (pv 2) pe_str (nomark _)) (pw_and1 (pt_cmpR (r := rNeE K) (op_neE hr.units) (pv 3) (pe_lst pa_nil) (nomark _)))))))) (pss_one (ps_ret pe_bl)) pss_nil) (pss_cons (ps_setLc (i := 4) (own := [("k", 7)]) (g := gName 7) (te := tCall (spLawAnswers K) [] E0 (tCons (tOp rCat (tOp (rIxL K) (tVar 0) (tVar 7)) (tVar 3)) tNil)) (by rfl) scLawDue.nd rfl rfl (sw_true rfl rfl rfl (by decide +kernel)) (pi_range1 rfl T.range (pa_cons pe_int pa_nil)) (blkOk_by (N := nLawDue) (sc := defScope sLawDue) (by decide +kernel)) (fun _ _ _ _ _ => (pg_name (i := 7) scLawDue.nd rfl (Or.inl rfl))) (fun _ _ _ _ _ => pts_nil) (fun _ _ _ _ _ => (pe_call G4 hr (by rfl) m4 k4 b4 .nil pass0 (pa_cons (pe_op (r := rCat) op_cat (pe_ix (r := rIxL K) ix_list (pv 0) (pv 7) (fun _ _ => rfl)) (pv 3)) pa_nil)))) (pss_one (ps_ret (pe_cmpR  op_ne (pe_cmpR  (op_inD (room65 hr)) (pe_ix ix_tup (pv 1) pe_int (fun _ _ => rfl)) (pe_ix ix_list (pv 4) pe_int (fun _ _ => rfl)) (by rfl)) (pe_cmpR  (op_inD (room65 hr)) (pe_ix ix_tup (pv 1) pe_int (fun _ _ => rfl)) (pe_ix ix_list (pv 4) pe_int (fun _ _ => rfl)) (by rfl)) (nomark _)))))))))), ?_⟩
  have refl : Same H H := fun _ _ e => e
  cases o with
  | none =>
    rcases hT with ⟨ty, t1, t2⟩ | ⟨a, xs, rfl, hS, hl⟩ | ⟨a, x0, x1, rfl, hS, hT⟩
    · exact ⟨t, rfl, t, .ty "tuple", ty, .type "tuple", false, rfl, .ty "tuple", t1, t2, false, rfl, iteT (q H refl)⟩
    · refine ⟨.ref a, rfl, .ref a, .ty "tuple", .type "tuple", .type "tuple", true, rfl, .ty "tuple", tyx_tup hS, kit_ty (by decide +kernel), true, rfl, iteF ⟨.ref a, rfl, a, xs, rfl, .inr hS, rfl, true, congrArg V.bl ?_, iteT (q H refl)⟩⟩
      rw [decide_eq_false fun e => hl (by injection e with e; omega)]
      rfl
    refine ⟨.ref a, rfl, .ref a, .ty "tuple", .type "tuple", .type "tuple", true, rfl, .ty "tuple", tyx_tup hS, kit_ty (by decide +kernel), true, rfl, iteF ⟨.ref a, rfl, a, [x0, x1], rfl, .inr hS, rfl, false, rfl, iteF ?_⟩⟩
    rcases hT with ⟨ty, t1, t2⟩ | ⟨SP, hP, hIP, few, hbP, hW, hLw⟩
    · exact ⟨.ref a, rfl, a, _, 0, x0, rfl, rfl, hS, rfl, x0, .ref C, ty, .ref C, false, rfl, .own C, t1, t2, false, rfl, iteT (q H refl)⟩
    obtain ⟨p, dxp, tp, ysp, rfl, g1, g2, g3⟩ := id hP
    refine ⟨.ref a, rfl, a, _, 0, .ref p, rfl, rfl, hS, rfl, .ref p, .ref C, .ref C, .ref C, true, rfl, .own C, ty_ins G g1, G.yes, true, rfl, iteF ?_⟩
    exact ⟨.ref a, rfl, a, _, 1, x1, rfl, rfl, hS, rfl, x1, false, rfl, hLw, fun H1 s1 => ⟨false, rfl, iteT (q H1 s1)⟩⟩
  | some pr =>
  obtain ⟨SP, ws⟩ := pr
  obtain ⟨a, x0, x1, rfl, hS, hP, hIP, few, hbP, hw, hf, hd⟩ := hT
  obtain ⟨p, dxp, tp, ysp, rfl, g1, g2, g3⟩ := id hP
  refine ⟨.ref a, rfl, .ref a, .ty "tuple", .type "tuple", .type "tuple", true, rfl, .ty "tuple", tyx_tup hS, kit_ty (by decide +kernel), true, rfl, iteF ⟨.ref a, rfl, a, [.ref p, x1], rfl, .inr hS, rfl, false, rfl, iteF ?_⟩⟩
  refine ⟨.ref a, rfl, a, _, 0, .ref p, rfl, rfl, hS, rfl, .ref p, .ref C, .ref C, .ref C, true, rfl, .own C, ty_ins G g1, G.yes, true, rfl, iteF ?_⟩
  refine ⟨.ref a, rfl, a, _, 1, x1, rfl, rfl, hS, rfl, x1, true, rfl, lwv_world hw hf hd, fun H1 s1 => ⟨true, rfl, iteF ?_⟩⟩
  -- the rules
  refine ⟨.ref a, rfl, a, _, 0, .ref p, rfl, rfl, same_tup s1 hS, rfl, p, dxp, _, rfl, s1 _ _ g1, .ref p, SP, rfl, hP.same s1, fun t2 ys2 ht2 hys2 => ?_⟩
  refine ⟨t2, ys2, rfl, .inr ht2, fun lp hlp => ?_⟩
  have s2 := same_new hlp (.lst ys2)
  have s12 := s1.trans s2
  have hRP : RL K (upd H1 lp (.lst ys2)) lp SP := ⟨ys2, upd_same, dpAll_same s2 _ _ hys2⟩
  generalize upd H1 lp (.lst ys2) = H2 at s2 s12 hRP ⊢
  have few40 : SP.length ≤ 40 := by omega
  have hr2 := hr1
  -- the names
  refine ⟨.ref lp, rfl, lp, SP, rfl, hRP, hIP, few40, few_names hIP hbP few40, fun H3 tn zs s3 htn hup hmem => ⟨tn, rfl, ⟨_, htn⟩, fun D hD => ?_⟩⟩
  have s13 := s12.trans s3
  have hI12 : ∀ r ∈ L1 ++ L2, IsR r := fun r hr => (List.mem_append.mp hr).elim (hI1 r) (hI2 r)
  have hb12 : ∀ z ∈ namesL (L1 ++ L2), z ∈ fourW := fun z hz => ((namesL_app L1 L2 z).mp hz).elim (hb1 z) (hb2 z)
  have isW_nm : ∀ {L : List Rl} {zs : W}, (∀ r ∈ L, IsR r) → (∀ z ∈ namesL L, z ∈ fourW) → UpX zs → (∀ z, z ∈ zs ↔ z ∈ namesL L) → IsW zs := fun {L zs} hI hb hu hm => ⟨fun x hx => four_name x (hb x ((hm x).mp hx)), hu, by
    have := len_le (upX_nodup hu) (m := fourW) fun z hz => hb z ((hm z).mp hz)
    have e : fourW.length = 4 := rfl
    omega⟩
  have hzs : IsW zs := isW_nm hIP hbP hup hmem
  have zl := hzs.few
  have eP : nmsW SP = zs := nmsW_of hzs hmem
  let O2 : W := nmsW (L1 ++ L2)
  refine lc_tup (xs := zs.map V.str) (fun i H4 => Same H3 H4 ∧ H4 D = some (.lst (((zs.take i).filter fun z => !decide (z ∈ O2)).map V.str))) ⟨same_new hD _, upd_same⟩ (fun i H4 _ h => same_tup h.1 htn) (fun i x H4 hx h => ?_) (fun H4 h => ?_)
  · obtain ⟨sm, hd4⟩ := h
    obtain ⟨z1, hz1, rfl⟩ := map_at hx
    have il : i < zs.length := (List.getElem?_eq_some_iff.mp hz1).1
    have s14 := s13.trans sm
    have hr4 : SqL K H4 r [.ref l1, .ref l2] := s14.seq hr1
    refine ⟨rfl, .str z1, rfl, .ref r, rfl, r, _, 0, .ref l1, rfl, rfl, hr4, rfl, .ref r, rfl, r, _, 1, .ref l2, rfl, rfl, hr4, rfl, rl_app (hL1.same s14) (hL2.same s14) (by omega) fun H5 p5 s5 hR5 => ?_⟩
    refine ⟨p5, L1 ++ L2, rfl, hR5, hI12, by rw [List.length_append]; omega, few_names hI12 hb12 (by rw [List.length_append]; omega), fun H6 t6 zs6 s6 ht6 up6 m6 => ?_⟩
    have e6 : O2 = zs6 := nmsW_of (isW_nm hI12 hb12 up6 m6) m6
    have s56 := s5.trans s6
    refine ⟨t6, zs6.map V.str, rfl, .inr ht6, rfl, flat_strs _, _, rfl, ?_⟩
    have ev : (if true = true then !inV (.str z1) (zs6.map V.str) else inV (.str z1) (zs6.map V.str)) = !decide (z1 ∈ O2) := by
      rw [inV_str, e6]
      rfl
    rw [ev]
    have ft : ((zs.take (i + 1)).filter fun z => !decide (z ∈ O2)) = ((zs.take i).filter fun z => !decide (z ∈ O2)) ++ (if (!decide (z1 ∈ O2)) = true then [z1] else []) := filt_take hz1
    refine ite2 (fun e => ?_) (fun e => ?_)
    · refine ⟨.str z1, rfl, _, s56 _ _ hd4, small_line' ?_, same_put (sm.trans s56) hD, ?_⟩
      · rw [List.length_map]
        have := List.length_filter_le (fun z => !decide (z ∈ O2)) (zs.take i)
        rw [List.length_take] at this
        omega
      · rw [upd_same, ft, if_pos e, List.map_append]
        rfl
    · refine ⟨sm.trans s56, ?_⟩
      rw [ft, if_neg e, List.append_nil]
      exact s56 _ _ hd4
  obtain ⟨sm, hd4⟩ := h
  rw [List.length_map, List.take_length] at hd4
  refine ⟨by show 0 ≤ sizeLine; decide, fun e he => ?_⟩
  have s5 := same_new he (.lst [])
  refine ⟨D, e, _, rfl, rfl, SqL.of (s5 _ _ hd4), SqL.of upd_same, _, rfl, ?_⟩
  have s15 := s13.trans (sm.trans s5)
  have s25 := s3.trans (sm.trans s5)
  rw [List.isEmpty_map, minus_empty]
  have es : sub (nmsW SP) (nmsW (L1 ++ L2)) = sub zs O2 := by rw [eP]
  have vq : ∀ b, valI L1 L2 z (some (SP, ws)) = b → ∀ H', Same H H' → Q (.bl b) H' := fun b e H' s => by rw [← e]; exact q H' s
  have ev : valI L1 L2 z (some (SP, ws)) = (mayB z SP && (sub zs O2 && (ansP (L1 ++ SP) ws != ansP (L2 ++ SP) ws))) := by
    rw [← es]
    rfl
  generalize upd H4 e (.lst []) = H5 at s5 s15 s25 ⊢
  cases c1 : sub zs O2 with
  | false => exact iteT (vq false (by rw [ev, c1, Bool.false_and, Bool.and_false]) _ s15)
  | true =>
  refine iteF ?_
  refine due_cond rfl rfl rfl hz (hRP.same s25) hIP few40 fun H6 s6 => ?_
  have s16 := s15.trans s6
  cases c2 : mayB z SP with
  | false => exact iteT (vq false (by rw [ev, c2, Bool.false_and]) _ s16)
  | true =>
  refine iteF ?_
  have ev2 : valI L1 L2 z (some (SP, ws)) = (ansP (L1 ++ SP) ws != ansP (L2 ++ SP) ws) := by
    rw [ev, c1, c2, Bool.true_and, Bool.true_and]
  have ans : ∀ {L : List Rl} {lk : Addr} {H7 : Hp} {Q2 : VK}, Same H2 H7 → L.length ≤ 10 → (∀ r ∈ L, IsR r) → (∀ z ∈ namesL L, z ∈ fourW) → RL K H7 lk L → (∀ H' x, Same H7 H' → H7 x = none → AnsV K H' (.ref x) (L ++ SP) → Q2 (.ref x) H') → rCat (.ref lk) (.ref lp) H7 (fun x H1 => spLawAnswers K [x] H1 Q2 E0) := fun {L lk H7 Q2} s7 hl hI hb hL q2 => by
    have hIL : ∀ r ∈ L ++ SP, IsR r := fun r hr => (List.mem_append.mp hr).elim (hI r) (hIP r)
    have hbL : ∀ z ∈ namesL (L ++ SP), z ∈ fourW := fun z hz => ((namesL_app L SP z).mp hz).elim (hb z) (hbP z)
    refine rl_app hL (hRP.same s7) (by omega) fun H8 p8 s8 hR8 => ?_
    refine ⟨p8, L ++ SP, fourW, rfl, hR8, hIL, by rw [List.length_append]; omega, hbL, by decide, fun H9 pA own R s9 hpA hown hm hW ris perm => ?_⟩
    have eA : ansL R = (everyW own).filter (fdB (L ++ SP) own) := ans_same hown (nin_of hm) (fun _ => Iff.rfl) ris perm
    rw [eA] at hW
    exact q2 H9 _ (s8.trans s9) (none_back s8 hpA) ⟨pA, _, rfl, hW, told_isW hown, fun w hw => in_ans hown hm hw⟩
  refine ⟨2, rfl, by decide, by decide, fun DB hDB => ?_⟩
  have nDB : H2 DB = none := none_back (s25.trans s6) hDB
  refine lc_range (fun i H7 => Same H6 H7 ∧ ∃ zs, H7 DB = some (.lst zs) ∧ (i = 0 → zs = []) ∧ (i = 1 → ∃ x, zs = [.ref x] ∧ x ≠ DB ∧ AnsV K H7 (.ref x) (L1 ++ SP)) ∧ (i = 2 → ∃ x y, zs = [x, y] ∧ AnsV K H7 x (L1 ++ SP) ∧ AnsV K H7 y (L2 ++ SP))) ⟨same_new hDB _, [], upd_same, fun _ => rfl, fun z => absurd z (by decide), fun z => absurd z (by decide)⟩ (fun i H7 il hI7 => ?_) (fun H7 hI7 => ?_)
  · obtain ⟨sm7, zs7, hd7, z0, z1, z2⟩ := hI7
    have s17 := s16.trans sm7
    have s27 := (s25.trans s6).trans sm7
    have hr7 : SqL K H7 r [.ref l1, .ref l2] := s17.seq hr1
    have i01 : i = 0 ∨ i = 1 := by
      have : i < 2 := il
      omega
    have ne : ∀ {x : Addr}, H7 x = none → x ≠ DB := fun n e => by
      rw [e, hd7] at n
      cases n
    rcases i01 with rfl | rfl
    · refine ⟨rfl, .ref r, rfl, .int 0, rfl, r, _, 0, .ref l1, rfl, rfl, hr7, rfl, .ref lp, rfl, ?_⟩
      dsimp only [tNil]
      refine ans s27 n1 hI1 hb1 (hL1.same s17) fun H8 x s8 nx hx => ?_
      have e0 := z0 rfl
      subst e0
      have md : Mut (H8 DB) := by
        rw [s8 _ _ hd7]
        exact True.intro
      exact ⟨[], s8 _ _ hd7, by decide, same_put (sm7.trans s8) hDB, [.ref x], upd_same, fun z => absurd z (by decide), fun _ => ⟨x, rfl, ne nx, hx.put (ne nx) md⟩, fun z => absurd z (by decide)⟩
    · refine ⟨rfl, .ref r, rfl, .int 1, rfl, r, _, 1, .ref l2, rfl, rfl, hr7, rfl, .ref lp, rfl, ?_⟩
      dsimp only [tNil]
      refine ans s27 n2 hI2 hb2 (hL2.same s17) fun H8 y s8 ny hy => ?_
      obtain ⟨x, rfl, nx, hx⟩ := z1 rfl
      have md : Mut (H8 DB) := by
        rw [s8 _ _ hd7]
        exact True.intro
      exact ⟨[.ref x], s8 _ _ hd7, small_line' (by show 1 ≤ 10000; decide), same_put (sm7.trans s8) hDB, [.ref x, .ref y], upd_same, fun z => absurd z (by decide), fun z => absurd z (by decide), fun _ => ⟨_, _, rfl, (hx.same s8).put nx md, hy.put (ne ny) md⟩⟩
  obtain ⟨sm7, zs7, hd7, _, _, z2⟩ := hI7
  obtain ⟨x, y, rfl, ⟨pX, AX, rfl, hWX, hAX, eX⟩, ⟨pY, AY, rfl, hWY, hAY, eY⟩⟩ := z2 rfl
  have s17 := s16.trans sm7
  have hS7 := same_tup s17 hS
  have hd17 := dp_same s17 _ _ hd
  refine ⟨.ref a, rfl, a, _, 1, x1, rfl, rfl, hS7, rfl, .ref DB, rfl, DB, _, 0, .ref pX, rfl, rfl, SqL.of hd7, rfl, in_wds hd17 hWX hw hAX ?_⟩
  refine ⟨.ref a, rfl, a, _, 1, x1, rfl, rfl, hS7, rfl, .ref DB, rfl, DB, _, 1, .ref pY, rfl, rfl, SqL.of hd7, rfl, in_wds hd17 hWY hw hAY ?_⟩
  rw [eX ws hw, eY ws hw]
  refine ⟨rfl, ?_⟩
  have z9 := vq _ ev2 _ s17
  have : (!decide (V.bl (ansP (L1 ++ SP) ws) = V.bl (ansP (L2 ++ SP) ws))) = (ansP (L1 ++ SP) ws != ansP (L2 ++ SP) ws) := by
    cases ansP (L1 ++ SP) ws <;> cases ansP (L2 ++ SP) ws <;> rfl
  rw [this]
  exact z9
end
end Rw
namespace Rw
open PySem PySem.Spec PyProof.Rows L2
/-! ### _law_asked -/
structure ErrA (K : PySem.W.Frag) (mg : Str → Option Value) (CP CK CE : Addr) : Prop where
  mP : mg "NotAProgram" = some (.ref CP)
  mK : mg "InvalidKind" = some (.ref CK)
  mE : mg "RuleError" = some (.ref CE)
  eP : PySem.W.exmOne K (.ref CP) (.ref CE) = some true
  eK : PySem.W.exmOne K (.ref CK) (.ref CE) = some true
  cP : ExcC K CP
  cK : ExcC K CK
  nP : PySem.W.findIn K (.ref CP) "thing" = some none
  nK : PySem.W.findIn K (.ref CK) "value" = some none
  iPP : PySem.W.kitOne K (.ref CP) (.ref CP) = some true
  iKP : PySem.W.kitOne K (.ref CK) (.ref CP) = some false
  iKK : PySem.W.kitOne K (.ref CK) (.ref CK) = some true
  i0P : PySem.W.kitOne K (.type "NoneType") (.ref CP) = some false
  i0K : PySem.W.kitOne K (.type "NoneType") (.ref CK) = some false
theorem xfA {K : PySem.W.Frag} {C : Addr} (h : ExcC K C) : XfC K C := ⟨h.hg, h.hk, h.hs, h.hd⟩
theorem scLawAsked : FnScope ["way", "lhs", "two", "added", "error", "told", "caught"] ["way", "lhs", "two", "added"] (defScope sLawAsked) := ⟨rfl, rfl, rfl, by decide +kernel, rfl, by decide +kernel, by decide +kernel⟩
/-- a list [a word, a thing] is handed back -/
def TL (Q : VK) (s : Str) (x : V) (H : Hp) : Prop := ∀ H2 l, Same H H2 → H2 l = some (.lst [.str s, x]) → Q (.ref l) H2
theorem TL.same {Q : VK} {H : Hp} {s : Str} {x : V} {H' : Hp} (h : TL Q s x H) (e : Same H H') : TL Q s x H' := fun H2 l a1 a2 => h H2 l (e.trans a1) a2
section
variable {P : Program} {w : World} {K : PySem.W.Frag} {mg : Str → Option Value} {base : Heap} {f : Addr} {fd : FuncData} {k : Nat}
def spLawAsked (K : PySem.W.Frag) (C : Addr) : Sp := fun vs H Q _ => ∃ (way : Int) (x y v : V), vs = [.int way, x, y, v] ∧
  (((way = 0 ∨ way = 1) ∧ (((∃ d, Dp K H x d) ∧ TL Q "program" x H) ∨ ((∃ S, PgAt K C H x S) ∧ (((∃ d, Dp K H y d) ∧ TL Q "program" y H) ∨ ((∃ S, PgAt K C H y S) ∧ NoWord K H v ∧ TL Q "kind" v H))))) ∨
   (way = 0 ∧ PgAt K C H x [] ∧ PgAt K C H y [] ∧ v = .str "nothing" ∧ TL Q "ok" (.bl true) H))
theorem ok_lawAsked {C CP CK CE f1 f2 : Addr} {fd1 fd2 : FuncData} (F : Fun K "_law_asked" "_law_asked" sLawAsked f fd) (T : Bl mg) (E : ErrA K mg CP CK CE)
    (G1 : FnOk P w K mg base (L2.CX P w) k f1 fd1 ["one", "other", "added"] (spAlike K C CP CK)) (b1 : Binds K fd1 ["one", "other", "added"] []) (k1 : PySem.W.keepIn K (.ref f1) = true) (m1 : mg "alike" = some (.ref f1))
    (G2 : FnOk P w K mg base (L2.CX P w) k f2 fd2 ["one", "other", "thing", "added"] (spCheckPart K C CP CK)) (b2 : Binds K fd2 ["one", "other", "thing", "added"] []) (k2 : PySem.W.keepIn K (.ref f2) = true) (m2 : mg "check_parting" = some (.ref f2)) :
    FnOk P w K mg base CX0 (k + 1) f fd ["way", "lhs", "two", "added"] (spLawAsked K C) := by
  refine F.ok scLawAsked (fun vs H Q E h => ?_) (fun cdv A outer s H vs Q E' hr h => ?_)
  · obtain ⟨way, x, y, v, rfl, h⟩ := h
    rfl
  obtain ⟨way, x, y, v, rfl, h⟩ := h
  refine ⟨_, pss_cons (ps_set (i := 4) scLawAsked.nd rfl (.inl rfl) pe_non)
    (pss_cons (ps_set (i := 5) scLawAsked.nd rfl (.inl rfl) pe_non)
    (pss_mid (ps_try_keep (i := 6) (j := 4) rfl rfl scLawAsked.nd rfl rfl ⟨rfl, by decide, .inl E.mE⟩ rfl rfl rfl rfl (by decide) (by decide) (by rfl) (fun W pn xe tk po =>
        pss_one (ps_if (pt_cmpR op_eq (pv 0) pe_int (nomark _))
          (pss_one (ps_set (i := 5) scLawAsked.nd rfl (.inl rfl) (pe_callS G1 hr (by rfl) m1 k1 b1 (fun σ => passAt tk σ) (pa_cons (pv 1) (pa_cons (pv 2) (pa_cons (pv 3) pa_nil))))))
          (pss_one (ps_set (i := 5) scLawAsked.nd rfl (.inl rfl) (pe_callS G2 hr (by rfl) m2 k2 b2 (fun σ => passAt tk σ) (pa_cons (pv 1) (pa_cons (pv 2) (pa_cons pe_non (pa_cons (pv 3) pa_nil))))))))))
    (pss_cons (ps_if (pt_val (pe_callB call_isH (by rfl) T.isi PyProof.Rows.boot_isinstance (pa_cons (pv 4) (pa_cons (pe_glob (v := .ref CP) (by rfl) E.mP rfl) pa_nil)))) (pss_one (ps_ret (pe_lst (pa_cons pe_str (pa_cons (pe_fldH (xfA E.cP) E.nP (pv 4)) pa_nil))))) pss_nil)
    (pss_cons (ps_if (pt_val (pe_callB call_isH (by rfl) T.isi PyProof.Rows.boot_isinstance (pa_cons (pv 4) (pa_cons (pe_glob (v := .ref CK) (by rfl) E.mK rfl) pa_nil)))) (pss_one (ps_ret (pe_lst (pa_cons pe_str (pa_cons (pe_fldH (xfA E.cK) E.nK (pv 4)) pa_nil))))) pss_nil)
    (pss_one (ps_ret (pe_lst (pa_cons pe_str (pa_cons (pe_cmpR op_isN (pv 4) pe_non (nomark _)) pa_nil))))))))), ?_⟩
  let I : L2.St → Hp → Prop := fun σ H' => ∃ ev, σ = [some (.int way), some x, some y, some v, some ev, some .non, none] ∧ ((ev = .non ∧ TL Q "ok" (.bl true) H') ∨ ∃ (a dd D : Addr) (u : V) (n : Str), ev = .ref a ∧ H' a = some (ExH (.ref D) (some dd) a) ∧ H' dd = some (.xd [(n, u)]) ∧
    ((D = CP ∧ n = "thing" ∧ TL Q "program" u H') ∨ (D = CK ∧ n = "value" ∧ TL Q "kind" u H')))
  have no : ∀ {i j : Int}, i ≠ j → V.bl (decide (V.int i = V.int j)) = V.bl false := fun n => congrArg V.bl (decide_eq_false fun e => n (by injection e))
  have yes : ∀ {i : Int}, V.bl (decide (V.int i = V.int i)) = V.bl true := congrArg V.bl (decide_eq_true rfl)
  have bad : ∀ (D : Addr) (n : Str) (u : V), ((D = CP ∧ n = "thing" ∧ TL Q "program" u H) ∨ (D = CK ∧ n = "value" ∧ TL Q "kind" u H)) →
      Rai (fun cls d H' => PySem.W.exmOne K cls (.ref CE) = some true ∧ ∀ a, H' a = none → I [some (.int way), some x, some y, some v, some (.ref a), some .non, none] (upd H' a (ExH cls d a))) D n u H := fun D n u h2 H1 s1 dx hdx => by
    refine ⟨?_, fun a ha => ⟨.ref a, rfl, .inr ⟨a, dx, D, u, n, rfl, upd_same, (same_new ha _) _ _ upd_same, ?_⟩⟩⟩
    · rcases h2 with ⟨rfl, _⟩ | ⟨rfl, _⟩
      · exact E.eP
      · exact E.eK
    · have sa := s1.trans ((same_new hdx (.xd [(n, u)])).trans (same_new ha (ExH (.ref D) (some dx) a)))
      rcases h2 with ⟨h, i, q⟩ | ⟨h, i, q⟩
      · exact .inl ⟨h, i, q.same sa⟩
      · exact .inr ⟨h, i, q.same sa⟩
  refine ⟨I, ?_, fun σ' H' hI => ?_⟩
  · rcases h with ⟨hw, h⟩ | ⟨rfl, hx, hy, rfl, q⟩
    · have ask : AskR K C CP CK x y v H (fun cls d H' => PySem.W.exmOne K cls (.ref CE) = some true ∧ ∀ a, H' a = none → I [some (.int way), some x, some y, some v, some (.ref a), some .non, none] (upd H' a (ExH cls d a))) fun _ => False := by
        rcases h with ⟨hd, q⟩ | ⟨hS, h⟩
        · exact .inl ⟨hd, bad CP "thing" x (.inl ⟨rfl, rfl, q⟩)⟩
        refine .inr ⟨hS, ?_⟩
        rcases h with ⟨hd, q⟩ | ⟨hS2, hn, q⟩
        · exact .inl ⟨hd, bad CP "thing" y (.inl ⟨rfl, rfl, q⟩)⟩
        exact .inr ⟨hS2, .inl ⟨hn, bad CK "value" v (.inr ⟨rfl, rfl, q⟩)⟩⟩
      rcases hw with rfl | rfl
      · refine ⟨.int 0, rfl, rfl, true, yes, iteT ?_⟩
        refine ⟨x, rfl, y, rfl, v, rfl, ?_⟩
        dsimp only [tNil]
        exact ⟨x, y, v, rfl, .inl ask⟩
      · refine ⟨.int 1, rfl, rfl, false, no (by decide), iteF ?_⟩
        refine ⟨x, rfl, y, rfl, v, rfl, ?_⟩
        dsimp only [tNil]
        exact ⟨x, y, .non, v, rfl, .inl ask⟩
    · refine ⟨.int 0, rfl, rfl, true, yes, iteT ?_⟩
      refine ⟨x, rfl, y, rfl, .str "nothing", rfl, ?_⟩
      dsimp only [tNil]
      exact ⟨x, y, .str "nothing", rfl, .inr ⟨hx, hy, rfl, fun H1 s1 => ⟨.non, rfl, .inl ⟨rfl, q.same s1⟩⟩⟩⟩
  · obtain ⟨ev, rfl, ⟨rfl, q⟩ | ⟨a, dd, D, u, n, rfl, ha, hd, hs⟩⟩ := hI
    · refine ⟨.non, rfl, .non, .ref CP, .ref CP, rfl, fun v r => r, .inl ⟨rfl, false, E.i0P, false, rfl, iteF ?_⟩⟩
      refine ⟨.non, rfl, .non, .ref CK, .ref CK, rfl, fun v r => r, .inl ⟨rfl, false, E.i0K, false, rfl, iteF ?_⟩⟩
      refine ⟨.non, rfl, rfl, by show 2 ≤ sizeLine; decide, fun l2 hl => ?_⟩
      exact q _ l2 (same_new hl _) upd_same
    · have fld : ∀ n : Str, ([(n, u)] : List (Str × V)).lookup n = some u := fun n => by
        rw [List.lookup_cons, beq_self_eq_true]
      rcases hs with ⟨rfl, rfl, q⟩ | ⟨rfl, rfl, q⟩
      · refine ⟨.ref a, rfl, .ref a, .ref _, .ref _, rfl, fun v r => r, .inr ⟨a, _, dd, _, true, rfl, ha, hd, E.cP, E.iPP, true, rfl, iteT ?_⟩⟩
        refine ⟨.ref a, rfl, a, dd, _, u, rfl, ha, hd, fld _, by show 2 ≤ sizeLine; decide, fun l2 hl => ?_⟩
        exact q _ l2 (same_new hl _) upd_same
      · refine ⟨.ref a, rfl, .ref a, .ref _, .ref _, rfl, fun v r => r, .inr ⟨a, _, dd, _, false, rfl, ha, hd, E.cK, E.iKP, false, rfl, iteF ?_⟩⟩
        refine ⟨.ref a, rfl, .ref a, .ref _, .ref _, rfl, fun v r => r, .inr ⟨a, _, dd, _, true, rfl, ha, hd, E.cK, E.iKK, true, rfl, iteT ?_⟩⟩
        refine ⟨.ref a, rfl, a, dd, _, u, rfl, ha, hd, fld _, by show 2 ≤ sizeLine; decide, fun l2 hl => ?_⟩
        exact q _ l2 (same_new hl _) upd_same
end
end Rw
namespace Rw
open PySem PySem.Spec PyProof.Rows L2 ClX
/-! ### lists whose items are all of one sort -/
section
variable {σ : L2.St} {H0 : Hp} {R : Hp → V → Prop}
/-- an item told: whatever was laid before it stays -/
def Gv (σ : L2.St) (H0 : Hp) (R : Hp → V → Prop) (te : TE) : Prop := ∀ H, Same H0 H → ∀ Q : VK, (∀ H' x, Same H H' → R H' x → Q x H') → te σ H Q
def Gvs (σ : L2.St) (H0 : Hp) (R : Hp → V → Prop) (n : Nat) (ta : TA) : Prop := ∀ H, Same H0 H → ∀ Q : List V → Hp → Prop, (∀ H' xs, Same H H' → xs.length = n → (∀ x ∈ xs, R H' x) → Q xs H') → ta σ H Q
theorem gvs_nil : Gvs σ H0 R 0 tNil := fun H _ Q q => q H [] (fun _ _ e => e) rfl (fun _ z => nomatch z)
theorem gvs_cons {te : TE} {ta : TA} {n : Nat} (st : ∀ H H' x, Same H H' → R H x → R H' x) (h : Gv σ H0 R te) (t : Gvs σ H0 R n ta) : Gvs σ H0 R (n + 1) (tCons te ta) := fun H s Q q => by
  refine h H s _ fun H1 x s1 hx => ?_
  refine t H1 (s.trans s1) _ fun H2 xs s2 hl hxs => ?_
  refine q H2 (x :: xs) (s1.trans s2) (by rw [List.length_cons, hl]) fun y hy => ?_
  rcases List.mem_cons.mp hy with rfl | hy
  · exact st _ _ _ s2 hx
  · exact hxs y hy
theorem lst_all {ta : TA} {n : Nat} {H : Hp} {Q : VK} (st : ∀ H H' x, Same H H' → R H x → R H' x) (h : Gvs σ H0 R n ta) (s : Same H0 H) (hn : n ≤ 10000) (q : ∀ H' l xs, Same H H' → H l = none → H' l = some (.lst xs) → xs.length = n → (∀ x ∈ xs, R H' x) → Q (.ref l) H') : tLst ta σ H Q := by
  refine h H s _ fun H1 xs s1 hl hxs => ⟨small_line (by omega), fun l hl0 => ?_⟩
  have s2 := same_new hl0 (.lst xs)
  exact q _ l xs (s1.trans s2) (none_back s1 hl0) upd_same hl fun x hx => st _ _ _ s2 (hxs x hx)
end
/-! ### _law_thing -/
abbrev nLawThing : List Str := ["purse", "lhs", "two", "part", "some", "world", "way"]
theorem scLawThing : FnScope nLawThing ["purse", "lhs", "two"] (defScope sLawThing) := ⟨rfl, rfl, rfl, by decide +kernel, rfl, by decide +kernel, by decide +kernel⟩
def threeW : W := ["a", "ab", "b"]
theorem isW_three : IsW threeW := ⟨by decide +kernel, by unfold threeW UpX; decide +kernel, by decide⟩
theorem three_four : ∀ z ∈ threeW, z ∈ fourW := by decide
theorem PgAt.bar {K : PySem.W.Frag} {C : Addr} {H H' : Hp} {v : V} {S : List Rl} {p : Addr} {c : Int} (h : PgAt K C H v S) (b : Bar p H H') (pu : Pur H p c) : PgAt K C H' v S := by
  obtain ⟨a, dx, t, ys, rfl, i1, i2, i3⟩ := h
  have na : a ≠ p := fun z => by
    obtain ⟨_, _, _, hp, _⟩ := pu
    rw [z, hp] at i1
    cases i1
  have st := b.stay pu.mut
  exact ⟨a, dx, t, ys, rfl, b _ _ na i1, st.seq i2, st.dpAll _ _ (okDs_rd S) i3⟩
theorem ItV.barS {K : PySem.W.Frag} {C : Addr} {H : Hp} {t : V} {SP : List Rl} {ws : W} {p : Addr} {c : Int} (pu : Pur H p c) (h : ItV K C H t (some (SP, ws))) : ∀ H2, Bar p H H2 → ItV K C H2 t (some (SP, ws)) := fun H2 b => by
  obtain ⟨a, x0, x1, h1, h2, h3, h4, h5, h6, h7, h8, h9⟩ := h
  exact ⟨a, x0, x1, h1, (b.stay pu.mut).seq h2, h3.bar b pu, h4, h5, h6, h7, h8, (b.stay pu.mut).wd h9⟩
theorem srt_le {S L : List Rl} (h : Srt S L) : S.length ≤ L.length := len_le h.nd fun z hz => (h.mem z).mp hz
section
variable {P : Program} {w : World} {K : PySem.W.Frag} {mg : Str → Option Value} {base : Heap} {f : Addr} {fd : FuncData} {k : Nat}
theorem ans_ok {lp : Addr} {S : List Rl} {H : Hp} {Q : VK} {E : XK} (hR : RL K H lp S) (hI : ∀ r ∈ S, IsR r) (hl : S.length ≤ 40) (hb : ∀ z ∈ namesL S, z ∈ threeW) (q : ∀ H' p A, Same H H' → H p = none → WLs K H' p A → (∀ t ∈ A, IsW t ∧ ∀ z ∈ t, z ∈ threeW) → A.length ≤ 8 → Q (.ref p) H') : spLawAnswers K [.ref lp] H Q E := by
  refine ⟨lp, S, threeW, rfl, hR, hI, hl, hb, by decide, fun H9 pA own R s9 hpA hown hm hW ris perm => ?_⟩
  have eA : ansL R = (everyW own).filter (fdB S own) := ans_same hown (nin_of hm) (fun _ => Iff.rfl) ris perm
  rw [eA] at hW
  have ol : own.length ≤ 3 := len_le (upX_nodup hown.up) fun z hz => hb z ((hm z).mp hz)
  refine q H9 pA _ s9 hpA hW (fun t ht => ⟨told_isW hown t ht, fun z hz => hb z ((hm z).mp ((mem_every.mp (List.mem_filter.mp ht).1).subset hz))⟩) ?_
  have l1 := List.length_filter_le (fdB S own) (everyW own)
  have l2 : (everyW own).length ≤ 2 ^ 3 := by
    rw [every_len]
    exact Nat.pow_le_pow_right (by decide) ol
  have e : (2 : Nat) ^ 3 = 8 := by decide
  omega
/-- one + other, both told: sorted -/
theorem addS_ok {C CP : Addr} {E : XK} {i j : Nat} {σ : L2.St} {x y : V} {S1 S2 : List Rl} {H : Hp} {Q : VK} (hx : σ[i]? = some (some x)) (hy : σ[j]? = some (some y)) (h1 : PgAt K C H x S1) (hI1 : ∀ r ∈ S1, IsR r) (h2 : PgAt K C H y S2) (hI2 : ∀ r ∈ S2, IsR r) (few : S1.length + S2.length < 76)
    (q : ∀ H' v S, Same H H' → Srt S (S1 ++ S2) → (∀ r ∈ S, IsR r) → PgAt K C H' v S → Q v H') : tOp (rBinP C (spAdd K C CP) E) (tVar i) (tVar j) σ H Q := by
  obtain ⟨a1, dx1, f1, rfl, i1⟩ := dp_pgE h1
  obtain ⟨a2, dx2, f2, rfl, i2⟩ := dp_pgE h2
  refine ⟨.ref a1, hx, .ref a2, hy, a1, dx1, f1, a2, dx2, f2, rfl, rfl, i1, i2, .ref a1, .ref a2, S1, rfl, h1, hI1, .inl ⟨S2, h2, hI2, few, fun H3 v3 S3 s3 hS3 few3 hv3 => ?_⟩⟩
  exact q H3 v3 S3 s3 hS3 (fun r hr => (List.mem_append.mp ((hS3.mem r).mp hr)).elim (hI1 r) (hI2 r)) hv3
theorem bin_ok {C CP : Addr} {E : XK} {x y : V} {S1 S2 : List Rl} {H : Hp} {Q : VK} (h1 : PgAt K C H x S1) (hI1 : ∀ r ∈ S1, IsR r) (h2 : PgAt K C H y S2) (hI2 : ∀ r ∈ S2, IsR r) (few : S1.length + S2.length < 76)
    (q : ∀ H' v S, Same H H' → Srt S (S1 ++ S2) → (∀ r ∈ S, IsR r) → PgAt K C H' v S → Q v H') : rBinP C (spAdd K C CP) E x y H Q := by
  obtain ⟨a1, dx1, f1, rfl, i1⟩ := dp_pgE h1
  obtain ⟨a2, dx2, f2, rfl, i2⟩ := dp_pgE h2
  refine ⟨a1, dx1, f1, a2, dx2, f2, rfl, rfl, i1, i2, .ref a1, .ref a2, S1, rfl, h1, hI1, .inl ⟨S2, h2, hI2, few, fun H3 v3 S3 s3 hS3 few3 hv3 => ?_⟩⟩
  exact q H3 v3 S3 s3 hS3 (fun r hr => (List.mem_append.mp ((hS3.mem r).mp hr)).elim (hI1 r) (hI2 r)) hv3
theorem make0_ok {C : Addr} {σ : L2.St} {H : Hp} {Q : VK} {E : XK} (q : ∀ H' v S, Same H H' → Srt S [] → S.length < 76 → PgAt K C H' v S → Q v H') : StX.tMakeR C (spInit K C) E tNil σ H Q :=
  made_ok (C := C) (L := []) (Q := Q) .nil (fun _ z => nomatch z) (by decide) q
theorem make1_ok {C : Addr} {σ : L2.St} {H : Hp} {Q : VK} {E : XK} {e : TE} (r : Rl) (hr : IsR r) (he : ∀ Q2 : VK, (∀ H' y, Same H H' → Dp K H' y (rd r) → Q2 y H') → e σ H Q2) (q : ∀ H' v S, Same H H' → Srt S [r] → S.length < 76 → PgAt K C H' v S → Q v H') : StX.tMakeR C (spInit K C) E (tCons e tNil) σ H Q :=
  he _ fun H' y s hy => made_ok (C := C) (L := [r]) (Q := Q) (.cons hy .nil) (fun x hx => by rw [List.mem_singleton.mp hx]; exact hr) (by show 1 < 76; decide) fun H2 v S s2 => q H2 v S (s.trans s2)
theorem row_z {σ : L2.St} {H : Hp} {Q2 : VK} (q : ∀ H' y, Same H H' → Dp K H' y (rd (fact "z")) → Q2 y H') : tTup (tCons (tTup (tCons (tC (.str "z")) tNil)) (tCons (tTup tNil) (tCons (tTup tNil) (tCons (tTup tNil) tNil)))) σ H Q2 := by
  refine ⟨by show 1 ≤ sizeLine; decide, fun e1 he1 => ⟨by show 0 ≤ sizeLine; decide, fun e2 he2 => ⟨by show 0 ≤ sizeLine; decide, fun e3 he3 => ⟨by show 0 ≤ sizeLine; decide, fun e4 he4 => ⟨by show 4 ≤ sizeLine; decide, fun t ht => ?_⟩⟩⟩⟩⟩
  have z1 := same_new he1 (.tup [.str "z"])
  have z2 := same_new he2 (.tup [])
  have z3 := same_new he3 (.tup [])
  have z4 := same_new he4 (.tup [])
  have z5 := same_new ht (.tup [.ref e1, .ref e2, .ref e3, .ref e4])
  exact q _ _ (z1.trans (z2.trans (z3.trans (z4.trans z5)))) (.tup (SqT.of upd_same) (.cons (to_wd (ns := ["z"]) (same_tup (z2.trans (z3.trans (z4.trans z5))) (SqT.of upd_same))) (.cons (to_wd (ns := []) (same_tup (z3.trans (z4.trans z5)) (SqT.of upd_same))) (.cons (to_wd (ns := []) (same_tup (z4.trans z5) (SqT.of upd_same))) (.cons (to_wd (ns := []) (same_tup z5 (SqT.of upd_same))) .nil)))))
theorem asg_i {t : TE} {i : Nat} {u : TS} {D : Ends} {σ : L2.St} {H : Hp} (h : t σ H fun x H1 => u D (σ.set i (some x)) H1) : tSeq (tAsg t (gName i)) u D σ H := h
def spLawThing (K : PySem.W.Frag) (C : Addr) : Sp := fun vs H Q _ => ∃ (p : Addr) (c : Int) (x y : V) (S1 S2 : List Rl), vs = [.ref p, x, y] ∧ Pur H p c ∧ c ≤ 600000 ∧ PgAt K C H x S1 ∧ (∀ r ∈ S1, IsR r) ∧ S1.length ≤ 10 ∧ (∀ z ∈ namesL S1, z ∈ threeW) ∧ PgAt K C H y S2 ∧ (∀ r ∈ S2, IsR r) ∧ S2.length ≤ 10 ∧ (∀ z ∈ namesL S2, z ∈ threeW) ∧
  ∀ H' t o, Bar p H H' → Pur H' p (c + 20000) → (∀ H2, Bar p H' H2 → ItV K C H2 t o) → Q t H'
theorem ok_lawThing {C CP fI fA fO fF pO pF pR fR f1 f2 f3 f4 : Addr} {mc : Value} {fdR fd1 fd2 fd3 fd4 : FuncData} (F : Fun K "_law_thing" "_law_thing" sLawThing f fd) (T : Bl mg) (mC : mg "Program" = some (.ref C)) (G : PgC K mg C) (c : Cls K C)
    (cr : CRead K C mc) (cm : CMet K C mc "of" pO fO) (GO : FnR P w K mg base CX0 (k + 2) fO (spOf K C)) (cmF : CMet K C mc "facts" pF fF) (GF : FnR P w K mg base CX0 (k + 2) fF (spFacts K C))
    (M : Mk K C fI) (GI : FnR P w K mg base CX0 (k + 1) fI (spInit K C))
    (hsf : PySem.W.selfFirst K C = true) (hsA : PySem.W.findIn K (.ref C) (PySem.dunder Operator.Add.info.2) = some (some (.ref fA))) (hfA : PySem.W.isFn K (.ref fA) = true) (FA : FnR P w K mg base (L2.CX P w) (k + 2) fA (spAdd K C CP))
    (hpR : PropOf K C "rules" pR fR) (GR : FnOk P w K mg base CX0 (k + 1) fR fdR ["self"] (spRules K C)) (bR : Binds K fdR ["self"] [])
    (G1 : FnOk P w K mg base CX0 (k + 2) f1 fd1 ["purse", "out_of"] spLawDraw) (b1 : Binds K fd1 ["purse", "out_of"] []) (k1 : PySem.W.keepIn K (.ref f1) = true) (m1 : mg "_law_draw" = some (.ref f1))
    (G2 : FnOk P w K mg base CX0 (k + 2) f2 fd2 ["purse", "names", "most"] (spLawRows K)) (b2 : Binds K fd2 ["purse", "names", "most"] []) (k2 : PySem.W.keepIn K (.ref f2) = true) (m2 : mg "_law_rows" = some (.ref f2))
    (G3 : FnOk P w K mg base CX0 (k + 2) f3 fd3 ["purse", "names", "most"] (spLawSome K)) (b3 : Binds K fd3 ["purse", "names", "most"] []) (k3 : PySem.W.keepIn K (.ref f3) = true) (m3 : mg "_law_some" = some (.ref f3))
    (G4 : FnOk P w K mg base CX0 (k + 2) f4 fd4 ["rows"] (spLawAnswers K)) (b4 : Binds K fd4 ["rows"] []) (k4 : PySem.W.keepIn K (.ref f4) = true) (m4 : mg "_law_answers" = some (.ref f4)) :
    FnOk P w K mg base CX0 (k + 3) f fd ["purse", "lhs", "two"] (spLawThing K C) := by
  refine F.ok scLawThing (fun vs H Q E h => ?_) (fun cdv A outer s H vs Q E hr h => ?_)
  · obtain ⟨p, c, x, y, S1, S2, rfl, _⟩ := h
    rfl
  obtain ⟨p, c0, x, y, S1, S2, rfl, hP, hc0, h1, hI1, l1, n1, h2, hI2, l2, n2, q⟩ := h
  refine ⟨_, (pss_cons (ps_set (i := 3) scLawThing.nd rfl (.inl rfl) (pe_cmeth (pe_glob (v := .ref C) (by rfl) mC rfl) cr cm GO hr pass0 (pa_cons (pe_call G2 hr (by rfl) m2 k2 b2 .nil pass0 (pa_cons (pv 0) (pa_cons (pe_tup (pa_cons pe_str (pa_cons pe_str (pa_cons pe_str pa_nil)))) (pa_cons pe_int pa_nil)))) pa_nil))) (pss_mid (ps_if (pt_cmpR  op_eq (pe_call G1 hr (by rfl) m1 k1 b1 .nil pass0 (pa_cons (pv 0) (pa_cons pe_int pa_nil))) pe_int (nomark _)) (pss_one (ps_set (i := 3) scLawThing.nd rfl (.inl rfl) (pe_cmeth (pe_glob (v := .ref C) (by rfl) mC rfl) cr cmF GF hr pass0 (pa_cons (pe_call G3 hr (by rfl) m3 k3 b3 .nil pass0 (pa_cons (pv 0) (pa_cons (pe_tup (pa_cons pe_str (pa_cons pe_str (pa_cons pe_str pa_nil)))) (pa_cons pe_int pa_nil)))) pa_nil)))) pss_nil) (pss_cons (ps_set (i := 4) scLawThing.nd rfl (.inl rfl) (pe_op op_cat (pe_call G4 hr (by rfl) m4 k4 b4 .nil pass0 (pa_cons (pe_callTy (T := "list") (r := rListOf K) call_list_of (by rfl) T.list (by decide +kernel) (pa_cons (pe_prop (pe_op (op_binP hsf hsA hfA FA hr passNo) (pv 1) (pv 3)) c hpR GR hr bR .nil pass0 rfl) pa_nil)) pa_nil)) (pe_lst (pa_cons (pe_tup pa_nil) pa_nil)))) (pss_cons (ps_set (i := 4) scLawThing.nd rfl (.inl rfl) (pe_op op_cat (pv 4) (pe_call G4 hr (by rfl) m4 k4 b4 .nil pass0 (pa_cons (pe_callTy (T := "list") (r := rListOf K) call_list_of (by rfl) T.list (by decide +kernel) (pa_cons (pe_prop (pe_op (op_binP hsf hsA hfA FA hr passNo) (pv 2) (pv 3)) c hpR GR hr bR .nil pass0 rfl) pa_nil)) pa_nil)))) (pss_cons (ps_set (i := 5) scLawThing.nd rfl (.inl rfl) (pe_ix ix_list (pv 4) (pe_call G1 hr (by rfl) m1 k1 b1 .nil pass0 (pa_cons (pv 0) (pa_cons (pe_callB call_len_seq (by rfl) T.len PySem.boot_len (pa_cons (pv 4) pa_nil)) pa_nil))) (fun _ _ => rfl))) (pss_cons (ps_set (i := 6) scLawThing.nd rfl (.inl rfl) (pe_call G1 hr (by rfl) m1 k1 b1 .nil pass0 (pa_cons (pv 0) (pa_cons pe_int pa_nil)))) (pss_cons (ps_if (pt_cmpR  op_eq (pv 6) pe_int (nomark _)) (pss_one (ps_ret (pe_tup (pa_cons (pe_op (op_binP hsf hsA hfA FA hr passNo) (pv 3) (StX.pe_makeR M GI hr (by rfl) mC pass0 (pa_cons (pe_tup (pa_cons (pe_tup (pa_cons pe_str pa_nil)) (pa_cons (pe_tup pa_nil) (pa_cons (pe_tup pa_nil) (pa_cons (pe_tup pa_nil) pa_nil))))) pa_nil))) (pa_cons (pe_callTy call_tuple_of (by rfl) T.tuple (by decide +kernel) (pa_cons (pe_callB (cr_sortX rfl hr.units) (by rfl) T.sorted (by decide +kernel) (pa_cons (pe_callTy (cr_setX rfl hr.units) (by rfl) T.set (by decide +kernel) (pa_cons (pe_op op_catA (pv 5) (pe_tup (pa_cons pe_str pa_nil))) pa_nil)) pa_nil)) pa_nil)) pa_nil))))) pss_nil) (pss_cons (ps_if (pt_cmpR  op_eq (pv 6) pe_int (nomark _)) (pss_cons (ps_set (i := 4) scLawThing.nd rfl (.inl rfl) (pe_lst (pa_cons pe_non (pa_cons (pe_tup pa_nil) (pa_cons (pe_tup (pa_cons (pv 3) pa_nil)) (pa_cons (pe_lst (pa_cons (pv 3) (pa_cons (pv 5) pa_nil))) (pa_cons (pe_tup (pa_cons (pv 3) (pa_cons (pv 5) (pa_cons pe_int pa_nil)))) (pa_cons (pe_tup (pa_cons (pe_prop (pv 3) c hpR GR hr bR .nil pass0 rfl) (pa_cons (pv 5) pa_nil))) (pa_cons (pe_tup (pa_cons (pv 5) (pa_cons (pv 3) pa_nil))) pa_nil))))))))) (pss_one (ps_ret (pe_ix ix_list (pv 4) (pe_call G1 hr (by rfl) m1 k1 b1 .nil pass0 (pa_cons (pv 0) (pa_cons pe_int pa_nil))) (fun _ _ => rfl))))) pss_nil) (pss_cons (ps_if (pt_cmpR  op_eq (pv 6) pe_int (nomark _)) (pss_cons (ps_set (i := 4) scLawThing.nd rfl (.inl rfl) (pe_lst (pa_cons pe_non (pa_cons pe_str (pa_cons (pe_lst (pa_cons pe_str pa_nil)) (pa_cons (pe_tup (pa_cons pe_str (pa_cons pe_str pa_nil))) (pa_cons (pe_tup (pa_cons pe_str pa_nil)) (pa_cons (pe_tup (pa_cons pe_str pa_nil)) (pa_cons (pe_tup (pa_cons (pe_tup pa_nil) pa_nil)) (pa_cons (pe_tup (pa_cons pe_str (pa_cons pe_str pa_nil))) (pa_cons (pe_tup (pa_cons pe_str (pa_cons pe_str (pa_cons pe_str pa_nil)))) (pa_cons (pe_tup (pa_cons pe_str (pa_cons pe_int pa_nil))) (pa_cons (pe_tup (pa_cons (pe_lst (pa_cons pe_str pa_nil)) pa_nil)) pa_nil))))))))))))) (pss_one (ps_ret (pe_tup (pa_cons (pv 3) (pa_cons (pe_ix ix_list (pe_op op_cat (pv 4) (pe_lst (pa_cons (pe_disp (pps_cons pe_str pe_int pps_nil) (by rfl) (by rfl) (by simp) (by decide)) pa_nil))) (pe_call G1 hr (by rfl) m1 k1 b1 .nil pass0 (pa_cons (pv 0) (pa_cons pe_int pa_nil))) (fun _ _ => rfl)) pa_nil)))))) pss_nil) (pss_cons (ps_if (pt_cmpR  op_eq (pv 6) pe_int (nomark _)) (pss_one (ps_ret (pe_tup (pa_cons (pe_makeR0 M GI hr (by rfl) mC pass0) (pa_cons (pv 5) pa_nil))))) pss_nil) (pss_one (ps_ret (pe_tup (pa_cons (pv 3) (pa_cons (pv 5) pa_nil))))))))))))))), ?_⟩
  -- the part
  refine ⟨rfl, .ref p, rfl, by show 3 ≤ sizeLine; decide, fun t0 ht0 => ?_⟩
  have s0 := same_new ht0 (.tup [.str "a", .str "ab", .str "b"])
  refine ⟨p, t0, c0, 3, threeW, rfl, by decide, by decide, hP.same s0, by omega, SqT.of upd_same, by decide, isW_three, fun HC aR L barR puR naR hRL fewL hRO => ?_⟩
  have barC : Bar p H HC := (Bar.same s0).trans barR
  have hIL : ∀ r ∈ L, IsR r := fun r hr => (hRO r hr).1
  have nL : ∀ z ∈ namesL L, z ∈ threeW := fun z hz => by
    obtain ⟨r, hr, hz⟩ := List.mem_flatMap.mp hz
    obtain ⟨t, ht, hz⟩ := List.mem_flatMap.mp hz
    exact (hRO r hr).2 t ht z hz
  obtain ⟨ysR, hR, hysR⟩ := id hRL
  refine ⟨aR, ysR, L, rfl, .inr (SqL.of hR), hysR, hIL, by omega, fun HD v SP sD hSrt fewS hv => ?_⟩
  have puD := puR.same sD
  have barD : Bar p H HD := barC.trans (.same sD)
  let I : L2.St → Hp → Prop := fun σ H' => ∃ v SP, σ = [some (.ref p), some x, some y, some v, none, none, none] ∧ Bar p H H' ∧ Pur H' p (c0 + 15050) ∧ PgAt K C H' v SP ∧ (∀ r ∈ SP, IsR r) ∧ SP.length ≤ 3 ∧ ∀ z ∈ namesL SP, z ∈ threeW
  have first : PgAt K C HD v SP ∧ (∀ r ∈ SP, IsR r) ∧ SP.length ≤ 3 ∧ ∀ z ∈ namesL SP, z ∈ threeW := ⟨hv, fun r hr => hIL r ((hSrt.mem r).mp hr), by have := srt_le hSrt; omega, fun z hz => nL z ((namesL_congr hSrt.mem z).mp hz)⟩
  refine ⟨I, ?_, ?_⟩
  · refine ⟨.ref p, rfl, p, 3, _, rfl, puD, by omega, by decide, by decide, fun r us r0 r1 hP1 => ⟨rfl, _, rfl, ite2 (fun e => ?_) (fun e => ?_)⟩⟩
    · refine ⟨rfl, .ref p, rfl, by show 3 ≤ sizeLine; decide, fun t1 ht1 => ?_⟩
      have s1 := same_new ht1 (.tup [.str "a", .str "ab", .str "b"])
      refine ⟨p, t1, _, 3, threeW, rfl, hP1.same s1, by omega, by decide, by decide, SqT.of upd_same, by decide, isW_three, fun HE tw ws barE puE htw hws hsub => ?_⟩
      refine ⟨.ref tw, ws, rfl, to_wd htw, hws, fun HF v2 SF sF hSrtF fewF hvF => ?_⟩
      have ml : ∀ r ∈ SF, ∃ z ∈ ws, r = fact z := fun r hr => by
        obtain ⟨z, hz, rfl⟩ := List.mem_map.mp ((hSrtF.mem r).mp hr)
        exact ⟨z, hz, rfl⟩
      have wl : ws.length ≤ 3 := len_le (upX_nodup hws.up) hsub
      refine ⟨v2, SF, rfl, barD.trans (Bar.draw.trans ((Bar.same s1).trans (barE.trans (.same sF)))), (puE.same sF).le (by omega), hvF, fun r hr => ?_, by have := srt_le hSrtF; rw [List.length_map] at this; omega, fun z hz => ?_⟩
      · obtain ⟨z, hz, rfl⟩ := ml r hr
        exact isR_fact (hws.names z hz)
      · obtain ⟨r, hr, hz⟩ := List.mem_flatMap.mp hz
        obtain ⟨u, hu, rfl⟩ := ml r hr
        have : z = u := by
          unfold ownN parts fact at hz
          simpa using hz
        rw [this]
        exact hsub u hu
    · exact ⟨v, SP, rfl, barD.trans .draw, hP1.le (by omega), first.1.bar .draw puD, first.2⟩
  rintro σ H1 ⟨v, SP, rfl, bar1, pu1, hv, hIP, lP, nP⟩
  have h11 := h1.bar bar1 hP
  have h21 := h2.bar bar1 hP
  -- some
  have rls : ∀ {H2 : Hp} {v2 : V} {S2' : List Rl} {Q2 : VK}, PgAt K C H2 v2 S2' → (∀ H' lp, Same H2 H' → H2 lp = none → RL K H' lp S2' → Q2 (.ref lp) H') → ∃ a dx fs, v2 = .ref a ∧ H2 a = some (.ins C dx fs) ∧ spRules K C [.ref a] H2 (fun x H3 => rListOf K [x] H3 Q2) E0 := fun {H2 v2 S2' Q2} hv2 q2 => by
    obtain ⟨a, dx, fs, rfl, i1⟩ := dp_pgE hv2
    refine ⟨a, dx, fs, rfl, i1, .ref a, S2', rfl, hv2, fun t ys ht hys => ⟨t, ys, rfl, .inr ht, fun lp hlp => ?_⟩⟩
    have s := same_new hlp (.lst ys)
    exact q2 _ lp s hlp ⟨ys, upd_same, dpAll_same s _ _ hys⟩
  have nam3 : ∀ {Sa Sb : List Rl}, (∀ r, r ∈ Sb ↔ r ∈ Sa ++ SP) → (∀ z ∈ namesL Sa, z ∈ threeW) → ∀ z ∈ namesL Sb, z ∈ threeW := fun {Sa Sb} m hb z hz => by
    have := (namesL_congr m z).mp hz
    exact ((namesL_app Sa SP z).mp this).elim (hb z) (nP z)
  refine asg_i ?_
  refine addS_ok (i := 1) (j := 3) rfl rfl h11 hI1 hv hIP (by omega) fun H2 v2 SA s2 srt2 hIA hv2 => ?_
  have lA := srt_le srt2
  rw [List.length_append] at lA
  dsimp only [tNil]
  refine rls hv2 fun H3 lp s3 hlp hRP => ?_
  refine ans_ok hRP hIA (by omega) (nam3 srt2.mem n1) fun H4 pA A1 s4 npA hW1 hA1 lA1 => ?_
  refine ⟨by show 0 ≤ sizeLine; decide, fun te hte => ⟨by show 1 ≤ sizeLine; decide, fun le hle => ?_⟩⟩
  have s5 := same_new hte (.tup [])
  have s6 := same_new hle (.lst [.ref te])
  have s56 := s5.trans s6
  obtain ⟨y1, hy1, hys1⟩ := hW1.same s56
  have yl1 : y1.length = A1.length := by rw [dpAll_len hys1, List.length_map]
  refine ⟨pA, le, y1, [.ref te], rfl, rfl, hy1, upd_same, small_line (by rw [List.length_singleton]; omega), fun p3 hp3 => ?_⟩
  have s7 := same_new hp3 (.lst (y1 ++ [.ref te]))
  have s17 := s2.trans (s3.trans (s4.trans (s56.trans s7)))
  have hW3 : WLs K (upd (upd (upd H4 te (.tup [])) le (.lst [.ref te])) p3 (.lst (y1 ++ [.ref te]))) p3 (A1 ++ [[]]) := by
    refine ⟨_, upd_same, ?_⟩
    rw [List.map_append]
    exact dps_app12 (.cons (to_wd (ns := []) (same_tup (s6.trans s7) (SqT.of upd_same))) .nil) (dpAll_same s7 _ _ hys1)
  generalize upd (upd (upd H4 te (.tup [])) le (.lst [.ref te])) p3 (.lst (y1 ++ [.ref te])) = H7 at s17 hW3 ⊢
  -- more
  refine asg_i ⟨.ref p3, rfl, ?_⟩
  refine addS_ok (i := 2) (j := 3) rfl rfl (h21.same s17) hI2 (hv.same s17) hIP (by omega) fun H8 v8 SB s8 srt8 hIB hv8 => ?_
  have lB := srt_le srt8
  rw [List.length_append] at lB
  dsimp only [tNil]
  refine rls hv8 fun H9 lp2 s9 hlp2 hRP2 => ?_
  refine ans_ok hRP2 hIB (by omega) (nam3 srt8.mem n2) fun HA pB A2 sA npB hW2 hA2 lA2 => ?_
  have s7A := s8.trans (s9.trans sA)
  obtain ⟨y3, hy3, hys3⟩ := hW3.same s7A
  obtain ⟨y2, hy2, hys2⟩ := hW2
  have yl3 : y3.length = A1.length + 1 := by rw [dpAll_len hys3, List.length_map, List.length_append]; rfl
  have yl2 : y2.length = A2.length := by rw [dpAll_len hys2, List.length_map]
  refine ⟨p3, pB, y3, y2, rfl, rfl, hy3, hy2, small_line (by omega), fun p4 hp4 => ?_⟩
  have sB := same_new hp4 (.lst (y3 ++ y2))
  have s1B := s17.trans (s7A.trans sB)
  have np4 : p4 ≠ p := (pu1.same (s17.trans s7A)).some hp4
  let AA : List W := (A1 ++ [[]]) ++ A2
  have hWB : WLs K (upd HA p4 (.lst (y3 ++ y2))) p4 AA := by
    refine ⟨_, upd_same, ?_⟩
    rw [List.map_append]
    exact dps_app12 (dpAll_same sB _ _ hys2) (dpAll_same sB _ _ hys3)
  have hAA : ∀ t ∈ AA, IsW t ∧ ∀ z ∈ t, z ∈ threeW := fun t ht => by
    rcases List.mem_append.mp ht with h | h
    · rcases List.mem_append.mp h with h | h
      · exact hA1 t h
      · rw [List.mem_singleton.mp h]
        exact ⟨isW_nil, fun _ z => nomatch z⟩
    · exact hA2 t h
  have lAA : 1 ≤ AA.length ∧ AA.length ≤ 17 := by
    have : AA.length = A1.length + 1 + A2.length := by
      show ((A1 ++ [[]]) ++ A2).length = _
      rw [List.length_append, List.length_append]
      rfl
    omega
  generalize upd HA p4 (.lst (y3 ++ y2)) = HB at s1B hWB sB ⊢
  obtain ⟨yB, hyB, hysB⟩ := hWB
  have ylB : yB.length = AA.length := by rw [dpAll_len hysB, List.length_map]
  have puB := pu1.same s1B
  have barB : Bar p H HB := bar1.trans (.same s1B)
  have hvB := hv.same s1B
  -- the world
  refine asg_i ?_
  refine ⟨.ref p4, rfl, .ref p, rfl, .ref p4, rfl, p4, yB, rfl, .inl (SqL.of hyB), p, (yB.length : Int), _, rfl, puB, by omega, by omega, by omega, fun r us r0 r1 hP2 => ?_⟩
  obtain ⟨m, rfl⟩ := Int.eq_ofNat_of_zero_le r0
  have lm : m < yB.length := by
    have r1' : (m : Int) < (yB.length : Int) := r1
    omega
  have hxm : yB[m]? = some yB[m] := List.getElem?_eq_getElem lm
  obtain ⟨dm, hdm, hxd⟩ := dpAll_at' hysB hxm
  obtain ⟨wld, hwm, rfl⟩ := map_at hdm
  obtain ⟨iW, sub3⟩ := hAA wld (List.mem_of_getElem? hwm)
  have bar2 : Bar p HB (upd HB p (.lst us)) := .draw
  refine ⟨p4, yB, m, yB[m], rfl, rfl, SqL.of (bar2 _ _ np4 hyB), atI_nat hxm, ?_⟩
  have hx2 := (bar2.stay puB.mut).wd hxd
  generalize yB[m] = xw at hx2 ⊢
  have hv2 := hvB.bar bar2 puB
  have bar02 := barB.trans bar2
  generalize upd HB p (.lst us) = H2 at hP2 bar02 hx2 hv2 bar2 ⊢
  -- the way
  refine asg_i ?_
  refine ⟨.ref p, rfl, p, 9, _, rfl, hP2, by omega, by decide, by decide, fun way us2 w0 w1 hP3 => ?_⟩
  have bar3 : Bar p H2 (upd H2 p (.lst us2)) := .draw
  have hx3 := (bar3.stay hP2.mut).wd hx2
  have hv3 := hv2.bar bar3 hP2
  have bar03 := bar02.trans bar3
  generalize upd H2 p (.lst us2) = H3 at hP3 bar03 hx3 hv3 ⊢
  have no : ∀ {i j : Int}, i ≠ j → V.bl (decide (V.int i = V.int j)) = V.bl false := fun n => congrArg V.bl (decide_eq_false fun e => n (by injection e))
  have yes : ∀ {i : Int}, V.bl (decide (V.int i = V.int i)) = V.bl true := congrArg V.bl (decide_eq_true rfl)
  have tupR : ∀ {H4 : Hp} {t : Addr} {xs : List V} {Q2 : VK}, Same H3 H4 → H4 t = none → (∀ H5, Same H4 H5 → H5 t = some (.tup xs) → (∀ H6, Bar p H5 H6 → SqT K H6 t xs) → Q2 (.ref t) H5) → Q2 (.ref t) (upd H4 t (.tup xs)) := fun {H4 t xs Q2} s ht q2 => by
    have s1 := same_new ht (.tup xs)
    exact q2 _ s1 upd_same fun H6 b => (b.stay (hP3.same (s.trans s1)).mut).seq (SqT.of upd_same)
  have barx : ∀ {H4 H5 : Hp}, Same H3 H4 → Bar p H4 H5 → Bar p H3 H5 := fun s b => (Bar.same s).trans b
  have xv' : ∀ {H5 : Hp}, Bar p H3 H5 → Dp K H5 xw (wd wld) := fun b => (b.stay hP3.mut).wd hx3
  by_cases e0 : way = 0
  · subst e0
    refine ⟨.int 0, rfl, rfl, true, yes, iteT ?_⟩
    refine ⟨v, rfl, ?_⟩
    refine make1_ok (fact "z") (isR_fact (by decide +kernel)) (fun Q2 q2 => row_z q2) fun H4 v4 S4 s4 srt4 few4 hv4 => ?_
    have l4 : S4.length ≤ 1 := srt_le srt4
    have hI4 : ∀ r ∈ S4, IsR r := fun r hr => by
      rw [List.mem_singleton.mp ((srt4.mem r).mp hr)]
      exact isR_fact (by decide +kernel)
    refine bin_ok (hv3.same s4) hIP hv4 hI4 (by omega) fun H5 v5 S5 s5 srt5 hI5 hv5 => ?_
    have l5 := srt_le srt5
    rw [List.length_append] at l5
    have n5 : ∀ z ∈ namesL S5, z ∈ fourW := fun z hz => by
      have := (namesL_congr srt5.mem z).mp hz
      rcases (namesL_app SP S4 z).mp this with h | h
      · exact three_four z (nP z h)
      · have h' := (namesL_congr srt4.mem z).mp h
        have all : ((namesL [fact "z"]).all fun z => decide (z ∈ fourW)) = true := by decide +kernel
        exact of_decide_eq_true (List.all_eq_true.mp all z h')
    have s45 := s4.trans s5
    obtain ⟨aw, rfl, hTw⟩ := of_wd (dp_same s45 _ _ hx3)
    refine ⟨.ref aw, rfl, by show 1 ≤ sizeLine; decide, fun tz htz => ?_⟩
    have s6 := same_new htz (.tup [.str "z"])
    have wf := iW.few
    refine catA_w (same_tup s6 hTw) (SqT.of upd_same) (small_line (by rw [List.length_map]; show wld.length + 1 ≤ 10000; omega)) fun cc H7 s7 hcc => ?_
    have ecc : wld.map V.str ++ [V.str "z"] = (wld ++ (["z"] : W)).map V.str := by rw [List.map_append]; rfl
    rw [ecc] at hcc
    refine ⟨cc, wld ++ (["z"] : W), rfl, .inr hcc, by rw [List.length_append]; show wld.length + 1 < 1000; omega, fun b ms hb nd hmm hl' => ?_⟩
    have s8 := same_new hb (XSetO P w b ms)
    rw [List.length_append, List.length_singleton] at hl'
    refine ⟨b, ms, rfl, upd_same, by omega, fun zs2 p2 hz2 nz2 hlz rz2 hp2 => ?_⟩
    have s9 := same_new hp2 (.lst (zs2.map V.str))
    refine ⟨p2, zs2.map V.str, rfl, .inl ⟨SqL.of upd_same, fun t2 ht2 => ?_⟩⟩
    have sA := same_new ht2 (.tup (zs2.map V.str))
    refine ⟨by show 2 ≤ sizeLine; decide, fun t ht => ?_⟩
    have sB := same_new ht (.tup [v5, .ref t2])
    have s6B := s6.trans (s7.trans (s8.trans (s9.trans (sA.trans sB))))
    have m4 : ∀ z ∈ zs2, z ∈ fourW := fun z hz => by
      have := (hmm z).mp ((hz2 z).mp hz)
      rcases List.mem_append.mp this with h | h
      · exact three_four z (sub3 z h)
      · rw [List.mem_singleton.mp h]
        decide
    have l4w := len_le nz2 m4
    have e4 : fourW.length = 4 := rfl
    have puZ : Pur _ p (c0 + 20000) := ((hP3.same (s45.trans s6B)).le (by omega))
    exact q _ (.ref t) (some (S5, zs2)) (bar03.trans (.same (s45.trans s6B))) puZ (ItV.barS puZ ⟨t, v5, .ref t2, rfl, SqT.of upd_same, hv5.same s6B, hI5, by omega, n5, ⟨fun z hz => four_name z (m4 z hz), upX_of rz2 nz2, by omega⟩, m4, to_wd (same_tup sB (SqT.of upd_same))⟩)
  refine ⟨.int way, rfl, rfl, false, no e0, iteF ?_⟩
  by_cases e1 : way = 1
  · subst e1
    refine ⟨.int 1, rfl, rfl, true, yes, iteT ?_⟩
    let σA : L2.St := [some (.ref p), some x, some y, some v, some (.ref p4), some xw, some (.int 1)]
    let R1 : Hp → V → Prop := fun H x => ∀ H', Bar p H H' → ItV K C H' x none
    have stR : ∀ H H' x, Same H H' → R1 H x → R1 H' x := fun H H' x s h H2 b => h H2 ((Bar.same s).trans b)
    have it1 : Gv σA H3 R1 (tC .non) := fun H4 s Q2 q2 => q2 H4 .non (fun _ _ e => e) fun H5 b => .inl ⟨.type "NoneType", .base .non, kit_ty (by decide +kernel)⟩
    have it2 : Gv σA H3 R1 (tTup tNil) := fun H4 s Q2 q2 => ⟨by show 0 ≤ sizeLine; decide, fun t ht => tupR s ht fun H5 s5 _ h => q2 H5 _ s5 fun H6 b => .inr (.inl ⟨t, [], rfl, h H6 b, by decide⟩)⟩
    have it3 : Gv σA H3 R1 (tTup (tCons (tVar 3) tNil)) := fun H4 s Q2 q2 => ⟨v, rfl, by show 1 ≤ sizeLine; decide, fun t ht => tupR s ht fun H5 s5 _ h => q2 H5 _ s5 fun H6 b => .inr (.inl ⟨t, [v], rfl, h H6 b, by show (1 : Nat) ≠ 2; decide⟩)⟩
    have it4 : Gv σA H3 R1 (tLst (tCons (tVar 3) (tCons (tVar 5) tNil))) := fun H4 s Q2 q2 => ⟨v, rfl, xw, rfl, by show 2 ≤ sizeLine; decide, fun t ht => by
      have s1 := same_new ht (.lst [v, xw])
      have np := (hP3.same s).some ht
      exact q2 _ _ s1 fun H6 b => .inl ⟨.type "list", .base (.lst (b _ _ np upd_same)), kit_ty (by decide +kernel)⟩⟩
    have it5 : Gv σA H3 R1 (tTup (tCons (tVar 3) (tCons (tVar 5) (tCons (tC (.int 1)) tNil)))) := fun H4 s Q2 q2 => ⟨v, rfl, xw, rfl, by show 3 ≤ sizeLine; decide, fun t ht => tupR s ht fun H5 s5 _ h => q2 H5 _ s5 fun H6 b => .inr (.inl ⟨t, [v, xw, .int 1], rfl, h H6 b, by show (3 : Nat) ≠ 2; decide⟩)⟩
    have it6 : Gv σA H3 R1 (tTup (tCons (tProp C (spRules K C) [] E0 (tVar 3)) (tCons (tVar 5) tNil))) := fun H4 s Q2 q2 => by
      obtain ⟨a4, dx4, f4', rfl, i4⟩ := dp_pgE (hv3.same s)
      refine ⟨.ref a4, rfl, a4, dx4, f4', rfl, i4, .ref a4, SP, rfl, hv3.same s, fun t1 ys1 ht1 _ => ⟨xw, rfl, by show 2 ≤ sizeLine; decide, fun t ht => tupR s ht fun H5 s5 _ h => q2 H5 _ s5 fun H6 b => ?_⟩⟩
      exact .inr (.inr ⟨t, .ref t1, xw, rfl, h H6 b, .inl ⟨.type "tuple", tyx_tup ((b.stay (hP3.same (s.trans s5)).mut).seq (same_tup s5 ht1)), G.tuple⟩⟩)
    have it7 : Gv σA H3 R1 (tTup (tCons (tVar 5) (tCons (tVar 3) tNil))) := fun H4 s Q2 q2 => ⟨xw, rfl, v, rfl, by show 2 ≤ sizeLine; decide, fun t ht => tupR s ht fun H5 s5 _ h => q2 H5 _ s5 fun H6 b => .inr (.inr ⟨t, xw, v, rfl, h H6 b, .inl ⟨.type "tuple", tyx_dp (d := wd wld) (xv' (barx (s.trans s5) b)), G.tuple⟩⟩)⟩
    refine asg_i ?_
    refine lst_all (σ := σA) (H0 := H3) (R := R1) stR (gvs_cons stR it1 (gvs_cons stR it2 (gvs_cons stR it3 (gvs_cons stR it4 (gvs_cons stR it5 (gvs_cons stR it6 (gvs_cons stR it7 gvs_nil))))))) (fun _ _ e => e) (by decide) fun H4 l xs s4 nl hl xl hxs => ?_
    have np := hP3.some nl
    refine ⟨.ref l, rfl, .ref p, rfl, p, 7, _, rfl, hP3.same s4, by omega, by decide, by decide, fun r3 us3 r30 r31 hP4 => ?_⟩
    obtain ⟨m3, rfl⟩ := Int.eq_ofNat_of_zero_le r30
    have lm3 : m3 < xs.length := by omega
    have hx4 : xs[m3]? = some xs[m3] := List.getElem?_eq_getElem lm3
    have b4 : Bar p H4 (upd H4 p (.lst us3)) := .draw
    refine ⟨l, xs, m3, xs[m3], rfl, rfl, SqL.of (b4 _ _ np hl), atI_nat hx4, ?_⟩
    exact q _ _ none (bar03.trans ((Bar.same s4).trans b4)) (hP4.le (by omega)) fun H2 b => hxs _ (List.mem_of_getElem? hx4) _ (b4.trans b)
  refine ⟨.int way, rfl, rfl, false, no e1, iteF ?_⟩
  by_cases e2 : way = 2
  · subst e2
    refine ⟨.int 2, rfl, rfl, true, yes, iteT ?_⟩
    let σA : L2.St := [some (.ref p), some x, some y, some v, some (.ref p4), some xw, some (.int 2)]
    let R1 : Hp → V → Prop := fun H x => (∀ H', Bar p H H' → WlV K H' x false ∧ LwV K H' x false) ∨ ∀ H', Bar p H H' → Dp K H' x (wd ["z"])
    have stR : ∀ H H' x, Same H H' → R1 H x → R1 H' x := fun H H' x s h => h.imp (fun h H2 b => h H2 ((Bar.same s).trans b)) (fun h H2 b => h H2 ((Bar.same s).trans b))
    have nott : ∀ {H4 : Hp} {x : V} {T0 : String}, TyX K H4 x (.type T0) → PySem.W.kitOne K (.type T0) (.type "tuple") = some false → WlV K H4 x false ∧ LwV K H4 x false := fun h1 h2 => ⟨.inr ⟨⟨_, h1, h2⟩, rfl⟩, .inr ⟨⟨_, h1, h2⟩, rfl⟩⟩
    have tupB : ∀ {H4 : Hp} {t : Addr} {xs : List V} {ds : List PyData}, SqT K H4 t xs → DpAll K H4 xs ds → (∀ d ∈ ds, oddN d) → (ds.all SeqAt.shaped) = true → ds.length ≤ 40 → worldD (.tuple ds) = false → lawWB ds = false → WlV K H4 (.ref t) false ∧ LwV K H4 (.ref t) false := fun h1 h2 h3 h4 h5 h6 h7 =>
      ⟨.inl ⟨_, .tup h1 h2, ⟨h3, h5⟩, h6.symm⟩, .inl ⟨_, _, _, rfl, h1, h2, fun d hd => List.all_eq_true.mp h4 d hd, h5, h7.symm⟩⟩
    have oddS : ∀ ns : W, (ns.all fun z => decide (z.cps.size ≤ 10000)) = true → ∀ d ∈ ns.map PyData.str, oddN d := fun ns h d hd => by
      obtain ⟨z, hz, rfl⟩ := List.mem_map.mp hd
      have := List.all_eq_true.mp h z hz
      exact (of_decide_eq_true this : z.cps.size ≤ 10000)
    have it1 : Gv σA H3 R1 (tC .non) := fun H4 s Q2 q2 => q2 H4 .non (fun _ _ e => e) <| .inl fun H5 b => nott (.base .non) (kit_ty (by decide +kernel))
    have it2 : Gv σA H3 R1 (tC (.str "a")) := fun H4 s Q2 q2 => q2 H4 (.str "a") (fun _ _ e => e) <| .inl fun H5 b => nott (.base (.str _)) (kit_ty (by decide +kernel))
    have it3 : Gv σA H3 R1 (tLst (tCons (tC (.str "a")) tNil)) := fun H4 s Q2 q2 => ⟨by show 1 ≤ sizeLine; decide, fun t ht => by
      have s1 := same_new ht (.lst [.str "a"])
      have np := (hP3.same s).some ht
      exact q2 _ _ s1 <| .inl fun H6 b => nott (.base (.lst (b _ _ np upd_same))) (kit_ty (by decide +kernel))⟩
    have itS2 : ∀ n1 n2 : Str, (([n1, n2] : W).all fun z => decide (z.cps.size ≤ 10000)) = true → (([n1, n2] : W).map PyData.str).all SeqAt.shaped = true → worldD (wd [n1, n2]) = false → lawWB (([n1, n2] : W).map .str) = false → Gv σA H3 R1 (tTup (tCons (tC (.str n1)) (tCons (tC (.str n2)) tNil))) := fun n1 n2 a1 a2 a3 a4 H4 s Q2 q2 => ⟨by show 2 ≤ sizeLine; decide, fun t ht => tupR s ht fun H5 s5 _ h => q2 H5 _ s5 <| .inl fun H6 b => tupB (h H6 b) (dps_strs [n1, n2]) (oddS _ a1) a2 (by show 2 ≤ 40; decide) a3 a4⟩
    have it5 : Gv σA H3 R1 (tTup (tCons (tC (.str "z")) tNil)) := fun H4 s Q2 q2 => ⟨by show 1 ≤ sizeLine; decide, fun t ht => tupR s ht fun H5 s5 _ h => q2 H5 _ s5 <| .inr fun H6 b => to_wd (ns := ["z"]) (h H6 b)⟩
    have it6 : Gv σA H3 R1 (tTup (tCons (tC (.str "A")) tNil)) := fun H4 s Q2 q2 => ⟨by show 1 ≤ sizeLine; decide, fun t ht => tupR s ht fun H5 s5 _ h => q2 H5 _ s5 <| .inl fun H6 b => tupB (h H6 b) (dps_strs ["A"]) (oddS ["A"] (by decide +kernel)) (by decide +kernel) (by decide) (by decide +kernel) (by decide +kernel)⟩
    have it7 : Gv σA H3 R1 (tTup (tCons (tTup tNil) tNil)) := fun H4 s Q2 q2 => ⟨by show 0 ≤ sizeLine; decide, fun t0 ht0 => ⟨by show 1 ≤ sizeLine; decide, fun t ht => by
      have s0 := same_new ht0 (.tup [])
      exact tupR (s.trans s0) ht fun H5 s5 _ h => q2 H5 _ (s0.trans s5) <| .inl fun H6 b => tupB (h H6 b) (.cons (to_wd (ns := []) ((b.stay (hP3.same (s.trans (s0.trans s5))).mut).seq (same_tup s5 (SqT.of upd_same)))) .nil) (fun d hd => by rw [List.mem_singleton.mp hd]; exact True.intro) (by decide +kernel) (by decide) (by decide +kernel) (by decide +kernel)⟩⟩
    have it9 : Gv σA H3 R1 (tTup (tCons (tC (.str "a")) (tCons (tC (.str "ab")) (tCons (tC (.str "ab")) tNil)))) := fun H4 s Q2 q2 => ⟨by show 3 ≤ sizeLine; decide, fun t ht => tupR s ht fun H5 s5 _ h => q2 H5 _ s5 <| .inl fun H6 b => tupB (h H6 b) (dps_strs ["a", "ab", "ab"]) (oddS _ (by decide +kernel)) (by decide +kernel) (by decide) (by decide +kernel) (by decide +kernel)⟩
    have itA : Gv σA H3 R1 (tTup (tCons (tC (.str "a")) (tCons (tC (.int 1)) tNil))) := fun H4 s Q2 q2 => ⟨by show 2 ≤ sizeLine; decide, fun t ht => tupR s ht fun H5 s5 _ h => q2 H5 _ s5 <| .inl fun H6 b => tupB (ds := [.str "a", .int 1]) (h H6 b) (.cons (.str _) (.cons (.int _) .nil)) (fun d hd => by
      simp only [List.mem_cons, List.mem_nil_iff, or_false] at hd
      rcases hd with rfl | rfl
      · show (Str.cps _).size ≤ 10000
        decide +kernel
      · exact True.intro) (by decide +kernel) (by decide) (by decide +kernel) (by decide +kernel)⟩
    have itB : Gv σA H3 R1 (tTup (tCons (tLst (tCons (tC (.str "a")) tNil)) tNil)) := fun H4 s Q2 q2 => ⟨by show 1 ≤ sizeLine; decide, fun t0 ht0 => ⟨by show 1 ≤ sizeLine; decide, fun t ht => by
      have s0 := same_new ht0 (.lst [.str "a"])
      have np := (hP3.same s).some ht0
      exact tupR (s.trans s0) ht fun H5 s5 _ h => q2 H5 _ (s0.trans s5) <| .inl fun H6 b => tupB (ds := [.list [.str "a"]]) (h H6 b) (.cons (.lst (SqL.of (b _ _ np (s5 _ _ upd_same))) (.cons (.str _) .nil)) .nil) (fun d hd => by rw [List.mem_singleton.mp hd]; exact True.intro) (by decide +kernel) (by decide) (by decide +kernel) (by decide +kernel)⟩⟩
    refine asg_i ?_
    refine lst_all (σ := σA) (H0 := H3) (R := R1) stR (gvs_cons stR it1 (gvs_cons stR it2 (gvs_cons stR it3 (gvs_cons stR (itS2 "b" "a" (by decide +kernel) (by decide +kernel) (by decide +kernel) (by decide +kernel)) (gvs_cons stR it5 (gvs_cons stR it6 (gvs_cons stR it7 (gvs_cons stR (itS2 "a" "a" (by decide +kernel) (by decide +kernel) (by decide +kernel) (by decide +kernel)) (gvs_cons stR it9 (gvs_cons stR itA (gvs_cons stR itB gvs_nil))))))))))) (fun _ _ e => e) (by decide) fun H4 l xs s4 nl hl xl hxs => ?_
    refine ⟨v, rfl, .ref l, rfl, fun dd hdd => ⟨upd_same, [(.inr "a", .int 1)], rfl, by show 1 ≤ 15; decide, by show 1 ≤ sizeLine; decide, fun ld hld => ?_⟩⟩
    have np := hP3.some nl
    have sd : Same H4 (upd (upd H4 dd (.dK [])) dd (.dK (mergeK [] [(.inr "a", .int 1)]))) := fun b u e => by
      rw [upd_ne (ne_of_none e hdd), upd_ne (ne_of_none e hdd)]
      exact e
    have npd : dd ≠ p := (hP3.same s4).some hdd
    have hdv : (upd (upd H4 dd (.dK [])) dd (.dK (mergeK [] [(.inr "a", .int 1)]))) dd = some (.dK (mergeK [] [(.inr "a", .int 1)])) := upd_same
    generalize upd (upd H4 dd (.dK [])) dd (.dK (mergeK [] [(.inr "a", .int 1)])) = H5 at sd hld hdv ⊢
    have s6 := same_new hld (.lst [.ref dd])
    refine ⟨l, ld, xs, [.ref dd], rfl, rfl, (sd.trans s6) _ _ hl, upd_same, small_line (by rw [xl]; show 11 + 1 ≤ 10000; decide), fun l5 hl5 => ?_⟩
    have s7 := same_new hl5 (.lst (xs ++ [.ref dd]))
    have s47 := sd.trans (s6.trans s7)
    have np5 : l5 ≠ p := (hP3.same (s4.trans (sd.trans s6))).some hl5
    have hl7 : (upd (upd H5 ld (.lst [.ref dd])) l5 (.lst (xs ++ [.ref dd]))) l5 = some (.lst (xs ++ [.ref dd])) := upd_same
    have hd7 := (s6.trans s7) _ _ hdv
    generalize upd (upd H5 ld (.lst [.ref dd])) l5 (.lst (xs ++ [.ref dd])) = H7 at s47 hl7 hd7 ⊢
    have s37 := s4.trans s47
    have all7 : ∀ x ∈ xs ++ [.ref dd], R1 H7 x := fun x hx => by
      rcases List.mem_append.mp hx with h | h
      · exact stR _ _ _ s47 (hxs x h)
      · rw [List.mem_singleton.mp h]
        exact .inl fun H' b => nott (.base (.dK (b _ _ npd hd7))) (kit_ty (by decide +kernel))
    refine ⟨.ref p, rfl, p, 12, _, rfl, hP3.same s37, by omega, by decide, by decide, fun r3 us3 r30 r31 hP4 => ?_⟩
    obtain ⟨m3, rfl⟩ := Int.eq_ofNat_of_zero_le r30
    have lm3 : m3 < (xs ++ [V.ref dd]).length := by
      rw [List.length_append, xl]
      show m3 < 11 + 1
      have : (m3 : Int) < 12 := r31
      omega
    have hx4 : (xs ++ [V.ref dd])[m3]? = some (xs ++ [V.ref dd])[m3] := List.getElem?_eq_getElem lm3
    have b4 : Bar p H7 (upd H7 p (.lst us3)) := .draw
    refine ⟨l5, _, m3, _, rfl, rfl, SqL.of (b4 _ _ np5 hl7), atI_nat hx4, ?_⟩
    have hR := all7 _ (List.mem_of_getElem? hx4)
    generalize (xs ++ [V.ref dd])[m3] = xi at hR ⊢
    refine ⟨by show 2 ≤ sizeLine; decide, fun t ht => ?_⟩
    have s9 := same_new ht (.tup [v, xi])
    have b9 : Bar p H7 _ := b4.trans (.same s9)
    have b39 : Bar p H3 _ := (Bar.same s37).trans b9
    have hvF := hv3.bar b39 hP3
    have pu9 := (hP4.same s9).le (d := c0 + 20000) (by omega)
    have tS : ∀ H2, Bar p _ H2 → SqT K H2 t [v, xi] := fun H2 b => (b.stay pu9.mut).seq (SqT.of upd_same)
    rcases hR with g | g
    · exact q _ (.ref t) none (bar03.trans b39) pu9 fun H2 b => .inr (.inr ⟨t, v, xi, rfl, tS H2 b, .inr ⟨SP, hvF.bar b pu9, hIP, by omega, fun z hz => three_four z (nP z hz), (g H2 (b9.trans b)).1, (g H2 (b9.trans b)).2⟩⟩)
    · exact q _ (.ref t) (some (SP, ["z"])) (bar03.trans b39) pu9 fun H2 b => ⟨t, v, xi, rfl, tS H2 b, hvF.bar b pu9, hIP, by omega, fun z hz => three_four z (nP z hz), isW_one (by decide +kernel), by decide, g H2 (b9.trans b)⟩
  refine ⟨.int way, rfl, rfl, false, no e2, iteF ?_⟩
  by_cases e3 : way = 3
  · subst e3
    refine ⟨.int 3, rfl, rfl, true, yes, iteT ?_⟩
    dsimp only [tRet, tTup, tCons]
    refine make0_ok fun H4 v4 S4 s4 srt4 few4 hv4 => ?_
    have e4 : S4 = [] := List.eq_nil_iff_forall_not_mem.mpr fun r hr => nomatch (srt4.mem r).mp hr
    subst e4
    refine ⟨xw, rfl, by show 2 ≤ sizeLine; decide, fun t ht => ?_⟩
    have s5 := same_new ht (.tup [v4, xw])
    have puZ : Pur _ p (c0 + 20000) := ((hP3.same (s4.trans s5)).le (by omega))
    exact q _ (.ref t) (some ([], wld)) (bar03.trans (.same (s4.trans s5))) puZ (ItV.barS puZ ⟨t, v4, xw, rfl, SqT.of upd_same, hv4.same s5, (fun _ z => nomatch z), by decide, (fun _ z => nomatch z), iW, fun z hz => three_four z (sub3 z hz), dp_same (s4.trans s5) _ _ hx3⟩)
  refine ⟨.int way, rfl, rfl, false, no e3, iteF ?_⟩
  refine ⟨v, rfl, xw, rfl, by show 2 ≤ sizeLine; decide, fun t ht => ?_⟩
  have s4 := same_new ht (.tup [v, xw])
  have puZ : Pur _ p (c0 + 20000) := ((hP3.same s4).le (by omega))
  exact q _ (.ref t) (some (SP, wld)) (bar03.trans (.same s4)) puZ (ItV.barS puZ ⟨t, v, xw, rfl, SqT.of upd_same, hv3.same s4, hIP, by omega, fun z hz => three_four z (nP z hz), iW, fun z hz => three_four z (sub3 z hz), dp_same s4 _ _ hx3⟩)
end
end Rw
namespace Rw
open PySem PySem.Spec PyProof.Rows L2
/-! ### tuple(a text) -/
def signs (z : Str) : List V := z.cps.toList.map fun c => V.str ⟨#[c]⟩
section
variable {X : Cx}
def rTupS : List V → Hp → VK → Prop := fun xs H Q => ∃ z : Str, xs = [.str z] ∧ z.cps.size ≤ 1000 ∧ ∀ l, H l = none → Q (.ref l) (upd H l (.tup (signs z)))
theorem cr_tupS (hc : X.calm = true) : CallR X (.type "tuple") rTupS := by
  intro pins s σ H xs us Q I r h
  obtain ⟨z, rfl, hz, q⟩ := h
  cases r with
  | cons r1 r2 =>
    cases r2
    obtain ⟨t, rfl⟩ := r1
    refine call_tuple_str (I.ok.hd hc) z t (fun h' tk acc kp hacc => ?_) (by rw [sizeLine_eq]; omega)
    have I1 : Inv X pins σ H { s with heap := h', toks := tk } := I.kept (t' := tk) kp
    obtain ⟨a1, a2⟩ := hacc
    have hv : Vals (signs z) acc.toList := by
      have key : ∀ (l : List Nat) (us : List Value), us.length = l.length → (∀ (i : Nat) (c : Nat), l[i]? = some c → ∃ t, us[i]? = some (Value.str ⟨#[c]⟩ t)) → Vals (l.map fun c => V.str ⟨#[c]⟩) us := by
        intro l
        induction l with
        | nil =>
          intro us hl _
          obtain rfl := List.length_eq_zero_iff.mp hl
          exact .nil
        | cons c l ih =>
          intro us hl hh
          cases us with
          | nil => exact absurd hl (by simp)
          | cons u us =>
            obtain ⟨t, e⟩ := hh 0 c rfl
            have e' : u = .str ⟨#[c]⟩ t := by simpa using e
            exact .cons ⟨t, e'⟩ (ih us (by simpa using hl) fun i d hd => by simpa using hh (i + 1) d (by simpa using hd))
      refine key _ _ (by rw [Array.length_toList, Array.length_toList]; exact a1) fun i c hc => ?_
      have il : i < z.cps.size := by
        have := (List.getElem?_eq_some_iff.mp hc).1
        rwa [Array.length_toList] at this
      have il2 : i < acc.size := by omega
      obtain ⟨c', u, e1, e2⟩ := a2 i acc[i] (by rw [Array.getElem?_eq_getElem il2])
      rw [← Array.getElem?_toList] at e1
      rw [hc] at e1
      cases e1
      exact ⟨u, by rw [Array.getElem?_toList, Array.getElem?_eq_getElem il2, e2]⟩
    have I2 : Inv X pins σ (upd H h'.objs.size (.tup (signs z))) { s with heap := h'.push { cls := .type "tuple", data := .seq acc }, toks := tk } :=
      I1.laid (t' := tk) (fun b o e => Heap.get?_push_of_some _ e) (Nat.le_refl _) (show ObjOk X.prog X.w _ _ _ (.tup (signs z)) from ⟨by unfold signs; rw [List.length_map, Array.length_toList, sizeLine_eq]; omega, acc.toList, hv, by
        have := IsTup.new h' acc
        simpa using this⟩)
    exact ⟨.ref h'.objs.size, _, I2, rfl, q _ (I1.hok.fresh (Nat.le_refl _))⟩
end
end Rw
namespace Rw
open PySem PySem.Spec PyProof.Rows L2 ClX
/-! ### answers worked out -/
theorem ansP_eval {S L : List Rl} {W0 w : W} (h : ∀ r, r ∈ S ↔ r ∈ L) (h0 : IsW W0) (c : (W0.all fun z => decide (z ∈ namesL L)) = true) (c2 : ((namesL L).all fun z => decide (z ∈ W0)) = true) (hw : IsW w) : ansP S w = (sub w W0 && ansB L w) := by
  have m : ∀ z, z ∈ W0 ↔ z ∈ namesL S := fun z => by
    rw [namesL_congr h]
    exact ⟨fun q => of_decide_eq_true (List.all_eq_true.mp c z q), fun q => of_decide_eq_true (List.all_eq_true.mp c2 z q)⟩
  rw [← ansP_of h0 m]
  cases e : sub w W0 with
  | false => rfl
  | true =>
    have hin : w ∈ everyW W0 := by
      rw [mem_every, ← mem_subs, parts_iff h0]
      exact ⟨hw, e⟩
    rw [fd_comp h0 (nin_of m) h hin]
theorem nmsW_eval {S L : List Rl} {W0 : W} (h : ∀ r, r ∈ S ↔ r ∈ L) (h0 : IsW W0) (c : (W0.all fun z => decide (z ∈ namesL L)) = true) (c2 : ((namesL L).all fun z => decide (z ∈ W0)) = true) : nmsW S = W0 := nmsW_of h0 fun z => by
    rw [namesL_congr h]
    exact ⟨fun q => of_decide_eq_true (List.all_eq_true.mp c z q), fun q => of_decide_eq_true (List.all_eq_true.mp c2 z q)⟩
theorem ansB_ch {L : List Rl} {own t : W} (hown : IsW own) (hc : ∀ x ∈ own, ch x ∈ L) (ht : t ∈ everyW own) : ansB L t = holdsB L t t := by
  have st := mem_every.mp ht
  unfold ansB
  have e : ((everyW t).all fun h => !holdsB L h t || decide (h = t)) = true := by
    rw [List.all_eq_true]
    intro h hh
    cases c : holdsB L h t with
    | false => rfl
    | true =>
      have sh := mem_every.mp hh
      have e : h = t := upX_one (List.Pairwise.sublist (sh.trans st) hown.up) (List.Pairwise.sublist st hown.up) fun x => ⟨fun q => sh.subset q, fun q => by
        have z := (holds_all.mp c).2 (ch x) (hc x (st.subset q))
        rcases (ch_stands x h t).mp z with z | z
        · exact z
        · exact absurd q z⟩
      rw [decide_eq_true e]
      rfl
  rw [e, Bool.and_true]
def conR : Rl := ([], [], tenW, [])
def tenS : List Rl := tenW.map ch
def fourB : W := ["a", "b", "c", "d"]
def barR : Rl := ([], [], fourB, [])
def rows64 : List Rl := fourB.flatMap fun x => (everyW fourB).map fun n => (([x], [], n, []) : Rl)
theorem isW_fourB : IsW fourB := ⟨by decide +kernel, by unfold fourB UpX; decide +kernel, by decide⟩
theorem isR_con : IsR conR := ⟨isW_nil, isW_nil, isW_ten, isW_nil⟩
theorem isR_bar : IsR barR := ⟨isW_nil, isW_nil, isW_fourB, isW_nil⟩
theorem isR_64 : ∀ r ∈ rows64, IsR r := fun r hr => by
  obtain ⟨x, hx, hr⟩ := List.mem_flatMap.mp hr
  obtain ⟨n, hn, rfl⟩ := List.mem_map.mp hr
  exact ⟨isW_one (isW_fourB.names x hx), isW_nil, isW_sub isW_fourB (mem_every.mp hn), isW_nil⟩
theorem isW_j : IsW ["j"] := isW_one (by decide +kernel)
theorem len64 : rows64.length = 64 := by decide +kernel
theorem nodup64 : rows64.Nodup := by decide +kernel
section
variable {S1 S2 SP : List Rl} (h1 : ∀ r, r ∈ S1 ↔ r ∈ tenS) (h2 : ∀ r, r ∈ S2 ↔ r ∈ tenS ++ [conR])
include h1 h2
omit h1 h2 in
theorem app_mem {A B LA LB : List Rl} (a : ∀ r, r ∈ A ↔ r ∈ LA) (b : ∀ r, r ∈ B ↔ r ∈ LB) : ∀ r, r ∈ A ++ B ↔ r ∈ LA ++ LB := fun r => by rw [List.mem_append, List.mem_append, a, b]
omit h1 h2 in
theorem ten_names {L : List Rl} (h : ∀ r ∈ tenS, r ∈ L) (c2 : ((namesL L).all fun z => decide (z ∈ tenW)) = true) : (tenW.all fun z => decide (z ∈ namesL L)) = true := by
  rw [List.all_eq_true]
  intro z hz
  refine decide_eq_true (List.mem_flatMap.mpr ⟨ch z, h _ (List.mem_map.mpr ⟨z, hz, rfl⟩), ?_⟩)
  unfold ownN parts ch
  simp
omit h1 h2 in
theorem tens_all {L : List Rl} (h : ∀ r ∈ tenS, r ∈ L) : ∀ x ∈ tenW, ch x ∈ L := fun x hx => h _ (List.mem_map.mpr ⟨x, hx, rfl⟩)
omit h1 h2 in
theorem mem_every_of {t own : W} (ht : IsW t) (ho : IsW own) (c : sub t own = true) : t ∈ everyW own := by
  rw [mem_every, ← mem_subs, parts_iff ho]
  exact ⟨ht, c⟩
omit h1 h2 in
theorem ten_ans {S L : List Rl} {t : W} (h : ∀ r, r ∈ S ↔ r ∈ L) (ht : IsW t) (c : ((namesL L).all fun z => decide (z ∈ tenW)) = true) (ct : (∀ r ∈ tenS, r ∈ L)) (cs : sub t tenW = true) : ansP S t = holdsB L t t := by
  rw [ansP_eval h isW_ten (ten_names ct c) c ht, cs, Bool.true_and, ansB_ch isW_ten (tens_all ct) (mem_every_of ht isW_ten cs)]
omit h1 h2 in
theorem app_nil_mem {A LA : List Rl} (a : ∀ r, r ∈ A ↔ r ∈ LA) : ∀ r, r ∈ A ++ [] ↔ r ∈ LA := fun r => by rw [List.append_nil, a]
omit h1 h2 in
theorem sum_names {A B : List Rl} (a : ∀ r, r ∈ A ++ B ↔ r ∈ tenS ++ (tenS ++ [conR]) ) : nmsW (A ++ B) = tenW := nmsW_eval (L := tenS ++ (tenS ++ [conR])) a isW_ten (ten_names (fun r hr => List.mem_append_left _ hr) (by decide +kernel)) (by decide +kernel)
theorem val1 : partB S1 S2 [] "rules" tenW = true := by
  have e1 : ansP (S1 ++ []) tenW = true := by
    rw [ten_ans (app_nil_mem h1) isW_ten (by decide +kernel) (fun _ h => h) (by decide +kernel)]
    decide +kernel
  have e2 : ansP (S2 ++ []) tenW = false := by
    rw [ten_ans (app_nil_mem h2) isW_ten (by decide +kernel) (fun _ h => List.mem_append_left _ h) (by decide +kernel)]
    decide +kernel
  have e3 : nmsW [] = [] := nmsW_of isW_nil fun z => Iff.rfl
  unfold partB
  rw [e1, e2, e3]
  rfl
theorem val2 : partB S1 S2 [fact "j"] "facts" tenW = true := by
  have e1 : ansP (S1 ++ [fact "j"]) tenW = true := by
    rw [ten_ans (app_mem h1 (fun _ => Iff.rfl)) isW_ten (by decide +kernel) (fun _ h => List.mem_append_left _ h) (by decide +kernel)]
    decide +kernel
  have e2 : ansP (S2 ++ [fact "j"]) tenW = false := by
    rw [ten_ans (app_mem h2 (fun _ => Iff.rfl)) isW_ten (by decide +kernel) (fun _ h => List.mem_append_left _ (List.mem_append_left _ h)) (by decide +kernel)]
    decide +kernel
  have e3 : nmsW [fact "j"] = (["j"] : W) := nmsW_eval (L := [fact "j"]) (fun _ => Iff.rfl) isW_j (by decide +kernel) (by decide +kernel)
  have e4 : nmsW (S1 ++ S2) = tenW := sum_names (app_mem h1 h2)
  have e5 : mayB "facts" [fact "j"] = true := by decide +kernel
  have e6 : sub ["j"] tenW = true := by decide +kernel
  unfold partB
  rw [e1, e2, e3, e4, e5, e6]
  rfl
theorem val3 : partB S2 S1 [fact "j"] "facts" ["j"] = false := by
  have e1 : ansP (S1 ++ [fact "j"]) ["j"] = true := by
    rw [ten_ans (app_mem h1 (fun _ => Iff.rfl)) isW_j (by decide +kernel) (fun _ h => List.mem_append_left _ h) (by decide +kernel)]
    decide +kernel
  have e2 : ansP (S2 ++ [fact "j"]) ["j"] = true := by
    rw [ten_ans (app_mem h2 (fun _ => Iff.rfl)) isW_j (by decide +kernel) (fun _ h => List.mem_append_left _ (List.mem_append_left _ h)) (by decide +kernel)]
    decide +kernel
  unfold partB
  rw [e1, e2]
  simp
end
theorem val4 {S SP : List Rl} (h : ∀ r, r ∈ SP ↔ r ∈ rows64) (hS : ∀ r, r ∈ S ↔ r ∈ [barR]) {w : W} (hw : IsW w) (cw : sub w fourB = true) : partB [] S SP "rules" w = (ansB rows64 w != ansB ([barR] ++ rows64) w) := by
  have c1 : (fourB.all fun z => decide (z ∈ namesL rows64)) = true := by decide +kernel
  have c2 : ((namesL rows64).all fun z => decide (z ∈ fourB)) = true := by decide +kernel
  have e1 : ansP ([] ++ SP) w = ansB rows64 w := by
    have := ansP_eval (W0 := fourB) (L := rows64) h isW_fourB c1 c2 hw
    rw [cw] at this
    exact this
  have hA : ∀ r, r ∈ S ++ SP ↔ r ∈ [barR] ++ rows64 := fun r => by rw [List.mem_append, List.mem_append, hS, h]
  have e2 : ansP (S ++ SP) w = ansB ([barR] ++ rows64) w := by
    rw [ansP_eval (W0 := fourB) hA isW_fourB (by decide +kernel) (by decide +kernel) hw, cw]
    rfl
  have e3 : nmsW SP = fourB := nmsW_eval h isW_fourB c1 c2
  have e4 : nmsW ([] ++ S) = fourB := nmsW_eval (L := [barR]) hS isW_fourB (by decide +kernel) (by decide +kernel)
  have e5 : mayB "rules" SP = true := rfl
  have e6 : sub fourB fourB = true := by decide +kernel
  unfold partB
  rw [e1, e2, e3, e4, e5, e6]
  rfl
theorem val4a : (ansB rows64 fourB != ansB ([barR] ++ rows64) fourB) = true := by decide +kernel
theorem val4b : (ansB rows64 [] != ansB ([barR] ++ rows64) []) = false := by decide +kernel
theorem val4c : (ansB rows64 ["a"] != ansB ([barR] ++ rows64) ["a"]) = false := by decide +kernel
/-! ### _law_great_right -/
theorem if_i {tt : TT} {t u : TS} {D : Ends} {σ : L2.St} {H : Hp} (h : tt σ H fun c H1 => if c = true then t { D with nx := u D } σ H1 else u D σ H1) : tSeq (tIfS tt t tNext) u D σ H := h
theorem dps_take {K : PySem.W.Frag} {H : Hp} : ∀ (n : Nat) {xs : List V} {ds : List PyData}, DpAll K H xs ds → DpAll K H (xs.take n) (ds.take n)
  | 0, _, _, _ => .nil
  | _ + 1, _, _, .nil => .nil
  | n + 1, _, _, .cons a b => .cons a (dps_take n b)
theorem dps_drop {K : PySem.W.Frag} {H : Hp} : ∀ (n : Nat) {xs : List V} {ds : List PyData}, DpAll K H xs ds → DpAll K H (xs.drop n) (ds.drop n)
  | 0, _, _, h => h
  | _ + 1, _, _, .nil => .nil
  | n + 1, _, _, .cons _ b => dps_drop n b
theorem cut40 {xs : List V} (h : xs.length = 64) : cutV xs none (some 40) = xs.take 40 := by
  unfold cutV
  rw [h]
  rfl
theorem cut30 {xs : List V} (h : xs.length = 64) : cutV xs (some 30) none = xs.drop 30 := by
  unfold cutV
  rw [h]
  show List.take 34 (List.drop 30 xs) = _
  exact List.take_of_length_le (by rw [List.length_drop, h]; decide)
theorem srt_nil {S : List Rl} (h : Srt S []) : S = [] := List.eq_nil_iff_forall_not_mem.mpr fun p hp => nomatch (h.mem p).mp hp
abbrev nGreat : List Str := ["some", "x", "lhs", "two", "part", "four", "rows", "bar", "told", "needs", "world"]
theorem scGreat : FnScope nGreat [] (defScope sGreat) := ⟨rfl, rfl, rfl, by decide +kernel, rfl, by decide +kernel, by decide +kernel⟩
def spGreat : Sp := fun vs H Q _ => vs = [] ∧ ∀ H', Same H H' → Q (.bl true) H'
section
variable {P : Program} {w : World} {K : PySem.W.Frag} {mg : Str → Option Value} {base : Heap} {f : Addr} {fd : FuncData} {k : Nat}
/-- a tuple of texts told -/
def Gw (K : PySem.W.Frag) (σ : L2.St) (H0 : Hp) (e : TE) (w : W) : Prop := ∀ H, Same H0 H → ∀ Q2 : VK, (∀ H' y, Same H H' → Dp K H' y (wd w) → Q2 y H') → e σ H Q2
theorem gw0 {σ : L2.St} {H0 : Hp} : Gw K σ H0 (tTup tNil) [] := fun H _ Q2 q => ⟨by show 0 ≤ sizeLine; decide, fun e he => q _ _ (same_new he _) (to_wd (ns := []) (SqT.of upd_same))⟩
theorem gw1 {σ : L2.St} {H0 : Hp} {i : Nat} {z : Str} (h : σ[i]? = some (some (.str z))) : Gw K σ H0 (tTup (tCons (tVar i) tNil)) [z] := fun H _ Q2 q => ⟨.str z, h, by show 1 ≤ sizeLine; decide, fun e he => q _ _ (same_new he _) (to_wd (ns := [z]) (SqT.of upd_same))⟩
theorem gwC {σ : L2.St} {H0 : Hp} {z : Str} : Gw K σ H0 (tTup (tCons (tC (.str z)) tNil)) [z] := fun H _ Q2 q => ⟨by show 1 ≤ sizeLine; decide, fun e he => q _ _ (same_new he _) (to_wd (ns := [z]) (SqT.of upd_same))⟩
theorem gwV {σ : L2.St} {H0 : Hp} {i : Nat} {x : V} {ns : W} (h : σ[i]? = some (some x)) (hd : Dp K H0 x (wd ns)) : Gw K σ H0 (tVar i) ns := fun H s Q2 q => ⟨x, h, q H x (fun _ _ e => e) (dp_same s _ _ hd)⟩
theorem row4 {σ : L2.St} {H0 : Hp} {e1 e2 e3 e4 : TE} {a b c d : W} {Q : VK} (h1 : Gw K σ H0 e1 a) (h2 : Gw K σ H0 e2 b) (h3 : Gw K σ H0 e3 c) (h4 : Gw K σ H0 e4 d) (q : ∀ H' y, Same H0 H' → Dp K H' y (rd (a, b, c, d)) → Q y H') : tTup (tCons e1 (tCons e2 (tCons e3 (tCons e4 tNil)))) σ H0 Q := by
  refine h1 H0 (fun _ _ e => e) _ fun H1 y1 s1 d1 => ?_
  refine h2 H1 s1 _ fun H2 y2 s2 d2 => ?_
  refine h3 H2 (s1.trans s2) _ fun H3 y3 s3 d3 => ?_
  refine h4 H3 (s1.trans (s2.trans s3)) _ fun H4 y4 s4 d4 => ⟨by show 4 ≤ sizeLine; decide, fun t ht => ?_⟩
  have s5 := same_new ht (.tup [y1, y2, y3, y4])
  exact q _ _ (s1.trans (s2.trans (s3.trans (s4.trans s5)))) (.tup (SqT.of upd_same) (.cons (dp_same (s2.trans (s3.trans (s4.trans s5))) _ _ d1) (.cons (dp_same (s3.trans (s4.trans s5)) _ _ d2) (.cons (dp_same (s4.trans s5) _ _ d3) (.cons (dp_same s5 _ _ d4) .nil)))))
theorem thv_of {C : Addr} {H : Hp} {bd : W} {S1 S2 SP : List Rl} {z : Str} {a : Addr} {x0 x1 : V} {ws : W} (h : SqT K H a [x0, x1]) (hP : PgAt K C H x0 SP) (hI : ∀ r ∈ SP, IsR r) (l1 : S1.length + SP.length < 76) (l2 : S2.length + SP.length < 76) (hb : ∀ z ∈ namesL SP, z ∈ bd) (hw : IsW ws) (hd : Dp K H x1 (wd ws)) : ThV K C bd S1 S2 z H (.ref a) (partB S1 S2 SP z ws) :=
  .inr (.inr ⟨a, x0, x1, rfl, h, .inr ⟨SP, hP, hI, l1, l2, hb, .inr ⟨ws, hw, hd, rfl⟩⟩⟩)
theorem partB_one {SF : List Rl} {r0 : Rl} (h : ∀ r, r ∈ SF ↔ r ∈ [r0]) (nd : SF.Nodup) (S S' : List Rl) (z : Str) (ws : W) : partB S S' SF z ws = partB S S' [r0] z ws := by
  have e : SF = [r0] := by
    cases SF with
    | nil => exact absurd ((h r0).mpr (List.mem_singleton.mpr rfl)) (by simp)
    | cons a l =>
      obtain rfl := List.mem_singleton.mp ((h a).mp (List.mem_cons_self ..))
      cases l with
      | nil => rfl
      | cons b l =>
        obtain rfl := List.mem_singleton.mp ((h b).mp (by simp))
        simp at nd
  rw [e]
theorem cp_ok {C CP CK : Addr} {H : Hp} {Q : VK} {E : XK} {x y t : V} {S1 S2 : List Rl} {z : Str} {bd : W} {b : Bool} (h1 : PgAt K C H x S1) (hI1 : ∀ r ∈ S1, IsR r) (h2 : PgAt K C H y S2) (hI2 : ∀ r ∈ S2, IsR r) (few : S1.length + S2.length < 76) (hz : z ∈ addW) (hb1 : ∀ z ∈ namesL S1, z ∈ bd) (hb2 : ∀ z ∈ namesL S2, z ∈ bd) (lb : bd.length ≤ 40) (ht : ThV K C bd S1 S2 z H t b) (q : ∀ H', Same H H' → Q (.bl b) H') : spCheckPart K C CP CK [x, y, t, .str z] H Q E :=
  ⟨x, y, t, .str z, rfl, .inr ⟨S1, S2, z, bd, b, h1, hI1, h2, hI2, few, rfl, hz, hb1, hb2, lb, ht, q⟩⟩
theorem ok_great {C CP CK fI fA fO pO fF pF fL f1 f2 : Addr} {mc : Value} {fd1 fd2 : FuncData} {ds1 : List Value} (F : Fun K "_law_great_right" "_law_great_right" sGreat f fd) (T : Bl mg) (mC : mg "Program" = some (.ref C)) (G : PgC K mg C) (c : Cls K C)
    (cr : CRead K C mc) (cm : CMet K C mc "of" pO fO) (GO : FnR P w K mg base CX0 (k + 1) fO (spOf K C)) (cmF : CMet K C mc "facts" pF fF) (GF : FnR P w K mg base CX0 (k + 1) fF (spFacts K C))
    (M : Mk K C fI) (GI : FnR P w K mg base CX0 k fI (spInit K C))
    (hsf : PySem.W.selfFirst K C = true) (hsA : PySem.W.findIn K (.ref C) (PySem.dunder Operator.Add.info.2) = some (some (.ref fA))) (hfA : PySem.W.isFn K (.ref fA) = true) (FA : FnR P w K mg base (L2.CX P w) (k + 1) fA (spAdd K C CP))
    (hsL : PySem.W.findIn K (.ref C) "__len__" = some (some (.ref fL))) (hfL : PySem.W.isFn K (.ref fL) = true) (FL : FnR P w K mg base CX0 k fL (spPLen K C))
    (G1 : FnOk P w K mg base (L2.CX P w) (k + 1) f1 fd1 ["one", "other", "thing", "added"] (spCheckPart K C CP CK)) (b1 : Binds K fd1 ["one", "other", "thing", "added"] []) (b1d : Binds K fd1 ["one", "other", "thing", "added"] ds1) (v1d : Vals [.str "rules"] ds1) (k1 : PySem.W.keepIn K (.ref f1) = true) (m1 : mg "check_parting" = some (.ref f1))
    (G2 : FnOk P w K mg base CX0 (k + 1) f2 fd2 ["names"] (spLawParts K)) (b2 : Binds K fd2 ["names"] []) (k2 : PySem.W.keepIn K (.ref f2) = true) (m2 : mg "_law_parts" = some (.ref f2)) :
    FnOk P w K mg base CX0 (k + 2) f fd [] spGreat := by
  refine F.ok scGreat (fun vs H Q E h => ?_) (fun cdv A outer s H vs Q E hr h => ?_)
  · obtain ⟨rfl, _⟩ := h
    rfl
  obtain ⟨rfl, q⟩ := h
  refine ⟨_, (pss_cons (ps_set (i := 0) scGreat.nd rfl (.inl rfl) (pe_callTy (T := "tuple") (cr_tupS rfl) (by rfl) T.tuple (by decide +kernel) (pa_cons pe_str pa_nil))) (pss_cons (ps_set (i := 2) scGreat.nd rfl (.inl rfl) (pe_cmeth (pe_glob (v := .ref C) (by rfl) mC rfl) cr cm GO hr pass0 (pa_cons (pe_lc (own := [("x", 1)]) (g := gName 1)  (by rfl) scGreat.nd (pi_tup (pv 0)) (blkOk_by (N := nGreat) (sc := defScope sGreat) (by decide +kernel)) (fun _ _ _ _ _ => (pg_name (i := 1) scGreat.nd rfl (Or.inl rfl))) (fun _ _ _ _ _ => pts_nil) (fun _ _ _ _ _ => (pe_tup (pa_cons (pe_tup (pa_cons (pv 1) pa_nil)) (pa_cons (pe_tup (pa_cons (pv 1) pa_nil)) (pa_cons (pe_tup pa_nil) (pa_cons (pe_tup pa_nil) pa_nil))))))) pa_nil))) (pss_cons (ps_set (i := 3) scGreat.nd rfl (.inl rfl) (pe_op (op_binP hsf hsA hfA FA hr passNo) (pv 2) (StX.pe_makeR M GI hr (by rfl) mC pass0 (pa_cons (pe_tup (pa_cons (pe_tup pa_nil) (pa_cons (pe_tup pa_nil) (pa_cons (pv 0) (pa_cons (pe_tup pa_nil) pa_nil))))) pa_nil)))) (pss_cons (ps_set (i := 4) scGreat.nd rfl (.inr rfl) (pe_cmeth (pe_glob (v := .ref C) (by rfl) mC rfl) cr cmF GF hr pass0 (pa_cons (pe_tup (pa_cons pe_str pa_nil)) pa_nil))) (pss_cons (ps_if (pt_cmpR  (op_neD hr.units) (pe_lst (pa_cons (pe_call G1 hr (by rfl) m1 k1 b1d v1d passNo (pa_cons (pv 2) (pa_cons (pv 3) (pa_cons (pe_tup (pa_cons (pe_makeR0 M GI hr (by rfl) mC pass0) (pa_cons (pv 0) pa_nil))) pa_nil)))) (pa_cons (pe_call G1 hr (by rfl) m1 k1 b1 .nil passNo (pa_cons (pv 2) (pa_cons (pv 3) (pa_cons (pe_tup (pa_cons (pv 4) (pa_cons (pv 0) pa_nil))) (pa_cons pe_str pa_nil))))) pa_nil))) (pe_lst (pa_cons pe_bl (pa_cons pe_bl pa_nil))) (nomark _)) pss_never pss_nil) (pss_cons (ps_if (pt_cmpR  op_notBl (pe_call G1 hr (by rfl) m1 k1 b1 .nil passNo (pa_cons (pv 3) (pa_cons (pv 2) (pa_cons (pe_tup (pa_cons (pv 4) (pa_cons (pe_tup (pa_cons pe_str pa_nil)) pa_nil))) (pa_cons pe_str pa_nil))))) pe_bl (nomark _)) pss_never pss_nil) (pss_cons (ps_set (i := 5) scGreat.nd rfl (.inl rfl) (pe_tup (pa_cons pe_str (pa_cons pe_str (pa_cons pe_str (pa_cons pe_str pa_nil)))))) (pss_cons (ps_set (i := 6) scGreat.nd rfl (.inl rfl) (pe_lst pa_nil)) (pss_cons (ps_for PassesOwn.never rfl (pi_tup (pv 5)) (pg_name (i := 1) scGreat.nd rfl (.inr rfl)) (pss_one (ps_set (i := 6) scGreat.nd rfl (.inl rfl) (pe_op op_cat (pv 6) (pe_lc (own := [("needs", 9)]) (g := gName 9) (te := tTup (tCons (tTup (tCons (tVar 1) tNil)) (tCons (tTup tNil) (tCons (tVar 9) (tCons (tTup tNil) tNil))))) (by rfl) scGreat.nd (pi_list (pe_call G2 hr (by rfl) m2 k2 b2 .nil pass0 (pa_cons (pv 5) pa_nil))) (blkOk_by (N := nGreat) (sc := defScope sGreat) (by decide +kernel)) (fun _ _ _ _ _ => (pg_name (i := 9) scGreat.nd rfl (Or.inl rfl))) (fun _ _ _ _ _ => pts_nil) (fun _ _ _ _ _ => (pe_tup (pa_cons (pe_tup (pa_cons (pv 1) pa_nil)) (pa_cons (pe_tup pa_nil) (pa_cons (pv 9) (pa_cons (pe_tup pa_nil) pa_nil))))))))))) (pss_cons (ps_set (i := 4) scGreat.nd rfl (.inr rfl) (pe_op (op_binP hsf hsA hfA FA hr passNo) (pe_cmeth (pe_glob (v := .ref C) (by rfl) mC rfl) cr cm GO hr pass0 (pa_cons (pe_slice sl_list (pv 6) po_none (po_some pe_int)) pa_nil)) (pe_cmeth (pe_glob (v := .ref C) (by rfl) mC rfl) cr cm GO hr pass0 (pa_cons (pe_slice sl_list (pv 6) (po_some pe_int) po_none) pa_nil)))) (pss_cons (ps_set (i := 7) scGreat.nd rfl (.inr rfl) (StX.pe_makeR M GI hr (by rfl) mC pass0 (pa_cons (pe_tup (pa_cons (pe_tup pa_nil) (pa_cons (pe_tup pa_nil) (pa_cons (pv 5) (pa_cons (pe_tup pa_nil) pa_nil))))) pa_nil))) (pss_cons (ps_setLc (i := 8) (own := [("world", 10)]) (g := gName 10) (te := tCall (spCheckPart K C CP CK) [.str "rules"] E0 (tCons (StX.tMakeR C (spInit K C) E0 tNil) (tCons (tVar 7) (tCons (tTup (tCons (tVar 4) (tCons (tVar 10) tNil))) tNil)))) (by rfl) scGreat.nd rfl rfl (sw_true rfl rfl rfl (by decide +kernel)) (pi_tup (pe_tup (pa_cons (pv 5) (pa_cons (pe_tup pa_nil) (pa_cons (pe_tup (pa_cons pe_str pa_nil)) pa_nil))))) (blkOk_by (N := nGreat) (sc := defScope sGreat) (by decide +kernel)) (fun _ _ _ _ _ => (pg_name (i := 10) scGreat.nd rfl (Or.inl rfl))) (fun _ _ _ _ _ => pts_nil) (fun _ _ _ _ _ => (pe_call G1 hr (by rfl) m1 k1 b1d v1d passNo (pa_cons (pe_makeR0 M GI hr (by rfl) mC pass0) (pa_cons (pv 7) (pa_cons (pe_tup (pa_cons (pv 4) (pa_cons (pv 10) pa_nil))) pa_nil)))))) (pss_one (ps_ret (pe_and (pe_cmpR  op_eq (pe_callB (call_lenP hsL hfL FL hr pass0) (by rfl) T.len PySem.boot_len (pa_cons (pv 4) pa_nil)) pe_int (nomark _)) (pe_one (pe_cmpR  (op_eqD hr.units) (pv 8) (pe_lst (pa_cons pe_bl (pa_cons pe_bl (pa_cons pe_bl pa_nil)))) (nomark _)))))))))))))))))), ?_⟩
  -- some
  refine asg_i ⟨_, rfl, by decide, fun t0 ht0 => ?_⟩
  have s0 := same_new ht0 (.tup (signs "abcdefghij"))
  have tens : signs "abcdefghij" = tenW.map V.str := by
    have : (("abcdefghij" : Str).cps.toList.map fun c => (⟨#[c]⟩ : Str)) = tenW := by decide +kernel
    rw [← this, List.map_map]
    rfl
  have hT0 : SqT K (upd H t0 (.tup (signs "abcdefghij"))) t0 (tenW.map V.str) := by
    rw [tens]
    exact SqT.of upd_same
  generalize upd H t0 (.tup (signs "abcdefghij")) = H1 at s0 hT0 ⊢
  -- lhs
  refine asg_i ?_
  refine ⟨rfl, .ref t0, rfl, t0, rfl, ⟨_, hT0⟩, fun D hD => ?_⟩
  refine lc_tup (xs := tenW.map V.str) (fun i H2 => Same H1 H2 ∧ ∃ zs, H2 D = some (.lst zs) ∧ DpAll K H2 zs ((tenW.take i).map fun x => rd (ch x))) ⟨same_new hD _, [], upd_same, .nil⟩ (fun i H2 _ h => same_tup h.1 hT0) (fun i x H2 hx h => ?_) (fun H2 h => ?_)
  · obtain ⟨sm, zs, hd, hzs⟩ := h
    obtain ⟨z, hz, rfl⟩ := map_at hx
    refine ⟨rfl, ?_⟩
    dsimp only [tYes]
    refine iteT ?_
    refine row4 (K := K) (gw1 (z := z) (by rfl)) (gw1 (z := z) (by rfl)) gw0 gw0 fun H3 u s3 hu => ?_
    have hd3 := s3 _ _ hd
    have m3 : Mut (H3 D) := by
      rw [hd3]
      exact True.intro
    have st := Stay.put m3 (.lst (zs ++ [u]))
    refine ⟨zs, hd3, small_line' ?_, same_put (sm.trans s3) hD, zs ++ [u], upd_same, ?_⟩
    · rw [dpAll_len hzs, List.length_map, List.length_take]
      show min i 10 ≤ 10000
      omega
    · rw [take_snoc hz, List.map_append]
      refine dps_app12 (.cons (st.rd hu) .nil) (((Stay.same s3).trans st).dpAll _ _ (okDs_all fun d hd => ?_) hzs)
      obtain ⟨z, _, rfl⟩ := List.mem_map.mp hd
      exact ok_rd _
  obtain ⟨sm1, zs, hd, hzs⟩ := h
  rw [List.length_map, List.take_length, show (fun x => rd (ch x)) = rd ∘ ch from rfl, ← List.map_map] at hzs
  have hIch : ∀ r ∈ tenS, IsR r := fun r hr => by
    obtain ⟨x, hx, rfl⟩ := List.mem_map.mp hr
    exact isR_ch (isW_ten.names x hx)
  refine ⟨D, zs, tenS, rfl, .inr (SqL.of hd), hzs, hIch, by decide, fun H3 v1 S1 s3 srt1 few1 hv1 => ?_⟩
  have m1S := srt1.mem
  have hI1 : ∀ r ∈ S1, IsR r := fun r hr => hIch r ((m1S r).mp hr)
  have l1 : S1.length ≤ 10 := srt_le srt1
  have s03 := s0.trans (sm1.trans s3)
  have hT3 := same_tup (sm1.trans s3) hT0
  have dT : ∀ {H' : Hp}, Same H3 H' → Dp K H' (.ref t0) (wd tenW) := fun s => to_wd (same_tup s hT3)
  -- two
  refine asg_i ⟨v1, rfl, ?_⟩
  refine make1_ok conR isR_con (fun Q2 q2 => row4 (K := K) gw0 gw0 (gwV rfl (dT (fun _ _ e => e))) gw0 fun H4 u s4 hu => q2 H4 u s4 hu) fun H4 v2' Sc s4 srtc fewc hvc => ?_
  have lc : Sc.length ≤ 1 := srt_le srtc
  have hIc : ∀ r ∈ Sc, IsR r := fun r hr => by
    rw [List.mem_singleton.mp ((srtc.mem r).mp hr)]
    exact isR_con
  refine bin_ok (hv1.same s4) hI1 hvc hIc (by omega) fun H5 v2 S2 s5 srt2 hI2 hv2 => ?_
  have l2 := srt_le srt2
  rw [List.length_append] at l2
  have m2S : ∀ r, r ∈ S2 ↔ r ∈ tenS ++ [conR] := fun r => by
    rw [srt2.mem, List.mem_append, List.mem_append, m1S, srtc.mem]
  have s35 := s4.trans s5
  have hv1' := hv1.same s35
  have nam1 : ∀ z ∈ namesL S1, z ∈ tenW := fun z hz => by
    have h := (namesL_congr m1S z).mp hz
    have c : ((namesL tenS).all fun z => decide (z ∈ tenW)) = true := by decide +kernel
    exact of_decide_eq_true (List.all_eq_true.mp c z h)
  have nam2 : ∀ z ∈ namesL S2, z ∈ tenW := fun z hz => by
    have h := (namesL_congr m2S z).mp hz
    have c : ((namesL (tenS ++ [conR])).all fun z => decide (z ∈ tenW)) = true := by decide +kernel
    exact of_decide_eq_true (List.all_eq_true.mp c z h)
  -- part
  refine asg_i ⟨rfl, by show 1 ≤ sizeLine; decide, fun ej hej => ?_⟩
  have sej := same_new hej (.tup [.str "j"])
  refine ⟨.ref ej, ["j"], rfl, to_wd (ns := ["j"]) (SqT.of upd_same), isW_j, fun H6 vf SF s6' srtF fewF hvF => ?_⟩
  have s6 := sej.trans s6'
  have mF : ∀ r, r ∈ SF ↔ r ∈ [fact "j"] := srtF.mem
  have lF : SF.length ≤ 1 := srt_le srtF
  have hIF : ∀ r ∈ SF, IsR r := fun r hr => by
    rw [List.mem_singleton.mp ((mF r).mp hr)]
    exact isR_fact (by decide +kernel)
  have eF : ∀ S S' z ws, partB S S' SF z ws = partB S S' [fact "j"] z ws := fun S S' z ws => partB_one mF srtF.nd S S' z ws
  have nF : ∀ z ∈ namesL SF, z ∈ tenW := fun z hz => by
    have h := (namesL_congr mF z).mp hz
    have c : ((namesL [fact "j"]).all fun z => decide (z ∈ tenW)) = true := by decide +kernel
    exact of_decide_eq_true (List.all_eq_true.mp c z h)
  have s36 := s35.trans s6
  -- the first two
  refine if_i ?_
  refine ⟨v1, rfl, v2, rfl, ?_⟩
  dsimp only [tCons, tTup]
  refine make0_ok fun H7 p0 S0 s7 srt0 few0 hp0 => ⟨.ref t0, rfl, by show 2 ≤ sizeLine; decide, fun t ht => ?_⟩
  have e0 : S0 = [] := srt_nil srt0
  subst e0
  have s8 := same_new ht (.tup [p0, .ref t0])
  have s38 := s36.trans (s7.trans s8)
  have th1 := thv_of (S1 := S1) (S2 := S2) (z := "rules") (bd := tenW) (SP := []) (ws := tenW) (SqT.of upd_same) (hp0.same s8) (fun _ z => nomatch z) (by show S1.length + 0 < 76; omega) (by show S2.length + 0 < 76; omega) (fun _ z => nomatch z) isW_ten (dT s38)
  rw [val1 m1S m2S] at th1
  dsimp only [tNil]
  refine cp_ok (z := "rules") (bd := tenW) (hv1.same s38) hI1 (hv2.same (s6.trans (s7.trans s8))) hI2 (by omega) (by decide) nam1 nam2 (by decide) th1 fun H9 s9 => ?_
  have s39 := s38.trans s9
  refine ⟨v1, rfl, v2, rfl, ⟨vf, rfl, .ref t0, rfl, by show 2 ≤ sizeLine; decide, fun u hu => ?_⟩⟩
  have sA := same_new hu (.tup [vf, .ref t0])
  have s3A := s39.trans sA
  have s6A := s7.trans (s8.trans (s9.trans sA))
  have th2 := thv_of (S1 := S1) (S2 := S2) (z := "facts") (bd := tenW) (SP := SF) (ws := tenW) (SqT.of upd_same) (hvF.same s6A) hIF (by omega) (by omega) nF isW_ten (dT s3A)
  rw [eF, val2 m1S m2S] at th2
  dsimp only [tCons, tC, tNil]
  refine cp_ok (z := "facts") (bd := tenW) (hv1.same s3A) hI1 (hv2.same (s6.trans s6A)) hI2 (by omega) (by decide) nam1 nam2 (by decide) th2 fun HB sB => ?_
  have s6B := s6A.trans sB
  refine ⟨by show 2 ≤ sizeLine; decide, fun q1 hq1 => ⟨by show 2 ≤ sizeLine; decide, fun q2 hq2 => ?_⟩⟩
  have sC := same_new hq1 (.lst [.bl true, .bl true])
  have sD := same_new hq2 (.lst [.bl true, .bl true])
  have s6D := s6B.trans (sC.trans sD)
  refine ⟨.list [.bool true, .bool true], .list [.bool true, .bool true], .lst (SqL.of (sD _ _ upd_same)) (.cons (.bl _) (.cons (.bl _) .nil)), .lst (SqL.of upd_same) (.cons (.bl _) (.cons (.bl _) .nil)), by decide +kernel, by decide +kernel, false, congrArg V.bl (by decide +kernel), iteF ?_⟩
  generalize upd (upd HB q1 (.lst [.bl true, .bl true])) q2 (.lst [.bl true, .bl true]) = HE at s6D sD ⊢
  have s3E := s36.trans s6D
  -- the other way round
  refine if_i ?_
  refine ⟨v2, rfl, v1, rfl, ⟨vf, rfl, by show 1 ≤ sizeLine; decide, fun uj huj => ⟨by show 2 ≤ sizeLine; decide, fun u3 hu3 => ?_⟩⟩⟩
  have sF1 := same_new huj (.tup [.str "j"])
  have sF2 := same_new hu3 (.tup [vf, .ref uj])
  have s6F := s6D.trans (sF1.trans sF2)
  have th3 := thv_of (S1 := S2) (S2 := S1) (z := "facts") (bd := tenW) (SP := SF) (ws := ["j"]) (SqT.of upd_same) (hvF.same s6F) hIF (by omega) (by omega) nF isW_j (to_wd (ns := ["j"]) (same_tup sF2 (SqT.of upd_same)))
  rw [eF, val3 m1S m2S] at th3
  dsimp only [tCons, tC, tNil]
  refine cp_ok (z := "facts") (bd := tenW) (hv2.same (s6.trans s6F)) hI2 (hv1.same (s36.trans s6F)) hI1 (by omega) (by decide) nam2 nam1 (by decide) th3 fun HG sG => ?_
  refine ⟨false, false, rfl, rfl, false, rfl, iteF ?_⟩
  have s3G := s36.trans (s6F.trans sG)
  have s0G := s03.trans s3G
  -- four
  refine asg_i ⟨by show 4 ≤ sizeLine; decide, fun t4 ht4 => ?_⟩
  have sH := same_new ht4 (.tup [.str "a", .str "b", .str "c", .str "d"])
  have hT4 : SqT K (upd HG t4 (.tup [.str "a", .str "b", .str "c", .str "d"])) t4 (fourB.map V.str) := SqT.of upd_same
  refine asg_i ⟨by show 0 ≤ sizeLine; decide, fun l0 hl0 => ?_⟩
  have sI := same_new hl0 (.lst [])
  have hT4' := same_tup sI hT4
  have s0I := s0G.trans (sH.trans sI)
  have hl0' : (upd (upd HG t4 (.tup [.str "a", .str "b", .str "c", .str "d"])) l0 (.lst [])) l0 = some (.lst []) := upd_same
  generalize upd (upd HG t4 (.tup [.str "a", .str "b", .str "c", .str "d"])) l0 (.lst []) = HI at s0I hT4' hl0' ⊢
  have d4 : ∀ {H' : Hp}, Same HI H' → Dp K H' (.ref t4) (wd fourB) := fun s => to_wd (same_tup s hT4')
  let rowsOf : W → List Rl := fun l => l.flatMap fun x => (everyW fourB).map fun n => (([x], [], n, []) : Rl)
  have e4 : (everyW fourB).length = 16 := by decide +kernel
  have lenR : ∀ l : W, (rowsOf l).length = 16 * l.length := fun l => by
    induction l with
    | nil => rfl
    | cons a l ih =>
      show (((everyW fourB).map fun n => (([a], [], n, []) : Rl)) ++ rowsOf l).length = _
      rw [List.length_append, List.length_map, ih, e4, List.length_cons]
      omega
  refine ⟨.ref t4, rfl, t4, rfl, ⟨_, hT4'⟩, for_tup (xs := fourB.map V.str) (fun i σ H2 => ∃ rl y1, σ = [some (.ref t0), y1, some v1, some v2, some vf, some (.ref t4), some (.ref rl), none, none, none, none] ∧ Same HI H2 ∧ RL K H2 rl (rowsOf (fourB.take i)))
    ⟨l0, none, rfl, fun _ _ e => e, [], hl0', .nil⟩ (fun i σ H2 _ hI => by obtain ⟨_, _, _, sm, _⟩ := hI; exact same_tup sm hT4') (fun i x σ H2 hxi hI => ?_) (fun σ H2 hI => ?_)⟩
  · obtain ⟨rl, y1, rfl, sm, hRL⟩ := hI
    obtain ⟨z, hz, rfl⟩ := map_at hxi
    have il : i < 4 := (List.getElem?_eq_some_iff.mp hz).1
    refine ⟨.ref rl, rfl, .ref t4, rfl, .ref t4, fourB, rfl, d4 sm, by decide, isW_fourB, fun H3 p3 s3' _ hW3 => ?_⟩
    obtain ⟨ys, hy, hys⟩ := hW3
    refine ⟨p3, rfl, ⟨_, SqL.of hy⟩, fun DD hDD => ?_⟩
    refine lc_list (xs := ys) (fun j H4 => Same H3 H4 ∧ ∃ zs, H4 DD = some (.lst zs) ∧ DpAll K H4 zs (((everyW fourB).take j).map fun n => rd ([z], [], n, []))) ⟨same_new hDD _, [], upd_same, .nil⟩ (fun j H4 _ h => SqL.of (h.1 _ _ hy)) (fun j y H4 hyj h => ?_) (fun H4 h => ?_)
    · obtain ⟨sm4, zs4, hd4, hzs4⟩ := h
      obtain ⟨dn, hdn, hyd⟩ := dpAll_at' hys hyj
      obtain ⟨n, hn, rfl⟩ := map_at hdn
      refine ⟨rfl, ?_⟩
      dsimp only [tYes]
      refine iteT ?_
      refine row4 (K := K) (gw1 (z := z) (by rfl)) gw0 (gwV (x := y) (ns := n) (by rfl) (dp_same sm4 _ _ hyd)) gw0 fun H5 u s5' hu => ?_
      have hd5 := s5' _ _ hd4
      have m5 : Mut (H5 DD) := by
        rw [hd5]
        exact True.intro
      have st := Stay.put m5 (.lst (zs4 ++ [u]))
      have jl : j < 16 := by
        rw [← e4]
        exact (List.getElem?_eq_some_iff.mp hn).1
      refine ⟨zs4, hd5, small_line' ?_, same_put (sm4.trans s5') hDD, zs4 ++ [u], upd_same, ?_⟩
      · rw [dpAll_len hzs4, List.length_map, List.length_take]
        omega
      · rw [take_snoc hn, List.map_append]
        refine dps_app12 (.cons (st.rd hu) .nil) (((Stay.same s5').trans st).dpAll _ _ (okDs_all fun d hd => ?_) hzs4)
        obtain ⟨z, _, rfl⟩ := List.mem_map.mp hd
        exact ok_rd _
    · obtain ⟨sm4, zs4, hd4, hzs4⟩ := h
      have yl : ys.length = (everyW fourB).length := by rw [dpAll_len hys, List.length_map]
      rw [yl, List.take_length] at hzs4
      have zl4 : zs4.length = 16 := by rw [dpAll_len hzs4, List.length_map, e4]
      have s24 := s3'.trans sm4
      obtain ⟨xr, hxr, hxs⟩ := hRL.same s24
      have xl : xr.length ≤ 64 := by
        rw [dpAll_len hxs, List.length_map, lenR, List.length_take]
        omega
      refine ⟨rl, DD, xr, zs4, rfl, rfl, hxr, hd4, small_line (by omega), fun p5 hp5 => ?_⟩
      have s5' := same_new hp5 (.lst (xr ++ zs4))
      refine ⟨p5, _, rfl, sm.trans (s24.trans s5'), _, upd_same, ?_⟩
      have er : rowsOf (fourB.take (i + 1)) = rowsOf (fourB.take i) ++ (everyW fourB).map fun n => (([z], [], n, []) : Rl) := by
        show (fourB.take (i + 1)).flatMap _ = _
        rw [take_snoc hz, List.flatMap_append]
        simp only [List.flatMap_cons, List.flatMap_nil, List.append_nil]
        rfl
      rw [er, List.map_append, List.map_map]
      exact dps_app12 (dpAll_same s5' _ _ hzs4) (dpAll_same s5' _ _ hxs)
  obtain ⟨rl, y1, rfl, sm, hRL⟩ := hI
  rw [List.length_map, List.take_length] at hRL
  have eR : rowsOf fourB = rows64 := rfl
  rw [eR] at hRL
  obtain ⟨xs, hx, hxs⟩ := hRL
  have xl : xs.length = 64 := by rw [dpAll_len hxs, List.length_map, len64]
  have hI64 := isR_64
  -- part
  dsimp only
  refine asg_i ?_
  refine ⟨rfl, .ref rl, rfl, 40, rfl, rl, xs, rfl, SqL.of hx, fun pa hpa => ?_⟩
  rw [cut40 xl]
  have sJ := same_new hpa (.lst (xs.take 40))
  have dA : DpAll K (upd H2 pa (.lst (xs.take 40))) (xs.take 40) ((rows64.take 40).map rd) := by
    rw [List.map_take]
    exact dps_take 40 (dpAll_same sJ _ _ hxs)
  refine ⟨pa, xs.take 40, rows64.take 40, rfl, .inr (SqL.of upd_same), dA, fun r hr => hI64 r (List.mem_of_mem_take hr), by rw [List.length_take, len64]; decide, fun H3' va SA sK srtA fewA hvA => ?_⟩
  have lA : SA.length ≤ 40 := by
    have := srt_le srtA
    rw [List.length_take, len64] at this
    exact this
  have sJK := sJ.trans sK
  refine ⟨rfl, .ref rl, rfl, 30, rfl, rl, xs, rfl, SqL.of (sJK _ _ hx), fun pb hpb => ?_⟩
  rw [cut30 xl]
  have sL := same_new hpb (.lst (xs.drop 30))
  have dB : DpAll K (upd H3' pb (.lst (xs.drop 30))) (xs.drop 30) ((rows64.drop 30).map rd) := by
    rw [List.map_drop]
    exact dps_drop 30 (dpAll_same (sJK.trans sL) _ _ hxs)
  refine ⟨pb, xs.drop 30, rows64.drop 30, rfl, .inr (SqL.of upd_same), dB, fun r hr => hI64 r (List.mem_of_mem_drop hr), by rw [List.length_drop, len64]; decide, fun H4 vb SB sM srtB fewB hvB => ?_⟩
  have lB : SB.length ≤ 34 := by
    have := srt_le srtB
    rw [List.length_drop, len64] at this
    exact this
  have sLM := sL.trans sM
  have hIA : ∀ r ∈ SA, IsR r := fun r hr => hI64 r (List.mem_of_mem_take ((srtA.mem r).mp hr))
  have hIB : ∀ r ∈ SB, IsR r := fun r hr => hI64 r (List.mem_of_mem_drop ((srtB.mem r).mp hr))
  refine bin_ok (hvA.same sLM) hIA hvB hIB (by omega) fun H5 vp SP sN srtP hIP hvP => ?_
  have mP : ∀ r, r ∈ SP ↔ r ∈ rows64 := fun r => by
    rw [srtP.mem, List.mem_append, srtA.mem, srtB.mem]
    constructor
    · rintro (h | h)
      · exact List.mem_of_mem_take h
      · exact List.mem_of_mem_drop h
    · intro h
      rw [← List.take_append_drop 40 rows64, List.mem_append] at h
      refine h.imp id fun h => ?_
      rw [show (40 : Nat) = 30 + 10 from rfl, ← List.drop_drop] at h
      exact List.mem_of_mem_drop h
  have lP : SP.length = 64 := by
    have a1 : SP.length ≤ rows64.length := len_le srtP.nd fun z hz => (mP z).mp hz
    have a2 : rows64.length ≤ SP.length := len_le nodup64 fun z hz => (mP z).mpr hz
    rw [len64] at a1 a2
    omega
  have sI5 := sm.trans (sJK.trans (sLM.trans sN))
  -- bar
  refine asg_i ?_
  refine make1_ok barR isR_bar (fun Q2 q2 => row4 (K := K) gw0 gw0 (gwV (by rfl) (d4 sI5)) gw0 fun H6 u s6 hu => q2 H6 u s6 hu) fun H6 vb2 Sb s6' srtb fewb hvb => ?_
  have lb : Sb.length ≤ 1 := srt_le srtb
  have hIb : ∀ r ∈ Sb, IsR r := fun r hr => by
    rw [List.mem_singleton.mp ((srtb.mem r).mp hr)]
    exact isR_bar
  have nP : ∀ z ∈ namesL SP, z ∈ fourB := fun z hz => by
    have h := (namesL_congr mP z).mp hz
    have c : ((namesL rows64).all fun z => decide (z ∈ fourB)) = true := by decide +kernel
    exact of_decide_eq_true (List.all_eq_true.mp c z h)
  have nb : ∀ z ∈ namesL Sb, z ∈ fourB := fun z hz => by
    have h := (namesL_congr srtb.mem z).mp hz
    have c : ((namesL [barR]).all fun z => decide (z ∈ fourB)) = true := by decide +kernel
    exact of_decide_eq_true (List.all_eq_true.mp c z h)
  have sI6 := sI5.trans s6'
  -- told
  refine asg_i ?_
  refine ⟨.ref t4, rfl, by show 0 ≤ sizeLine; decide, fun tE htE => ⟨by show 1 ≤ sizeLine; decide, fun tA htA => ⟨by show 3 ≤ sizeLine; decide, fun tt htt => ?_⟩⟩⟩
  have sE := same_new htE (.tup [])
  have sA2 := same_new htA (.tup [.str "a"])
  have sT := same_new htt (.tup [.ref t4, .ref tE, .ref tA])
  have s6T := sE.trans (sA2.trans sT)
  have hTE : SqT K (upd (upd (upd H6 tE (.tup [])) tA (.tup [.str "a"])) tt (.tup [.ref t4, .ref tE, .ref tA])) tE [] := same_tup (sA2.trans sT) (SqT.of upd_same)
  have hTA : SqT K (upd (upd (upd H6 tE (.tup [])) tA (.tup [.str "a"])) tt (.tup [.ref t4, .ref tE, .ref tA])) tA [.str "a"] := same_tup sT (SqT.of upd_same)
  have hTT : SqT K (upd (upd (upd H6 tE (.tup [])) tA (.tup [.str "a"])) tt (.tup [.ref t4, .ref tE, .ref tA])) tt [.ref t4, .ref tE, .ref tA] := SqT.of upd_same
  generalize upd (upd (upd H6 tE (.tup [])) tA (.tup [.str "a"])) tt (.tup [.ref t4, .ref tE, .ref tA]) = H7 at s6T hTE hTA hTT ⊢
  have sI7 := sI6.trans s6T
  have hvP7 := hvP.same (s6'.trans s6T)
  have hvb7 := hvb.same s6T
  refine ⟨tt, rfl, ⟨_, hTT⟩, fun DD hDD => ?_⟩
  let bs : List Bool := [true, false, false]
  refine lc_tup (xs := [.ref t4, .ref tE, .ref tA]) (fun i H8 => Same H7 H8 ∧ H8 DD = some (.lst ((bs.take i).map V.bl))) ⟨same_new hDD _, upd_same⟩ (fun i H8 _ h => same_tup h.1 hTT) (fun i x H8 hx h => ?_) (fun H8 h => ?_)
  · obtain ⟨sm8, hd8⟩ := h
    have il : i < 3 := (List.getElem?_eq_some_iff.mp hx).1
    have wv : ∃ ws b, IsW ws ∧ sub ws fourB = true ∧ Dp K H8 x (wd ws) ∧ bs[i]? = some b ∧ (ansB rows64 ws != ansB ([barR] ++ rows64) ws) = b := by
      have : i = 0 ∨ i = 1 ∨ i = 2 := by omega
      rcases this with rfl | rfl | rfl
      · cases hx
        exact ⟨fourB, true, isW_fourB, by decide +kernel, d4 (sI7.trans sm8), rfl, val4a⟩
      · cases hx
        exact ⟨[], false, isW_nil, by decide +kernel, to_wd (ns := []) (same_tup sm8 hTE), rfl, val4b⟩
      · cases hx
        exact ⟨["a"], false, isW_one (by decide +kernel), by decide +kernel, to_wd (ns := ["a"]) (same_tup sm8 hTA), rfl, val4c⟩
    obtain ⟨ws, b, hws, hsub, hxd, hb, hv⟩ := wv
    refine ⟨rfl, ?_⟩
    dsimp only [tYes]
    refine iteT ?_
    dsimp only [tCall, tCons]
    refine make0_ok fun H9 p0 S0 s9 srt0' few0' hp0' => ?_
    obtain rfl := srt_nil srt0'
    refine ⟨vb2, rfl, vp, rfl, x, rfl, by show 2 ≤ sizeLine; decide, fun u hu => ?_⟩
    have sU := same_new hu (.tup [vp, x])
    have s8U := s9.trans sU
    have th := thv_of (S1 := []) (S2 := Sb) (z := "rules") (bd := fourB) (SP := SP) (ws := ws) (SqT.of (K := K) upd_same) (hvP7.same (sm8.trans s8U)) hIP (by show 0 + SP.length < 76; omega) (by omega) nP hws (dp_same s8U _ _ hxd)
    rw [val4 mP srtb.mem hws hsub, hv] at th
    dsimp only [tNil]
    refine cp_ok (z := "rules") (bd := fourB) (hp0'.same sU) (fun _ z => nomatch z) (hvb7.same (sm8.trans s8U)) hIb (by show 0 + Sb.length < 76; omega) (by decide) (fun _ z => nomatch z) nb (by decide) th fun HV sV => ?_
    have sAll := s8U.trans sV
    refine ⟨_, sAll _ _ hd8, small_line' ?_, same_put (sm8.trans sAll) hDD, ?_⟩
    · rw [List.length_map, List.length_take]
      show min i 3 ≤ 10000
      omega
    · rw [upd_same, take_snoc hb, List.map_append]
      rfl
  obtain ⟨sm8, hd8⟩ := h
  -- the end
  obtain ⟨ap, dxp, tp, ysp, rfl, g1, g2, g3⟩ := id (hvP7.same sm8)
  refine ⟨.ref ap, rfl, ap, dxp, _, rfl, g1, .ref ap, SP, rfl, hvP7.same sm8, ((SP.length : Nat) : Int), rfl, by omega, by omega, ?_⟩
  rw [lP]
  refine ⟨rfl, true, rfl, iteT ?_⟩
  refine ⟨.ref DD, rfl, by show 3 ≤ sizeLine; decide, fun q9 hq9 => ?_⟩
  have sZ := same_new hq9 (.lst [.bl true, .bl false, .bl false])
  refine ⟨.list [.bool true, .bool false, .bool false], .list [.bool true, .bool false, .bool false], .lst (SqL.of (sZ _ _ hd8)) (.cons (.bl _) (.cons (.bl _) (.cons (.bl _) .nil))), .lst (SqL.of upd_same) (.cons (.bl _) (.cons (.bl _) (.cons (.bl _) .nil))), by decide +kernel, by decide +kernel, ?_⟩
  rw [show PyData.eqv (.list [.bool true, .bool false, .bool false]) (.list [.bool true, .bool false, .bool false]) = true by decide +kernel]
  exact q _ (s0I.trans (sI7.trans (sm8.trans sZ)))
end
end Rw
namespace Rw
open PySem PySem.Spec PyProof.Rows L2 ClX
/-! ### law -/
abbrev nLaw : List Str := ["script", "at", "purse", "rows", "made", "turn", "item", "added", "due", "odd", "word", "way"]
theorem scLaw : FnScope nLaw ["script"] (defScope sLaw) := ⟨rfl, rfl, rfl, by decide +kernel, rfl, by decide +kernel, by decide +kernel⟩
theorem sameV_flat {x : V} (h : flatB x = true) : SameV x x := .inl ⟨rfl, h⟩
theorem sameV_ref {a : Addr} : SameV (.ref a) (.ref a) := .inr ⟨a, rfl, rfl⟩
theorem paired_two {K : PySem.W.Frag} {H : Hp} {s : Str} {x : V} (h : SameV x x) : Paired (EqL1 K H) [.str s, x] [.str s, x] := .cons (.inl (sameV_flat rfl)) (.cons (.inl h) .nil)
/-- the order of the two programs, and their rules' order, is nothing to the answer -/
theorem own_ex {S : List Rl} (hb : ∀ z ∈ namesL S, z ∈ fourW) (h4 : IsW fourW) : ∃ own, IsW own ∧ ∀ z, z ∈ own ↔ z ∈ namesL S :=
  ⟨fourW.filter fun z => decide (z ∈ namesL S), isW_sub h4 List.filter_sublist, fun z => by
    rw [List.mem_filter, decide_eq_true_iff]
    exact ⟨fun h => h.2, fun h => ⟨hb z h, h⟩⟩⟩
theorem isW_fourW : IsW fourW := ⟨by decide +kernel, by unfold fourW UpX; decide +kernel, by decide⟩
theorem names_app {S L : List Rl} (h1 : ∀ z ∈ namesL S, z ∈ fourW) (h2 : ∀ z ∈ namesL L, z ∈ fourW) : ∀ z ∈ namesL (S ++ L), z ∈ fourW := fun z hz => ((namesL_app S L z).mp hz).elim (h1 z) (h2 z)
theorem partB_congr {S1 S2 L1 L2 SP : List Rl} {z : Str} {ws : W} (h1 : ∀ r, r ∈ S1 ↔ r ∈ L1) (h2 : ∀ r, r ∈ S2 ↔ r ∈ L2) (b1 : ∀ z ∈ namesL L1, z ∈ fourW) (b2 : ∀ z ∈ namesL L2, z ∈ fourW) (bp : ∀ z ∈ namesL SP, z ∈ fourW) (hw : IsW ws) : partB S1 S2 SP z ws = partB L1 L2 SP z ws := by
  have app : ∀ {A B C D : List Rl}, (∀ r, r ∈ A ↔ r ∈ B) → (∀ r, r ∈ C ↔ r ∈ D) → ∀ r, r ∈ A ++ C ↔ r ∈ B ++ D := fun a b r => by rw [List.mem_append, List.mem_append, a, b]
  have a1 := app h1 (fun r => Iff.rfl (a := r ∈ SP))
  have a2 := app h2 (fun r => Iff.rfl (a := r ∈ SP))
  obtain ⟨o1, i1, m1⟩ := own_ex (names_app b1 bp) isW_fourW
  obtain ⟨o2, i2, m2⟩ := own_ex (names_app b2 bp) isW_fourW
  have e1 : ansP (S1 ++ SP) ws = ansP (L1 ++ SP) ws := (ansP_congr (fun r => (a1 r).symm) hw i1 m1).symm
  have e2 : ansP (S2 ++ SP) ws = ansP (L2 ++ SP) ws := (ansP_congr (fun r => (a2 r).symm) hw i2 m2).symm
  unfold partB
  rw [e1, e2, nmsW_congr (app h1 h2)]
theorem partB_swap {S1 S2 SP : List Rl} {z : Str} {ws : W} : partB S2 S1 SP z ws = partB S1 S2 SP z ws := by
  have e : nmsW (S2 ++ S1) = nmsW (S1 ++ S2) := nmsW_congr fun r => by rw [List.mem_append, List.mem_append, Or.comm]
  unfold partB
  rw [e]
  cases ansP (S2 ++ SP) ws <;> cases ansP (S1 ++ SP) ws <;> rfl
theorem valI_congr {K : PySem.W.Frag} {C : Addr} {H : Hp} {t : V} {o : Option (List Rl × W)} {S1 S2 L1 L2 : List Rl} {z : Str} (hT : ItV K C H t o) (h1 : ∀ r, r ∈ S1 ↔ r ∈ L1) (h2 : ∀ r, r ∈ S2 ↔ r ∈ L2) (b1 : ∀ z ∈ namesL L1, z ∈ fourW) (b2 : ∀ z ∈ namesL L2, z ∈ fourW) : valI S1 S2 z o = valI L1 L2 z o := by
  cases o with
  | none => rfl
  | some p =>
    obtain ⟨SP, ws⟩ := p
    obtain ⟨a, x0, x1, _, _, _, _, _, h6, h7, _, _⟩ := hT
    exact partB_congr h1 h2 b1 b2 h6 h7
theorem valI_swap {o : Option (List Rl × W)} {S1 S2 : List Rl} {z : Str} : valI S2 S1 z o = valI S1 S2 z o := by
  cases o with
  | none => rfl
  | some p =>
    obtain ⟨SP, ws⟩ := p
    exact partB_swap
/-- what check_parting called by three names binds -/
def kwCP (_ zs : List V) : List V := zs ++ [.str "rules"]
section
variable {P : Program} {w : World} {K : PySem.W.Frag} {mg : Str → Option Value} {base : Heap} {f : Addr} {fd : FuncData} {k : Nat}
theorem ne_str (b : Bool) : V.bl (!decide (V.str (boolS b) = V.str (boolS b))) = V.bl false := by rw [decide_eq_true rfl]; rfl
def spLaw (K : PySem.W.Frag) : Sp := fun vs H Q _ => ∃ (a : Addr) (ns : List Int), vs = [.ref a] ∧ SqL K H a (ns.map V.int) ∧ ns.length ≤ 63 ∧ ∀ H', Q (.bl true) H'
theorem ok_law {C CP CK pO fO fI pR fR f1 f2 f3 f4 f5 f6 f7 f8 : Addr} {mc : Value} {fdR fd1 fd2 fd3 fd4 fd5 fd6 fd7 fd8 : FuncData} {g6 : List Value → List Value → List Value} (F : Fun K "law" "law" sLaw f fd) (T : Bl mg) (mC : mg "Program" = some (.ref C)) (cC : Cls K C) (cr : CRead K C mc) (cm : CMet K C mc "of" pO fO) (GO : FnR P w K mg base CX0 (k + 1) fO (spOf K C))
    (M : Mk K C fI) (GI : FnR P w K mg base CX0 k fI (spInit K C))
    (hpR : PropOf K C "rules" pR fR) (GR : FnOk P w K mg base CX0 k fR fdR ["self"] (spRules K C)) (bR : Binds K fdR ["self"] [])
    (G1 : FnOk P w K mg base CX0 (k + 1) f1 fd1 ["script", "at"] (spLawPurse K)) (b1 : Binds K fd1 ["script", "at"] []) (k1 : PySem.W.keepIn K (.ref f1) = true) (m1 : mg "_law_purse" = some (.ref f1))
    (G2 : FnOk P w K mg base CX0 (k + 1) f2 fd2 ["purse", "out_of"] spLawDraw) (b2 : Binds K fd2 ["purse", "out_of"] []) (k2 : PySem.W.keepIn K (.ref f2) = true) (m2 : mg "_law_draw" = some (.ref f2))
    (G3 : FnOk P w K mg base CX0 (k + 1) f3 fd3 ["purse", "names", "most"] (spLawRows K)) (b3 : Binds K fd3 ["purse", "names", "most"] []) (k3 : PySem.W.keepIn K (.ref f3) = true) (m3 : mg "_law_rows" = some (.ref f3))
    (G4 : FnOk P w K mg base CX0 (k + 1) f4 fd4 ["purse", "lhs", "two"] (spLawThing K C)) (b4 : Binds K fd4 ["purse", "lhs", "two"] []) (k4 : PySem.W.keepIn K (.ref f4) = true) (m4 : mg "_law_thing" = some (.ref f4))
    (G5 : FnOk P w K mg base CX0 (k + 1) f5 fd5 ["rows", "item", "added"] (spLawDue K C)) (b5 : Binds K fd5 ["rows", "item", "added"] []) (k5 : PySem.W.keepIn K (.ref f5) = true) (m5 : mg "_law_due" = some (.ref f5))
    (G6 : FnOk P w K mg base (L2.CX P w) (k + 1) f6 fd6 ["one", "other", "thing", "added"] (spCheckPart K C CP CK)) (b6 : Binds K fd6 ["one", "other", "thing", "added"] []) (kb6 : KBn K fd6 ["one", "other", "thing", "added"] 0 ["one", "other", "thing"] g6 kwCP) (k6 : PySem.W.keepIn K (.ref f6) = true) (m6 : mg "check_parting" = some (.ref f6))
    (G7 : FnOk P w K mg base CX0 (k + 1) f7 fd7 ["way", "lhs", "two", "added"] (spLawAsked K C)) (b7 : Binds K fd7 ["way", "lhs", "two", "added"] []) (k7 : PySem.W.keepIn K (.ref f7) = true) (m7 : mg "_law_asked" = some (.ref f7))
    (G8 : FnOk P w K mg base CX0 (k + 1) f8 fd8 [] spGreat) (b8 : Binds K fd8 [] []) (k8 : PySem.W.keepIn K (.ref f8) = true) (m8 : mg "_law_great_right" = some (.ref f8)) :
    FnOk P w K mg base CX0 (k + 2) f fd ["script"] (spLaw K) := by
  refine F.ok scLaw (fun vs H Q E h => ?_) (fun cdv A outer s H vs Q E hr h => ?_)
  · obtain ⟨a, ns, rfl, _⟩ := h
    rfl
  obtain ⟨a, ns, rfl, hS, hl, q⟩ := h
  refine ⟨_, (pss_cons (ps_for PassesOwn.never rfl (pi_range1 rfl T.range (pa_cons (pe_op op_add pe_int (pe_callB (call_min2 rfl) (by rfl) T.min (by decide +kernel) (pa_cons pe_int (pa_cons (pe_callB call_len_seq (by rfl) T.len PySem.boot_len (pa_cons (pv 0) pa_nil)) pa_nil)))) pa_nil)) (pg_name (i := 1) scLaw.nd rfl (.inl rfl)) (pss_cons (ps_set (i := 2) scLaw.nd rfl (.inl rfl) (pe_call G1 hr (by rfl) m1 k1 b1 .nil pass0 (pa_cons (pv 0) (pa_cons (pv 1) pa_nil)))) (pss_cons (ps_set (i := 3) scLaw.nd rfl (.inl rfl) (pe_lst (pa_cons (pe_call G3 hr (by rfl) m3 k3 b3 .nil pass0 (pa_cons (pv 2) (pa_cons (pe_tup (pa_cons pe_str (pa_cons pe_str (pa_cons pe_str pa_nil)))) (pa_cons pe_int pa_nil)))) (pa_cons (pe_call G3 hr (by rfl) m3 k3 b3 .nil pass0 (pa_cons (pv 2) (pa_cons (pe_tup (pa_cons pe_str (pa_cons pe_str (pa_cons pe_str pa_nil)))) (pa_cons pe_int pa_nil)))) pa_nil)))) (pss_cons (ps_set (i := 4) scLaw.nd rfl (.inl rfl) (pe_lst (pa_cons (pe_cmeth (pe_glob (v := .ref C) (by rfl) mC rfl) cr cm GO hr pass0 (pa_cons (pe_ix ix_list (pv 3) pe_int (fun _ _ => rfl)) pa_nil)) (pa_cons (pe_cmeth (pe_glob (v := .ref C) (by rfl) mC rfl) cr cm GO hr pass0 (pa_cons (pe_ix ix_list (pv 3) pe_int (fun _ _ => rfl)) pa_nil)) pa_nil)))) (pss_cons (ps_for PassesOwn.never rfl (pi_range1 rfl T.range (pa_cons pe_int pa_nil)) (pg_name (i := 5) scLaw.nd rfl (.inl rfl)) (pss_cons (ps_set (i := 6) scLaw.nd rfl (.inl rfl) (pe_call G4 hr (by rfl) m4 k4 b4 .nil pass0 (pa_cons (pv 2) (pa_cons (pe_ix ix_list (pv 4) pe_int (fun _ _ => rfl)) (pa_cons (pe_ix ix_list (pv 4) pe_int (fun _ _ => rfl)) pa_nil))))) (pss_cons (ps_set (i := 7) scLaw.nd rfl (.inl rfl) (pe_ix ix_list (pe_lst (pa_cons pe_str (pa_cons pe_str (pa_cons pe_str pa_nil)))) (pe_call G2 hr (by rfl) m2 k2 b2 .nil pass0 (pa_cons (pv 2) (pa_cons pe_int pa_nil))) (fun _ _ => rfl))) (pss_cons (ps_set (i := 8) scLaw.nd rfl (.inl rfl) (pe_callTy (T := "str") call_str_bl (by rfl) T.str (by decide +kernel) (pa_cons (pe_call G5 hr (by rfl) m5 k5 b5 .nil pass0 (pa_cons (pv 3) (pa_cons (pv 6) (pa_cons (pv 7) pa_nil)))) pa_nil))) (pss_cons (ps_if (pt_cmpR  op_ne (pe_callTy (T := "str") call_str_bl (by rfl) T.str (by decide +kernel) (pa_cons (pe_call G6 hr (by rfl) m6 k6 b6 .nil passNo (pa_cons (pe_ix ix_list (pv 4) pe_int (fun _ _ => rfl)) (pa_cons (pe_ix ix_list (pv 4) pe_int (fun _ _ => rfl)) (pa_cons (pv 6) (pa_cons (pv 7) pa_nil))))) pa_nil)) (pv 8) (nomark _)) pss_never pss_nil) (pss_one (ps_if (PW.pt (pw_and (pt_cmpR  op_eq (pv 7) pe_str (nomark _)) (pw_and1 (pt_cmpR  op_ne (pe_callTy (T := "str") call_str_bl (by rfl) T.str (by decide +kernel) (pa_cons (pe_callK0 G6 hr (by rfl) m6 k6 kb6 passNo (pk_cons (pe_ix ix_list (pv 4) pe_int (fun _ _ => rfl)) (pk_cons (pe_ix ix_list (pv 4) pe_int (fun _ _ => rfl)) (pk_cons (pv 6) pk_nil))) (by rfl) (by rfl) (by rfl) (by rfl) (by rfl)) pa_nil)) (pv 8) (nomark _))))) pss_never pss_nil))))))) (pss_mid (ps_set (i := 9) scLaw.nd rfl (.inl rfl) (pe_ix ix_list (pe_lst (pa_cons pe_non (pa_cons (pe_ix ix_list (pv 3) pe_int (fun _ _ => rfl)) (pa_cons (pe_prop (pe_ix ix_list (pv 4) pe_int (fun _ _ => rfl)) cC hpR GR hr bR .nil pass0 rfl) (pa_cons pe_str (pa_cons pe_int (pa_cons (pe_tup pa_nil) (pa_cons (pe_tup (pa_cons (pe_tup (pa_cons pe_str pa_nil)) (pa_cons (pe_tup pa_nil) (pa_cons (pe_tup pa_nil) (pa_cons (pe_tup pa_nil) pa_nil))))) pa_nil)))))))) (pe_call G2 hr (by rfl) m2 k2 b2 .nil pass0 (pa_cons (pv 2) (pa_cons pe_int pa_nil))) (fun _ _ => rfl))) (pss_cons (ps_set (i := 10) scLaw.nd rfl (.inl rfl) (pe_lst (pa_cons pe_non (pa_cons pe_str (pa_cons pe_str (pa_cons pe_int (pa_cons (pe_tup (pa_cons pe_str pa_nil)) (pa_cons (pe_lst (pa_cons pe_str pa_nil)) (pa_cons pe_str (pa_cons pe_bl (pa_cons pe_str (pa_cons pe_str (pa_cons pe_str (pa_cons pe_str (pa_cons pe_dnewK (pa_cons pe_int pa_nil)))))))))))))))) (pss_mid (ps_set (i := 10) scLaw.nd rfl (.inl rfl) (pe_ix ix_list (pe_op op_cat (pv 10) (pe_lst (pa_cons pe_str (pa_cons pe_str (pa_cons pe_str (pa_cons pe_str pa_nil)))))) (pe_call G2 hr (by rfl) m2 k2 b2 .nil pass0 (pa_cons (pv 2) (pa_cons pe_int pa_nil))) (fun _ _ => rfl))) (pss_one (ps_for PassesOwn.never rfl (pi_range1 rfl T.range (pa_cons pe_int pa_nil)) (pg_name (i := 11) scLaw.nd rfl (.inl rfl)) (pss_cons (ps_if (pt_cmpR  (op_neI hr.units) (pe_call G7 hr (by rfl) m7 k7 b7 .nil pass0 (pa_cons (pv 11) (pa_cons (pv 9) (pa_cons pe_non (pa_cons (pv 10) pa_nil))))) (pe_lst (pa_cons pe_str (pa_cons (pv 9) pa_nil))) (nomark _)) pss_never pss_nil) (pss_cons (ps_if (pt_cmpR  (op_neI hr.units) (pe_call G7 hr (by rfl) m7 k7 b7 .nil pass0 (pa_cons (pv 11) (pa_cons (pe_ix ix_list (pv 4) pe_int (fun _ _ => rfl)) (pa_cons (pv 9) (pa_cons (pv 10) pa_nil))))) (pe_lst (pa_cons pe_str (pa_cons (pv 9) pa_nil))) (nomark _)) pss_never pss_nil) (pss_one (ps_if (pt_cmpR  (op_neI hr.units) (pe_call G7 hr (by rfl) m7 k7 b7 .nil pass0 (pa_cons (pv 11) (pa_cons (pe_ix ix_list (pv 4) pe_int (fun _ _ => rfl)) (pa_cons (pe_ix ix_list (pv 4) pe_int (fun _ _ => rfl)) (pa_cons (pv 10) pa_nil))))) (pe_lst (pa_cons pe_str (pa_cons (pv 10) pa_nil))) (nomark _)) pss_never pss_nil)))))))))))))) (pss_cons (ps_if (pt_not (pt_val (pe_call0 G8 hr (by rfl) m8 k8 b8 .nil pass0))) pss_never pss_nil) (pss_one (ps_ret (pe_cmpR  (op_eqD hr.units) (pe_call G7 hr (by rfl) m7 k7 b7 .nil pass0 (pa_cons pe_int (pa_cons (pe_makeR0 M GI hr (by rfl) mC pass0) (pa_cons (pe_makeR0 M GI hr (by rfl) mC pass0) (pa_cons pe_str pa_nil))))) (pe_lst (pa_cons pe_str (pa_cons pe_bl pa_nil))) (nomark _)))))), ?_⟩
  obtain ⟨n0, hn0, hn1⟩ : ∃ n0 : Nat, (1 + (if ((ns.map V.int).length : Int) < 4 then ((ns.map V.int).length : Int) else 4)) = (n0 : Int) ∧ n0 ≤ 5 := by
    rw [List.length_map]
    by_cases c : (ns.length : Int) < 4
    · rw [if_pos c]
      exact ⟨1 + ns.length, by omega, by omega⟩
    · rw [if_neg c]
      exact ⟨5, by omega, by omega⟩
  refine ⟨.ref a, rfl, a, _, rfl, .inl hS, 4, ((ns.map V.int).length : Int), rfl, _, _, rfl, rfl, _, rfl, ?_⟩
  rw [hn0]
  refine ⟨by omega, by omega, ?_⟩
  refine for_range (n := (n0 : Int).toNat) (fun i σ H1 => (∃ y1 y2 y3 y4 y5 y6 y7 y8 y9 y10 y11, σ = [some (.ref a), y1, y2, y3, y4, y5, y6, y7, y8, y9, y10, y11]) ∧ Same H H1) ⟨⟨_, _, _, _, _, _, _, _, _, _, _, rfl⟩, fun _ _ e => e⟩ (fun i σ HA hi hI => ?_) (fun σ H1 hI => ?_)
  · obtain ⟨⟨y1, y2, y3, y4, y5, y6, y7, y8, y9, y10, y11, rfl⟩, smA⟩ := hI
    have hi6 : i < 5 := by omega
    -- the purse
    refine ⟨.ref a, rfl, .int (0 + (i : Int)), rfl, a, ns, i, ?_, smA.seq hS, hl, by omega, fun HB p sAB hpn hP0 => ?_⟩
    · rw [Int.zero_add]
      rfl
    have up : ∀ H', Bar p HB H' → Same H H' := fun H' b c u e => b c u (fun z => by
      have := smA _ _ e
      rw [z, hpn] at this
      cases this) (sAB _ _ (smA _ _ e))
    have rowsOf : ∀ {H0 : Hp} {c : Int} {Q2 : VK} {E2 : XK} {t0 : Addr}, H0 t0 = none → Pur H0 p c → c ≤ 600000 → (∀ H' aR L, Bar p H0 H' → Pur H' p (c + 15000) → aR ≠ p → RL K H' aR L → L.length ≤ 4 → (∀ r ∈ L, IsR r) → (∀ z ∈ namesL L, z ∈ threeW) → Q2 (.ref aR) H') → spLawRows K [.ref p, .ref t0, .int 4] (upd H0 t0 (.tup [.str "a", .str "ab", .str "b"])) Q2 E2 := fun {H0 c Q2 E2 t0} ht0 hP hc q2 => by
      have s0 := same_new ht0 (.tup [.str "a", .str "ab", .str "b"])
      refine ⟨p, t0, c, 4, threeW, rfl, by decide, by decide, hP.same s0, by omega, SqT.of upd_same, by decide, isW_three, fun HC aR L barR puR naR hRL fewL hRO => ?_⟩
      exact q2 HC aR L ((Bar.same s0).trans barR) puR ((hP.same s0).some naR) hRL (by omega) (fun r hr => (hRO r hr).1) fun z hz => by
        obtain ⟨r, hr, hz⟩ := List.mem_flatMap.mp hz
        obtain ⟨t, ht, hz⟩ := List.mem_flatMap.mp hz
        exact (hRO r hr).2 t ht z hz
    have four3 : ∀ {L : List Rl}, (∀ z ∈ namesL L, z ∈ threeW) → ∀ z ∈ namesL L, z ∈ fourW := fun h z hz => three_four z (h z hz)
    -- the rows
    refine ⟨.ref p, rfl, by show 3 ≤ sizeLine; decide, fun t0 ht0 => ?_⟩
    dsimp only [tCons, tC, tNil]
    refine rowsOf ht0 hP0 (by decide) fun HC a1 L1 barC puC na1 hR1 n1 hI1 nm1 => ?_
    refine ⟨.ref p, rfl, by show 3 ≤ sizeLine; decide, fun t1 ht1 => ?_⟩
    dsimp only [tCons, tC, tNil]
    refine rowsOf ht1 puC (by decide) fun HD a2 L2 barD puD na2 hR2 n2 hI2 nm2 => ?_
    refine ⟨by show 2 ≤ sizeLine; decide, fun rl hrl => ?_⟩
    have sE := same_new hrl (.lst [.ref a1, .ref a2])
    have nrl := puD.some hrl
    have puE := puD.same sE
    have barE : Bar p HB (upd HD rl (.lst [.ref a1, .ref a2])) := barC.trans (barD.trans (.same sE))
    have rlBar : ∀ {H1 H2 : Hp} {l : Addr} {L : List Rl} {c : Int}, RL K H1 l L → l ≠ p → Pur H1 p c → Bar p H1 H2 → RL K H2 l L := fun h n pu b => by
      obtain ⟨ys, h1, h2⟩ := h
      exact ⟨ys, b _ _ n h1, (b.stay pu.mut).dpAll _ _ (okDs_rd _) h2⟩
    have hR1E := (rlBar hR1 na1 puC barD).same sE
    have hR2E := hR2.same sE
    have hrlE : (upd HD rl (.lst [.ref a1, .ref a2])) rl = some (.lst [.ref a1, .ref a2]) := upd_same
    generalize upd HD rl (.lst [.ref a1, .ref a2]) = HE at sE puE barE hR1E hR2E hrlE ⊢
    -- the programs
    obtain ⟨ys1, hy1, hys1⟩ := id hR1E
    refine ⟨rfl, .ref rl, rfl, rl, _, 0, .ref a1, rfl, rfl, SqL.of hrlE, rfl, a1, ys1, L1, rfl, .inr (SqL.of hy1), hys1, hI1, by omega, fun HF v1 S1 sF srt1 few1 hv1 => ?_⟩
    obtain ⟨ys2, hy2, hys2⟩ := id (hR2E.same sF)
    refine ⟨rfl, .ref rl, rfl, rl, _, 1, .ref a2, rfl, rfl, SqL.of (sF _ _ hrlE), rfl, a2, ys2, L2, rfl, .inr (SqL.of hy2), hys2, hI2, by omega, fun HG v2 S2 sG srt2 few2 hv2 => ?_⟩
    refine ⟨by show 2 ≤ sizeLine; decide, fun ml hml => ?_⟩
    have sM := same_new hml (.lst [v1, v2])
    have sEM := sF.trans (sG.trans sM)
    have nml : ml ≠ p := (puE.same (sF.trans sG)).some hml
    have hmlM : (upd HG ml (.lst [v1, v2])) ml = some (.lst [v1, v2]) := upd_same
    have hv1M := hv1.same (sG.trans sM)
    have hv2M := hv2.same sM
    generalize upd HG ml (.lst [v1, v2]) = HM at sM sEM hmlM hv1M hv2M ⊢
    have puM := puE.same sEM
    have barM : Bar p HB HM := barE.trans (.same sEM)
    have hrlM := sEM _ _ hrlE
    have hR1M := hR1E.same sEM
    have hR2M := hR2E.same sEM
    have l1 : S1.length ≤ 4 := by have := srt_le srt1; omega
    have l2 : S2.length ≤ 4 := by have := srt_le srt2; omega
    have hIS1 : ∀ r ∈ S1, IsR r := fun r hr => hI1 r ((srt1.mem r).mp hr)
    have hIS2 : ∀ r ∈ S2, IsR r := fun r hr => hI2 r ((srt2.mem r).mp hr)
    have nS1 : ∀ z ∈ namesL S1, z ∈ threeW := fun z hz => nm1 z ((namesL_congr srt1.mem z).mp hz)
    have nS2 : ∀ z ∈ namesL S2, z ∈ threeW := fun z hz => nm2 z ((namesL_congr srt2.mem z).mp hz)
    -- the turns
    refine ⟨8, rfl, by decide, by decide, ?_⟩
    refine for_range (n := 8) (fun j σ H1 => (∃ y5 y6 y7 y8, σ = [some (.ref a), some (.int (0 + (i : Int))), some (.ref p), some (.ref rl), some (.ref ml), y5, y6, y7, y8, y9, y10, y11]) ∧ Bar p HM H1 ∧ Pur H1 p (150000 + 20010 * (j : Int))) ⟨⟨_, _, _, _, rfl⟩, .same fun _ _ e => e, puM.le (by omega)⟩ (fun j σ H1 hj h => ?_) (fun σ HN h => ?_)
    · obtain ⟨⟨y5, y6, y7, y8, rfl⟩, bar1, pu1⟩ := h
      have hj8 : j < 8 := hj
      have hv1a := hv1M.bar bar1 puM
      have hv2a := hv2M.bar bar1 puM
      have hmla := SqL.of (K := K) (bar1 _ _ nml hmlM)
      -- the item
      refine ⟨.ref p, rfl, .ref ml, rfl, ml, _, 0, v1, rfl, rfl, hmla, rfl, .ref ml, rfl, ml, _, 1, v2, rfl, rfl, hmla, rfl, ?_⟩
      refine ⟨p, _, v1, v2, S1, S2, rfl, pu1, by omega, hv1a, hIS1, by omega, nS1, hv2a, hIS2, by omega, nS2, fun H2 t o bar2 pu2 hT => ?_⟩
      -- the kind
      refine ⟨by show 3 ≤ sizeLine; decide, fun la hla => ?_⟩
      have s3 := same_new hla (.lst [.str "rules", .str "facts", .str "nothing"])
      have nla := pu2.some hla
      refine ⟨.ref p, rfl, p, 3, _, rfl, pu2.same s3, by omega, by decide, by decide, fun r us r0 r1 pu3 => ?_⟩
      obtain ⟨m, rfl⟩ := Int.eq_ofNat_of_zero_le r0
      have b3 : Bar p (upd H2 la (.lst [.str "rules", .str "facts", .str "nothing"])) (upd (upd H2 la (.lst [.str "rules", .str "facts", .str "nothing"])) p (.lst us)) := .draw
      have pick : ∃ z ∈ addW, ([V.str "rules", .str "facts", .str "nothing"] : List V)[m]? = some (.str z) := by
        have : m = 0 ∨ m = 1 ∨ m = 2 := by omega
        rcases this with rfl | rfl | rfl
        · exact ⟨"rules", by decide, rfl⟩
        · exact ⟨"facts", by decide, rfl⟩
        · exact ⟨"nothing", by decide, rfl⟩
      obtain ⟨z, hz, hxm⟩ := pick
      refine ⟨la, _, m, .str z, rfl, rfl, SqL.of (b3 _ _ nla upd_same), atI_nat hxm, ?_⟩
      have bar23 := (Bar.same s3).trans b3
      have barM3 := bar1.trans (bar2.trans bar23)
      have hT3 := hT _ bar23
      generalize upd (upd H2 la (.lst [.str "rules", .str "facts", .str "nothing"])) p (.lst us) = H3 at b3 pu3 bar23 barM3 hT3 ⊢
      -- what is due
      have hrl3 := SqL.of (K := K) (barM3 _ _ nrl hrlM)
      have hml3 := SqL.of (K := K) (barM3 _ _ nml hmlM)
      have hv13 := hv1M.bar barM3 puM
      have hv23 := hv2M.bar barM3 puM
      refine ⟨.ref rl, rfl, t, rfl, .str z, rfl, rl, a1, a2, t, z, L1, L2, o, rfl, hz, hrl3, rlBar hR1M na1 puM barM3, rlBar hR2M na2 puM barM3, hI1, hI2, by omega, by omega, four3 nm1, four3 nm2, hT3, fun H4 s4 => ?_⟩
      refine ⟨valI L1 L2 z o, rfl, ?_⟩
      have hml4 := s4.seq hml3
      have e1 : valI S1 S2 z o = valI L1 L2 z o := valI_congr hT3 srt1.mem srt2.mem (four3 nm1) (four3 nm2)
      have e2 : valI S2 S1 z o = valI L1 L2 z o := valI_swap.trans e1
      -- told
      have th := (hT3.same s4).thv (S1 := S1) (S2 := S2) (z := z) (by omega) (by omega)
      rw [e1] at th
      refine ⟨.ref ml, rfl, ml, _, 0, v1, rfl, rfl, hml4, rfl, .ref ml, rfl, ml, _, 1, v2, rfl, rfl, hml4, rfl, t, rfl, .str z, rfl, ?_⟩
      dsimp only [tNil]
      refine cp_ok (z := z) (bd := fourW) (hv13.same s4) hIS1 (hv23.same s4) hIS2 (by omega) hz (four3 nS1) (four3 nS2) (by decide) th fun H5 s5 => ?_
      refine ⟨_, rfl, _, rfl, rfl, false, ne_str _, iteF ?_⟩
      -- the other way round
      have s45 := s4.trans s5
      refine ⟨.str z, rfl, rfl, decide (z = "rules"), congrArg V.bl (decV _ _), ?_⟩
      have fin : ∀ H6, Same H3 H6 → ((∃ y5 y6 y7 y8, ([some (.ref a), some (.int (0 + (i : Int))), some (.ref p), some (.ref rl), some (.ref ml), some (.int (0 + (j : Int))), some t, some (.str z), some (.str (boolS (valI L1 L2 z o))), y9, y10, y11] : List (Option V)) = [some (.ref a), some (.int (0 + (i : Int))), some (.ref p), some (.ref rl), some (.ref ml), y5, y6, y7, y8, y9, y10, y11]) ∧ Bar p HM H6 ∧ Pur H6 p (150000 + 20010 * ((j + 1 : Nat) : Int))) := fun H6 s6 => ⟨⟨_, _, _, _, rfl⟩, barM3.trans (.same s6), (pu3.same s6).le (by omega)⟩
      by_cases cz : z = "rules"
      · rw [decide_eq_true cz]
        subst cz
        refine iteT ?_
        have hml5 := s45.seq hml3
        have th2 := (hT3.same s45).thv (S1 := S2) (S2 := S1) (z := "rules") (by omega) (by omega)
        rw [e2] at th2
        refine ⟨.ref ml, rfl, ml, _, 1, v2, rfl, rfl, hml5, rfl, .ref ml, rfl, ml, _, 0, v1, rfl, rfl, hml5, rfl, t, rfl, rfl, ?_⟩
        refine cp_ok (z := "rules") (bd := fourW) (hv23.same s45) hIS2 (hv13.same s45) hIS1 (by omega) (by decide) (four3 nS2) (four3 nS1) (by decide) th2 fun H6 s6 => ?_
        refine ⟨_, rfl, _, rfl, rfl, false, ne_str _, iteF ?_⟩
        exact fin H6 (s45.trans s6)
      · rw [decide_eq_false cz]
        exact iteF (iteF (fin H5 s45))
    obtain ⟨⟨y5, y6, y7, y8, rfl⟩, barN, puN⟩ := h
    have puN : Pur HN p 400000 := puN.le (by omega)
    have hrlN := SqL.of (K := K) (barN _ _ nrl hrlM)
    have hmlN := barN _ _ nml hmlM
    have hv1N := hv1M.bar barN puM
    have hv2N := hv2M.bar barN puM
    have hR1N := rlBar hR1M na1 puM barN
    obtain ⟨ysR, hR, hysR⟩ := id hR1N
    -- odd
    refine ⟨fun σ H5 => ∃ x d, σ = [some (.ref a), some (.int (0 + (i : Int))), some (.ref p), some (.ref rl), some (.ref ml), y5, y6, y7, y8, some x, y10, y11] ∧ Bar p HN H5 ∧ Pur H5 p 410000 ∧ (∀ H', Bar p H5 H' → Dp K H' x d) ∧ SameV x x, ?_, ?_⟩
    · obtain ⟨av, dxv, tv, ysv, rfl, i1, i2, i3⟩ := id hv1N
      refine ⟨.ref rl, rfl, rl, _, 0, .ref a1, rfl, rfl, hrlN, rfl, .ref ml, rfl, ml, _, 0, .ref av, rfl, rfl, SqL.of hmlN, rfl, av, dxv, _, rfl, i1, .ref av, S1, rfl, hv1N, fun tR ysS htR hysS => ?_⟩
      refine ⟨by show 0 ≤ sizeLine; decide, fun u0 h0 => ?_⟩
      have v0 := same_new h0 (.tup [])
      refine ⟨by show 1 ≤ sizeLine; decide, fun u1 h1 => ?_⟩
      have v1' := same_new h1 (.tup [.str "a"])
      refine ⟨by show 0 ≤ sizeLine; decide, fun u2 h2 => ?_⟩
      have v2' := same_new h2 (.tup [])
      refine ⟨by show 0 ≤ sizeLine; decide, fun u3 h3 => ?_⟩
      have v3 := same_new h3 (.tup [])
      refine ⟨by show 0 ≤ sizeLine; decide, fun u4 h4 => ?_⟩
      have v4 := same_new h4 (.tup [])
      refine ⟨by show 4 ≤ sizeLine; decide, fun u5 h5 => ?_⟩
      have v5 := same_new h5 (.tup [.ref u1, .ref u2, .ref u3, .ref u4])
      refine ⟨by show 7 ≤ sizeLine; decide, fun u6 h6 => ?_⟩
      have v6 := same_new h6 (.lst [.non, .ref a1, .ref tR, .str "a.", .int 0, .ref u0, .ref u5])
      have v56 := v5.trans v6
      have v46 := v4.trans v56
      have v36 := v3.trans v46
      have v26 := v2'.trans v36
      have v16 := v1'.trans v26
      have v06 := v0.trans v16
      have pu6 := puN.same v06
      have n6 : u6 ≠ p := (puN.same (v0.trans (v1'.trans (v2'.trans (v3.trans (v4.trans v5)))))).some h6
      have k0 : SqT K (upd (upd (upd (upd (upd (upd (upd HN u0 (.tup [])) u1 (.tup [.str "a"])) u2 (.tup [])) u3 (.tup [])) u4 (.tup [])) u5 (.tup [.ref u1, .ref u2, .ref u3, .ref u4])) u6 (.lst [.non, .ref a1, .ref tR, .str "a.", .int 0, .ref u0, .ref u5])) u0 [] := SqT.of (v16 _ _ upd_same)
      have k1' := SqT.of (K := K) (v26 _ _ upd_same)
      have k2' := SqT.of (K := K) (v36 _ _ upd_same)
      have k3' := SqT.of (K := K) (v46 _ _ upd_same)
      have k4' := SqT.of (K := K) (v56 _ _ upd_same)
      have k5' := SqT.of (K := K) (v6 _ _ upd_same)
      have hl6 : (upd (upd (upd (upd (upd (upd (upd HN u0 (.tup [])) u1 (.tup [.str "a"])) u2 (.tup [])) u3 (.tup [])) u4 (.tup [])) u5 (.tup [.ref u1, .ref u2, .ref u3, .ref u4])) u6 (.lst [.non, .ref a1, .ref tR, .str "a.", .int 0, .ref u0, .ref u5])) u6 = _ := upd_same
      generalize upd (upd (upd (upd (upd (upd (upd HN u0 (.tup [])) u1 (.tup [.str "a"])) u2 (.tup [])) u3 (.tup [])) u4 (.tup [])) u5 (.tup [.ref u1, .ref u2, .ref u3, .ref u4])) u6 (.lst [.non, .ref a1, .ref tR, .str "a.", .int 0, .ref u0, .ref u5]) = H6 at v06 pu6 k0 k1' k2' k3' k4' k5' hl6 ⊢
      refine ⟨.ref p, rfl, p, 7, _, rfl, pu6, by omega, by decide, by decide, fun r us r0 r1 pu7 => ?_⟩
      obtain ⟨m, rfl⟩ := Int.eq_ofNat_of_zero_le r0
      have lt : m < 7 := by omega
      have pick : ∃ x d, ([V.non, .ref a1, .ref tR, .str "a.", .int 0, .ref u0, .ref u5] : List V)[m]? = some x ∧ (∀ H', Bar p H6 H' → Dp K H' x d) ∧ SameV x x := by
        rcases m with _ | _ | _ | _ | _ | _ | _ | m
        · exact ⟨_, .none, rfl, fun H' _ => .non, sameV_flat rfl⟩
        · refine ⟨_, .list (L1.map rd), rfl, fun H' b => ?_, sameV_ref⟩
          have b' := (Bar.same (p := p) v06).trans b
          exact .lst (SqL.of (b' _ _ na1 hR)) ((b'.stay puN.mut).dpAll _ _ (okDs_rd L1) hysR)
        · refine ⟨_, .tuple (S1.map rd), rfl, fun H' b => ?_, sameV_ref⟩
          have b' := (Bar.same (p := p) v06).trans b
          exact .tup ((b'.stay puN.mut).seq htR) ((b'.stay puN.mut).dpAll _ _ (okDs_rd S1) hysS)
        · exact ⟨_, .str "a.", rfl, fun H' _ => .str _, sameV_flat rfl⟩
        · exact ⟨_, .int 0, rfl, fun H' _ => .int _, sameV_flat rfl⟩
        · exact ⟨_, wd [], rfl, fun H' b => to_wd (ns := []) ((b.stay pu6.mut).seq k0), sameV_ref⟩
        · refine ⟨_, rd (["a"], [], [], []), rfl, fun H' b => ?_, sameV_ref⟩
          have st := b.stay pu6.mut
          exact .tup (st.seq k5') (.cons (to_wd (ns := ["a"]) (st.seq k1')) (.cons (to_wd (ns := []) (st.seq k2')) (.cons (to_wd (ns := []) (st.seq k3')) (.cons (to_wd (ns := []) (st.seq k4')) .nil))))
        · omega
      obtain ⟨x, d, hx, hxd, sx⟩ := pick
      refine ⟨u6, _, m, x, rfl, rfl, SqL.of (Bar.draw (p := p) (o := .lst us) _ _ n6 hl6), atI_nat hx, ?_⟩
      exact ⟨x, d, rfl, (Bar.same v06).trans .draw, pu7.le (by omega), fun H' b => hxd H' (Bar.draw.trans b), sx⟩
    rintro σ H5 ⟨x, d, rfl, bar5, pu5, hxd, sx⟩
    -- word
    refine ⟨by show 1 ≤ sizeLine; decide, fun u1 h1 => ?_⟩
    have w1 := same_new h1 (.tup [.str "rules"])
    refine ⟨by show 1 ≤ sizeLine; decide, fun u2 h2 => ?_⟩
    have w2 := same_new h2 (.lst [.str "facts"])
    refine fun u3 h3 => ?_
    have w3 := same_new h3 (.dK [])
    refine ⟨by show 14 ≤ sizeLine; decide, fun u4 h4 => ?_⟩
    have w4 := same_new h4 (.lst [.non, .str "rule", .str "", .int 0, .ref u1, .ref u2, .str "Rules", .bl true, .str "answers", .str "all", .str "always", .str "fact", .ref u3, .int 1])
    refine ⟨fun σ H6 => ∃ x2, σ = [some (.ref a), some (.int (0 + (i : Int))), some (.ref p), some (.ref rl), some (.ref ml), y5, y6, y7, y8, some x, some x2, y11] ∧ Bar p H5 H6 ∧ (∀ H', Same H6 H' → NoWord K H' x2) ∧ SameV x2 x2, ?_, ?_⟩
    · refine ⟨.ref u4, rfl, by show 4 ≤ sizeLine; decide, fun u5 h5 => ?_⟩
      have w5 := same_new h5 (.lst [.str "rules ", .str " facts", .str "nothing\n", .str "rulesx"])
      have w45 := w4.trans w5
      have w35 := w3.trans w45
      have w25 := w2.trans w35
      have w15 := w1.trans w25
      refine ⟨u4, u5, _, _, rfl, rfl, w5 _ _ upd_same, upd_same, small_line (by show 14 + 4 ≤ 10000; decide), fun u6 h6 => ?_⟩
      have w6 := same_new h6 (.lst ([.non, .str "rule", .str "", .int 0, .ref u1, .ref u2, .str "Rules", .bl true, .str "answers", .str "all", .str "always", .str "fact", .ref u3, .int 1] ++ [.str "rules ", .str " facts", .str "nothing\n", .str "rulesx"]))
      have w16 := w15.trans w6
      have hu1 := SqT.of (K := K) ((w25.trans w6) _ _ upd_same)
      have nu2 : u2 ≠ p := (pu5.same w1).some h2
      have hu2 := (w35.trans w6) _ _ upd_same
      have nu3 : u3 ≠ p := (pu5.same (w1.trans w2)).some h3
      have hu3 := (w45.trans w6) _ _ upd_same
      have nu6 : u6 ≠ p := (pu5.same w15).some h6
      have pu6 := pu5.same w16
      have hu6 : (upd (upd (upd (upd (upd (upd H5 u1 (.tup [.str "rules"])) u2 (.lst [.str "facts"])) u3 (.dK [])) u4 (.lst [.non, .str "rule", .str "", .int 0, .ref u1, .ref u2, .str "Rules", .bl true, .str "answers", .str "all", .str "always", .str "fact", .ref u3, .int 1])) u5 (.lst [.str "rules ", .str " facts", .str "nothing\n", .str "rulesx"])) u6 (.lst ([.non, .str "rule", .str "", .int 0, .ref u1, .ref u2, .str "Rules", .bl true, .str "answers", .str "all", .str "always", .str "fact", .ref u3, .int 1] ++ [.str "rules ", .str " facts", .str "nothing\n", .str "rulesx"]))) u6 = _ := upd_same
      generalize upd (upd (upd (upd (upd (upd H5 u1 (.tup [.str "rules"])) u2 (.lst [.str "facts"])) u3 (.dK [])) u4 (.lst [.non, .str "rule", .str "", .int 0, .ref u1, .ref u2, .str "Rules", .bl true, .str "answers", .str "all", .str "always", .str "fact", .ref u3, .int 1])) u5 (.lst [.str "rules ", .str " facts", .str "nothing\n", .str "rulesx"])) u6 (.lst ([.non, .str "rule", .str "", .int 0, .ref u1, .ref u2, .str "Rules", .bl true, .str "answers", .str "all", .str "always", .str "fact", .ref u3, .int 1] ++ [.str "rules ", .str " facts", .str "nothing\n", .str "rulesx"])) = H6 at w16 hu1 hu2 hu3 hu6 pu6 ⊢
      refine ⟨.ref p, rfl, p, 18, _, rfl, pu6, by omega, by decide, by decide, fun r us r0 r1 pu9 => ?_⟩
      obtain ⟨m, rfl⟩ := Int.eq_ofNat_of_zero_le r0
      have lt : m < 18 := by omega
      have bD : Bar p H6 (upd H6 p (.lst us)) := .draw
      have pick : ∃ x, ([V.non, .str "rule", .str "", .int 0, .ref u1, .ref u2, .str "Rules", .bl true, .str "answers", .str "all", .str "always", .str "fact", .ref u3, .int 1, .str "rules ", .str " facts", .str "nothing\n", .str "rulesx"] : List V)[m]? = some x ∧ (∀ H', Bar p H6 H' → NoWord K H' x) ∧ SameV x x := by
        have pu9 := pu6
        rcases m with _ | _ | _ | _ | _ | _ | _ | _ | _ | _ | _ | _ | _ | _ | _ | _ | _ | _ | m
        · exact ⟨_, rfl, fun H' _ => .inl ⟨.none, .non, by decide +kernel, by decide +kernel⟩, sameV_flat rfl⟩
        · exact ⟨_, rfl, fun H' _ => .inl ⟨.str "rule", .str _, by decide +kernel, by decide +kernel⟩, sameV_flat rfl⟩
        · exact ⟨_, rfl, fun H' _ => .inl ⟨.str "", .str _, by decide +kernel, by decide +kernel⟩, sameV_flat rfl⟩
        · exact ⟨_, rfl, fun H' _ => .inl ⟨.int 0, .int _, by decide +kernel, by decide +kernel⟩, sameV_flat rfl⟩
        · exact ⟨_, rfl, fun H' b => .inl ⟨.tuple [.str "rules"], .tup ((b.stay pu9.mut).seq hu1) (.cons (.str _) .nil), by decide +kernel, by decide +kernel⟩, sameV_ref⟩
        · exact ⟨_, rfl, fun H' b => .inl ⟨.list [.str "facts"], .lst (SqL.of (b _ _ nu2 hu2)) (.cons (.str _) .nil), by decide +kernel, by decide +kernel⟩, sameV_ref⟩
        · exact ⟨_, rfl, fun H' _ => .inl ⟨.str "Rules", .str _, by decide +kernel, by decide +kernel⟩, sameV_flat rfl⟩
        · exact ⟨_, rfl, fun H' _ => .inl ⟨.bool true, .bl _, by decide +kernel, by decide +kernel⟩, sameV_flat rfl⟩
        · exact ⟨_, rfl, fun H' _ => .inl ⟨.str "answers", .str _, by decide +kernel, by decide +kernel⟩, sameV_flat rfl⟩
        · exact ⟨_, rfl, fun H' _ => .inl ⟨.str "all", .str _, by decide +kernel, by decide +kernel⟩, sameV_flat rfl⟩
        · exact ⟨_, rfl, fun H' _ => .inl ⟨.str "always", .str _, by decide +kernel, by decide +kernel⟩, sameV_flat rfl⟩
        · exact ⟨_, rfl, fun H' _ => .inl ⟨.str "fact", .str _, by decide +kernel, by decide +kernel⟩, sameV_flat rfl⟩
        · exact ⟨_, rfl, fun H' b => .inr ⟨u3, [], rfl, b _ _ nu3 hu3⟩, sameV_ref⟩
        · exact ⟨_, rfl, fun H' _ => .inl ⟨.int 1, .int _, by decide +kernel, by decide +kernel⟩, sameV_flat rfl⟩
        · exact ⟨_, rfl, fun H' _ => .inl ⟨.str "rules ", .str _, by decide +kernel, by decide +kernel⟩, sameV_flat rfl⟩
        · exact ⟨_, rfl, fun H' _ => .inl ⟨.str " facts", .str _, by decide +kernel, by decide +kernel⟩, sameV_flat rfl⟩
        · exact ⟨_, rfl, fun H' _ => .inl ⟨.str "nothing\n", .str _, by decide +kernel, by decide +kernel⟩, sameV_flat rfl⟩
        · exact ⟨_, rfl, fun H' _ => .inl ⟨.str "rulesx", .str _, by decide +kernel, by decide +kernel⟩, sameV_flat rfl⟩
        · omega
      obtain ⟨x2, hx2, hw2, sx2⟩ := pick
      refine ⟨u6, _, m, x2, rfl, rfl, SqL.of (bD _ _ nu6 hu6), atI_nat hx2, ?_⟩
      exact ⟨x2, rfl, (Bar.same w16).trans bD, fun H' s => hw2 H' (bD.trans (.same s)), sx2⟩
    rintro σ H6 ⟨x2, rfl, bar6, hw2, sx2⟩
    have barN5 := bar5.trans bar6
    have pu6' : ∀ H', Same H6 H' → Dp K H' x d := fun H' s => hxd H' (bar6.trans (.same s))
    have hml6 : ∀ H', Same H6 H' → SqL K H' ml [v1, v2] := fun H' s => SqL.of (s _ _ (barN5 _ _ nml hmlN))
    have g1 : ∀ H', Same H6 H' → PgAt K C H' v1 S1 := fun H' s => (hv1N.bar barN5 puN).same s
    have g2 : ∀ H', Same H6 H' → PgAt K C H' v2 S2 := fun H' s => (hv2N.bar barN5 puN).same s
    refine ⟨2, rfl, by decide, by decide, ?_⟩
    refine for_range (n := 2) (fun j σ H1 => (∃ y11, σ = [some (.ref a), some (.int (0 + (i : Int))), some (.ref p), some (.ref rl), some (.ref ml), y5, y6, y7, y8, some x, some x2, y11]) ∧ Same H6 H1) ⟨⟨_, rfl⟩, fun _ _ e => e⟩ (fun j σ H7 hj h => ?_) (fun σ H7 h => ?_)
    · obtain ⟨⟨y11, rfl⟩, s7⟩ := h
      have hw : (0 + (j : Int)) = 0 ∨ (0 + (j : Int)) = 1 := by
        have : j < 2 := hj
        omega
      -- no program first
      refine ⟨.int (0 + (j : Int)), rfl, x, rfl, x2, rfl, ?_⟩
      dsimp only [tNil]
      refine ⟨_, x, .non, x2, rfl, .inl ⟨hw, .inl ⟨⟨d, pu6' _ s7⟩, fun H8 l8 s8 hl8 => ?_⟩⟩⟩
      refine ⟨x, rfl, by show 2 ≤ sizeLine; decide, fun l9 hl9 => ?_⟩
      have s9 := same_new hl9 (.lst [.str "program", x])
      refine ⟨l8, l9, _, _, rfl, rfl, SqL.of (s9 _ _ hl8), SqL.of upd_same, paired_two sx, false, rfl, iteF ?_⟩
      have s79 := s7.trans (s8.trans s9)
      -- no program second
      refine ⟨.int (0 + (j : Int)), rfl, .ref ml, rfl, ml, _, 0, v1, rfl, rfl, hml6 _ s79, rfl, x, rfl, x2, rfl, ?_⟩
      dsimp only [tNil]
      refine ⟨_, v1, x, x2, rfl, .inl ⟨hw, .inr ⟨⟨S1, g1 _ s79⟩, .inl ⟨⟨d, pu6' _ s79⟩, fun HA lA sA hlA => ?_⟩⟩⟩⟩
      refine ⟨x, rfl, by show 2 ≤ sizeLine; decide, fun lB hlB => ?_⟩
      have sB := same_new hlB (.lst [.str "program", x])
      refine ⟨lA, lB, _, _, rfl, rfl, SqL.of (sB _ _ hlA), SqL.of upd_same, paired_two sx, false, rfl, iteF ?_⟩
      have s7B := s79.trans (sA.trans sB)
      -- no word
      refine ⟨.int (0 + (j : Int)), rfl, .ref ml, rfl, ml, _, 0, v1, rfl, rfl, hml6 _ s7B, rfl, .ref ml, rfl, ml, _, 1, v2, rfl, rfl, hml6 _ s7B, rfl, x2, rfl, ?_⟩
      dsimp only [tNil]
      refine ⟨_, v1, v2, x2, rfl, .inl ⟨hw, .inr ⟨⟨S1, g1 _ s7B⟩, .inr ⟨⟨S2, g2 _ s7B⟩, hw2 _ s7B, fun HC2 lC sC hlC => ?_⟩⟩⟩⟩
      refine ⟨x2, rfl, by show 2 ≤ sizeLine; decide, fun lD hlD => ?_⟩
      have sD := same_new hlD (.lst [.str "kind", x2])
      refine ⟨lC, lD, _, _, rfl, rfl, SqL.of (sD _ _ hlC), SqL.of upd_same, paired_two sx2, false, rfl, iteF ?_⟩
      exact ⟨⟨_, rfl⟩, s7B.trans (sC.trans sD)⟩
    · obtain ⟨⟨y11, rfl⟩, s7⟩ := h
      exact ⟨⟨_, _, _, _, _, _, _, _, _, _, _, rfl⟩, up _ (barM.trans (barN.trans (barN5.trans (.same s7))))⟩
  · obtain ⟨⟨y1, y2, y3, y4, y5, y6, y7, y8, y9, y10, y11, rfl⟩, sm⟩ := hI
    dsimp only
    refine if_i ?_
    refine ⟨rfl, fun H2 s2 => ⟨true, rfl, iteF ?_⟩⟩
    dsimp only [tRet, tOp, tCall, tCons, tC, tNil]
    refine make0_ok fun H3 p1 S1 s3 srt1 few1 hv1 => ?_
    obtain rfl := srt_nil srt1
    refine make0_ok fun H4 p2 S2 s4 srt2 few2 hv2 => ?_
    obtain rfl := srt_nil srt2
    refine ⟨0, p1, p2, .str "nothing", rfl, .inr ⟨rfl, hv1.same s4, hv2, rfl, fun H5 l5 s5 hl5 => ?_⟩⟩
    refine ⟨by show 2 ≤ sizeLine; decide, fun l6 hl6 => ?_⟩
    have s6 := same_new hl6 (.lst [.str "ok", .bl true])
    refine ⟨.list [.str "ok", .bool true], .list [.str "ok", .bool true], .lst (SqL.of (s6 _ _ hl5)) (.cons (.str _) (.cons (.bl _) .nil)), .lst (SqL.of upd_same) (.cons (.str _) (.cons (.bl _) .nil)), by decide +kernel, by decide +kernel, ?_⟩
    rw [show PyData.eqv (.list [.str "ok", .bool true]) (.list [.str "ok", .bool true]) = true by decide +kernel]
    exact q _
end
end Rw
namespace Rw
open PySem PySem.Spec PyProof.Rows L2 ClX
theorem emptyB_ok {K : PySem.W.Frag} {a : Addr} (h : emptyB K a = true) (H : Hp) : SqT K H a [] := by
  unfold emptyB at h
  split at h
  · rename_i c _ its n _ e
    rw [Bool.and_eq_true] at h
    obtain ⟨h1, h2⟩ := h
    have h1 := of_decide_eq_true h1
    subst h1
    have h2 : its.toList = [] := List.isEmpty_iff.mp h2
    refine .inr ⟨_, its, n, e, rfl, rfl, ?_, ?_⟩
    · rw [← Array.length_toList, h2]
      decide
    · rw [h2]
      exact .nil
  · exact nomatch h
theorem exL_at {K : PySem.W.Frag} {C : Addr} (h : (exL K C).all id = true) (i : Nat) {b : Bool} (e : (exL K C)[i]? = some b) : b = true := List.all_eq_true.mp h b (List.mem_of_getElem? e)
theorem pgC_of {K : PySem.W.Frag} {mg : Str → Option Value} {C : Addr} (h : pgP K C) (m : mg "Program" = some (.ref C)) (c : Cls K C) : PgC K mg C := by
  obtain ⟨h1, h2, h3, h4, h5, h6, h7, h8, h9, h10, h11, h12⟩ := h
  exact ⟨h1, h2, h3, h4, h5, h6, h7, h8, m, c, h9, h10, h11, h12⟩
theorem hfacts {P : Program} {w : World} {K : PySem.W.Frag} {h : Heap} {mg : Str → Option Value} {f : Addr} (X : K.In h) (G : h.Ns mainGlobals mg) (hfa_ : mg ("law" : Str) = some (.ref f)) (c : He5.SaysA hfa hfn K) (ce : exB K = true) :
    ∃ fd : FuncData, (∀ (s : Shared) (v : Value), BindsTo s fd ⟨[v], []⟩ [("script", v)]) ∧ ∀ base : Heap, K.In base → base.Ns mainGlobals mg → FnOk P w K mg base CX0 10 f fd ["script"] (spLaw K) := by
  obtain ⟨fd0, D0⟩ := c.def_ 0 (d := dOf "is_name" sIsName) rfl
  have F0 : Fun K "is_name" "is_name" sIsName _ fd0 := fun_of D0
  have B0 := D0.bindsN (ps := ["thing"]) fun _ _ _ _ _ _ us hl => match us, hl with | [_], _ => rfl
  have M0 : mg "is_name" = _ := He.glo_ok X G (c.fact 22 (f := .glo "is_name") rfl)
  obtain ⟨fd1, D1⟩ := c.def_ 1 (d := dOf "_are_names" sAreNames) rfl
  have F1 : Fun K "_are_names" "_are_names" sAreNames _ fd1 := fun_of D1
  have B1 := D1.bindsN (ps := ["thing"]) fun _ _ _ _ _ _ us hl => match us, hl with | [_], _ => rfl
  have M1 : mg "_are_names" = _ := He.glo_ok X G (c.fact 23 (f := .glo "_are_names") rfl)
  obtain ⟨fd2, D2⟩ := c.def_ 2 (d := dOf "_set_of" sSetOf) rfl
  have F2 : Fun K "_set_of" "_set_of" sSetOf _ fd2 := fun_of D2
  have B2 := D2.bindsN (ps := ["names"]) fun _ _ _ _ _ _ us hl => match us, hl with | [_], _ => rfl
  have M2 : mg "_set_of" = _ := He.glo_ok X G (c.fact 24 (f := .glo "_set_of") rfl)
  obtain ⟨fd3, D3⟩ := c.def_ 3 (d := dOf "is_world" sIsWorld) rfl
  have F3 : Fun K "is_world" "is_world" sIsWorld _ fd3 := fun_of D3
  have B3 := D3.bindsN (ps := ["thing"]) fun _ _ _ _ _ _ us hl => match us, hl with | [_], _ => rfl
  have M3 : mg "is_world" = _ := He.glo_ok X G (c.fact 25 (f := .glo "is_world") rfl)
  obtain ⟨fd4, D4⟩ := c.def_ 4 (d := dOf "is_rule" sIsRule) rfl
  have F4 : Fun K "is_rule" "is_rule" sIsRule _ fd4 := fun_of D4
  have B4 := D4.bindsN (ps := ["thing"]) fun _ _ _ _ _ _ us hl => match us, hl with | [_], _ => rfl
  have M4 : mg "is_rule" = _ := He.glo_ok X G (c.fact 26 (f := .glo "is_rule") rfl)
  obtain ⟨fd5, D5⟩ := c.def_ 5 (d := dOf "has_all" sHasAll) rfl
  have F5 : Fun K "has_all" "has_all" sHasAll _ fd5 := fun_of D5
  have B5 := D5.bindsN (ps := ["names", "wanted"]) fun _ _ _ _ _ _ us hl => match us, hl with | [_, _], _ => rfl
  have M5 : mg "has_all" = _ := He.glo_ok X G (c.fact 27 (f := .glo "has_all") rfl)
  obtain ⟨fd6, D6⟩ := c.def_ 6 (d := dOf "check_program" sCheckProgram) rfl
  have F6 : Fun K "check_program" "check_program" sCheckProgram _ fd6 := fun_of D6
  have B6 := D6.bindsN (ps := ["thing"]) fun _ _ _ _ _ _ us hl => match us, hl with | [_], _ => rfl
  have M6 : mg "check_program" = _ := He.glo_ok X G (c.fact 28 (f := .glo "check_program") rfl)
  obtain ⟨fd7, D7⟩ := c.def_ 7 (d := dOf "check_world" sCheckWorld) rfl
  have F7 : Fun K "check_world" "check_world" sCheckWorld _ fd7 := fun_of D7
  have B7 := D7.bindsN (ps := ["thing"]) fun _ _ _ _ _ _ us hl => match us, hl with | [_], _ => rfl
  have M7 : mg "check_world" = _ := He.glo_ok X G (c.fact 29 (f := .glo "check_world") rfl)
  obtain ⟨fd8, D8⟩ := c.def_ 8 (d := dOf "check_kind" sCheckKind) rfl
  have F8 : Fun K "check_kind" "check_kind" sCheckKind _ fd8 := fun_of D8
  have B8 := D8.bindsN (ps := ["thing", "kinds"]) fun _ _ _ _ _ _ us hl => match us, hl with | [_, _], _ => rfl
  have M8 : mg "check_kind" = _ := He.glo_ok X G (c.fact 30 (f := .glo "check_kind") rfl)
  obtain ⟨fd9, D9⟩ := c.def_ 9 (d := dOf "answers" sAnswers) rfl
  have F9 : Fun K "answers" "answers" sAnswers _ fd9 := fun_of D9
  have B9 := D9.bindsN (ps := ["program"]) fun _ _ _ _ _ _ us hl => match us, hl with | [_], _ => rfl
  have M9 : mg "answers" = _ := He.glo_ok X G (c.fact 31 (f := .glo "answers") rfl)
  obtain ⟨fd10, D10⟩ := c.def_ 10 (d := dOf "is_answer" sIsAnswer) rfl
  have F10 : Fun K "is_answer" "is_answer" sIsAnswer _ fd10 := fun_of D10
  have B10 := D10.bindsN (ps := ["program", "world"]) fun _ _ _ _ _ _ us hl => match us, hl with | [_, _], _ => rfl
  have M10 : mg "is_answer" = _ := He.glo_ok X G (c.fact 32 (f := .glo "is_answer") rfl)
  obtain ⟨fd11, D11⟩ := c.def_ 11 (d := dOf "_bits_of" sBitsOf) rfl
  have F11 : Fun K "_bits_of" "_bits_of" sBitsOf _ fd11 := fun_of D11
  have B11 := D11.bindsN (ps := ["names"]) fun _ _ _ _ _ _ us hl => match us, hl with | [_], _ => rfl
  have M11 : mg "_bits_of" = _ := He.glo_ok X G (c.fact 33 (f := .glo "_bits_of") rfl)
  obtain ⟨fd12, D12⟩ := c.def_ 12 (d := dOf "_number" sNumber) rfl
  have F12 : Fun K "_number" "_number" sNumber _ fd12 := fun_of D12
  have B12 := D12.bindsN (ps := ["world", "bits"]) fun _ _ _ _ _ _ us hl => match us, hl with | [_, _], _ => rfl
  have M12 : mg "_number" = _ := He.glo_ok X G (c.fact 34 (f := .glo "_number") rfl)
  obtain ⟨fd13, D13⟩ := c.def_ 13 (d := dOf "_numbered" sNumbered) rfl
  have F13 : Fun K "_numbered" "_numbered" sNumbered _ fd13 := fun_of D13
  have B13 := D13.bindsN (ps := ["program", "bits"]) fun _ _ _ _ _ _ us hl => match us, hl with | [_, _], _ => rfl
  have M13 : mg "_numbered" = _ := He.glo_ok X G (c.fact 35 (f := .glo "_numbered") rfl)
  obtain ⟨fd14, D14⟩ := c.def_ 14 (d := dOf "_every_world" sEvery) rfl
  have F14 : Fun K "_every_world" "_every_world" sEvery _ fd14 := fun_of D14
  have B14 := D14.bindsN (ps := ["names"]) fun _ _ _ _ _ _ us hl => match us, hl with | [_], _ => rfl
  have M14 : mg "_every_world" = _ := He.glo_ok X G (c.fact 36 (f := .glo "_every_world") rfl)
  obtain ⟨fd15, D15⟩ := c.def_ 15 (d := dOf "_agree" sAgree) rfl
  have F15 : Fun K "_agree" "_agree" sAgree _ fd15 := fun_of D15
  have B15 := D15.bindsN (ps := ["rows", "here", "there"]) fun _ _ _ _ _ _ us hl => match us, hl with | [_, _, _], _ => rfl
  have M15 : mg "_agree" = _ := He.glo_ok X G (c.fact 37 (f := .glo "_agree") rfl)
  obtain ⟨fd16, D16⟩ := c.def_ 16 (d := dOf "_is_founded" sIsFounded) rfl
  have F16 : Fun K "_is_founded" "_is_founded" sIsFounded _ fd16 := fun_of D16
  have B16 := D16.bindsN (ps := ["rows", "there"]) fun _ _ _ _ _ _ us hl => match us, hl with | [_, _], _ => rfl
  have M16 : mg "_is_founded" = _ := He.glo_ok X G (c.fact 38 (f := .glo "_is_founded") rfl)
  obtain ⟨fd17, D17⟩ := c.def_ 17 (d := dOf "_all_met" sAllMet) rfl
  have F17 : Fun K "_all_met" "_all_met" sAllMet _ fd17 := fun_of D17
  have B17 := D17.bindsN (ps := ["urgent", "here"]) fun _ _ _ _ _ _ us hl => match us, hl with | [_, _], _ => rfl
  have M17 : mg "_all_met" = _ := He.glo_ok X G (c.fact 39 (f := .glo "_all_met") rfl)
  obtain ⟨fd18, D18⟩ := c.def_ 18 (d := dOf "_check_asked" sAsked) rfl
  have F18 : Fun K "_check_asked" "_check_asked" sAsked _ fd18 := fun_of D18
  have B18 := D18.bindsN (ps := ["one", "other", "added"]) fun _ _ _ _ _ _ us hl => match us, hl with | [_, _, _], _ => rfl
  have M18 : mg "_check_asked" = _ := He.glo_ok X G (c.fact 40 (f := .glo "_check_asked") rfl)
  obtain ⟨fd19, D19⟩ := c.def_ 19 (d := dOf "_is_fact" sIsFact) rfl
  have F19 : Fun K "_is_fact" "_is_fact" sIsFact _ fd19 := fun_of D19
  have B19 := D19.bindsN (ps := ["row"]) fun _ _ _ _ _ _ us hl => match us, hl with | [_], _ => rfl
  have M19 : mg "_is_fact" = _ := He.glo_ok X G (c.fact 41 (f := .glo "_is_fact") rfl)
  obtain ⟨fd20, D20⟩ := c.def_ 20 (d := dOf "_may_be_added" sMayAdd) rfl
  have F20 : Fun K "_may_be_added" "_may_be_added" sMayAdd _ fd20 := fun_of D20
  have B20 := D20.bindsN (ps := ["part", "added"]) fun _ _ _ _ _ _ us hl => match us, hl with | [_, _], _ => rfl
  have M20 : mg "_may_be_added" = _ := He.glo_ok X G (c.fact 42 (f := .glo "_may_be_added") rfl)
  obtain ⟨fd21, D21⟩ := c.def_ 21 (d := dOf "_parted_by_nothing" sParted0) rfl
  have F21 : Fun K "_parted_by_nothing" "_parted_by_nothing" sParted0 _ fd21 := fun_of D21
  have B21 := D21.bindsN (ps := ["one", "other"]) fun _ _ _ _ _ _ us hl => match us, hl with | [_, _], _ => rfl
  have M21 : mg "_parted_by_nothing" = _ := He.glo_ok X G (c.fact 43 (f := .glo "_parted_by_nothing") rfl)
  obtain ⟨fd22, D22⟩ := c.def_ 22 (d := dOf "_law_at" sLawAt) rfl
  have F22 : Fun K "_law_at" "_law_at" sLawAt _ fd22 := fun_of D22
  have B22 := D22.bindsN (ps := ["script", "k"]) fun _ _ _ _ _ _ us hl => match us, hl with | [_, _], _ => rfl
  have M22 : mg "_law_at" = _ := He.glo_ok X G (c.fact 44 (f := .glo "_law_at") rfl)
  obtain ⟨fd23, D23⟩ := c.def_ 23 (d := dOf "_law_mixed" sLawMixed) rfl
  have F23 : Fun K "_law_mixed" "_law_mixed" sLawMixed _ fd23 := fun_of D23
  have B23 := D23.bindsN (ps := ["cell", "k"]) fun _ _ _ _ _ _ us hl => match us, hl with | [_, _], _ => rfl
  have M23 : mg "_law_mixed" = _ := He.glo_ok X G (c.fact 45 (f := .glo "_law_mixed") rfl)
  obtain ⟨fd24, D24⟩ := c.def_ 24 (d := dOf "_law_purse" sLawPurse) rfl
  have F24 : Fun K "_law_purse" "_law_purse" sLawPurse _ fd24 := fun_of D24
  have B24 := D24.bindsN (ps := ["script", "at"]) fun _ _ _ _ _ _ us hl => match us, hl with | [_, _], _ => rfl
  have M24 : mg "_law_purse" = _ := He.glo_ok X G (c.fact 46 (f := .glo "_law_purse") rfl)
  obtain ⟨fd25, D25⟩ := c.def_ 25 (d := dOf "_law_draw" sLawDraw) rfl
  have F25 : Fun K "_law_draw" "_law_draw" sLawDraw _ fd25 := fun_of D25
  have B25 := D25.bindsN (ps := ["purse", "out_of"]) fun _ _ _ _ _ _ us hl => match us, hl with | [_, _], _ => rfl
  have M25 : mg "_law_draw" = _ := He.glo_ok X G (c.fact 47 (f := .glo "_law_draw") rfl)
  obtain ⟨fd26, D26⟩ := c.def_ 26 (d := dOf "_law_some" sLawSome) rfl
  have F26 : Fun K "_law_some" "_law_some" sLawSome _ fd26 := fun_of D26
  have B26 := D26.bindsN (ps := ["purse", "names", "most"]) fun _ _ _ _ _ _ us hl => match us, hl with | [_, _, _], _ => rfl
  have M26 : mg "_law_some" = _ := He.glo_ok X G (c.fact 48 (f := .glo "_law_some") rfl)
  obtain ⟨fd27, D27⟩ := c.def_ 27 (d := dOf "_law_row" sLawRow) rfl
  have F27 : Fun K "_law_row" "_law_row" sLawRow _ fd27 := fun_of D27
  have B27 := D27.bindsN (ps := ["purse", "names", "way"]) fun _ _ _ _ _ _ us hl => match us, hl with | [_, _, _], _ => rfl
  have M27 : mg "_law_row" = _ := He.glo_ok X G (c.fact 49 (f := .glo "_law_row") rfl)
  obtain ⟨fd28, D28⟩ := c.def_ 28 (d := dOf "_law_rows" sLawRows) rfl
  have F28 : Fun K "_law_rows" "_law_rows" sLawRows _ fd28 := fun_of D28
  have B28 := D28.bindsN (ps := ["purse", "names", "most"]) fun _ _ _ _ _ _ us hl => match us, hl with | [_, _, _], _ => rfl
  have M28 : mg "_law_rows" = _ := He.glo_ok X G (c.fact 50 (f := .glo "_law_rows") rfl)
  obtain ⟨fd29, D29⟩ := c.def_ 29 (d := dOf "_law_stands" sLawStands) rfl
  have F29 : Fun K "_law_stands" "_law_stands" sLawStands _ fd29 := fun_of D29
  have B29 := D29.bindsN (ps := ["row", "here", "there"]) fun _ _ _ _ _ _ us hl => match us, hl with | [_, _, _], _ => rfl
  have M29 : mg "_law_stands" = _ := He.glo_ok X G (c.fact 51 (f := .glo "_law_stands") rfl)
  obtain ⟨fd30, D30⟩ := c.def_ 30 (d := dOf "_law_holds" sLawHolds) rfl
  have F30 : Fun K "_law_holds" "_law_holds" sLawHolds _ fd30 := fun_of D30
  have B30 := D30.bindsN (ps := ["rows", "here", "there"]) fun _ _ _ _ _ _ us hl => match us, hl with | [_, _, _], _ => rfl
  have M30 : mg "_law_holds" = _ := He.glo_ok X G (c.fact 52 (f := .glo "_law_holds") rfl)
  obtain ⟨fd31, D31⟩ := c.def_ 31 (d := dOf "_law_parts" sLawParts) rfl
  have F31 : Fun K "_law_parts" "_law_parts" sLawParts _ fd31 := fun_of D31
  have B31 := D31.bindsN (ps := ["names"]) fun _ _ _ _ _ _ us hl => match us, hl with | [_], _ => rfl
  have M31 : mg "_law_parts" = _ := He.glo_ok X G (c.fact 53 (f := .glo "_law_parts") rfl)
  obtain ⟨fd32, D32⟩ := c.def_ 32 (d := dOf "_law_pairs" sLawPairs) rfl
  have F32 : Fun K "_law_pairs" "_law_pairs" sLawPairs _ fd32 := fun_of D32
  have B32 := D32.bindsN (ps := ["rows", "names"]) fun _ _ _ _ _ _ us hl => match us, hl with | [_, _], _ => rfl
  have M32 : mg "_law_pairs" = _ := He.glo_ok X G (c.fact 54 (f := .glo "_law_pairs") rfl)
  obtain ⟨fd33, D33⟩ := c.def_ 33 (d := dOf "_law_names" sLawNames) rfl
  have F33 : Fun K "_law_names" "_law_names" sLawNames _ fd33 := fun_of D33
  have B33 := D33.bindsN (ps := ["rows"]) fun _ _ _ _ _ _ us hl => match us, hl with | [_], _ => rfl
  have M33 : mg "_law_names" = _ := He.glo_ok X G (c.fact 55 (f := .glo "_law_names") rfl)
  obtain ⟨fd34, D34⟩ := c.def_ 34 (d := dOf "_law_answers" sLawAnswers) rfl
  have F34 : Fun K "_law_answers" "_law_answers" sLawAnswers _ fd34 := fun_of D34
  have B34 := D34.bindsN (ps := ["rows"]) fun _ _ _ _ _ _ us hl => match us, hl with | [_], _ => rfl
  have M34 : mg "_law_answers" = _ := He.glo_ok X G (c.fact 56 (f := .glo "_law_answers") rfl)
  obtain ⟨fd35, D35⟩ := c.def_ 35 (d := dOf "_law_is_fact" sLawIsFact) rfl
  have F35 : Fun K "_law_is_fact" "_law_is_fact" sLawIsFact _ fd35 := fun_of D35
  have B35 := D35.bindsN (ps := ["row"]) fun _ _ _ _ _ _ us hl => match us, hl with | [_], _ => rfl
  have M35 : mg "_law_is_fact" = _ := He.glo_ok X G (c.fact 57 (f := .glo "_law_is_fact") rfl)
  obtain ⟨fd36, D36⟩ := c.def_ 36 (d := dOf "_law_thing" sLawThing) rfl
  have F36 : Fun K "_law_thing" "_law_thing" sLawThing _ fd36 := fun_of D36
  have B36 := D36.bindsN (ps := ["purse", "lhs", "two"]) fun _ _ _ _ _ _ us hl => match us, hl with | [_, _, _], _ => rfl
  have M36 : mg "_law_thing" = _ := He.glo_ok X G (c.fact 58 (f := .glo "_law_thing") rfl)
  obtain ⟨fd37, D37⟩ := c.def_ 37 (d := dOf "_law_is_world" sLawIsWorld) rfl
  have F37 : Fun K "_law_is_world" "_law_is_world" sLawIsWorld _ fd37 := fun_of D37
  have B37 := D37.bindsN (ps := ["item"]) fun _ _ _ _ _ _ us hl => match us, hl with | [_], _ => rfl
  have M37 : mg "_law_is_world" = _ := He.glo_ok X G (c.fact 59 (f := .glo "_law_is_world") rfl)
  obtain ⟨fd38, D38⟩ := c.def_ 38 (d := dOf "_law_due" sLawDue) rfl
  have F38 : Fun K "_law_due" "_law_due" sLawDue _ fd38 := fun_of D38
  have B38 := D38.bindsN (ps := ["rows", "item", "added"]) fun _ _ _ _ _ _ us hl => match us, hl with | [_, _, _], _ => rfl
  have M38 : mg "_law_due" = _ := He.glo_ok X G (c.fact 60 (f := .glo "_law_due") rfl)
  obtain ⟨fd39, D39⟩ := c.def_ 39 (d := dOf "_law_asked" sLawAsked) rfl
  have F39 : Fun K "_law_asked" "_law_asked" sLawAsked _ fd39 := fun_of D39
  have B39 := D39.bindsN (ps := ["way", "lhs", "two", "added"]) fun _ _ _ _ _ _ us hl => match us, hl with | [_, _, _, _], _ => rfl
  have M39 : mg "_law_asked" = _ := He.glo_ok X G (c.fact 61 (f := .glo "_law_asked") rfl)
  obtain ⟨fd40, D40⟩ := c.def_ 40 (d := dOf "_law_great_right" sGreat) rfl
  have F40 : Fun K "_law_great_right" "_law_great_right" sGreat _ fd40 := fun_of D40
  have B40 := D40.bindsN (ps := []) fun _ _ _ _ _ _ us hl => match us, hl with | [], _ => rfl
  have M40 : mg "_law_great_right" = _ := He.glo_ok X G (c.fact 62 (f := .glo "_law_great_right") rfl)
  obtain ⟨fd41, D41⟩ := c.def_ 41 (d := dOf "law" sLaw) rfl
  have F41 : Fun K "law" "law" sLaw _ fd41 := fun_of D41
  have B41 := D41.bindsN (ps := ["script"]) fun _ _ _ _ _ _ us hl => match us, hl with | [_], _ => rfl
  have M41 : mg "law" = _ := He.glo_ok X G (c.fact 63 (f := .glo "law") rfl)
  obtain ⟨fdInit, DInit⟩ := c.def_ 42 (d := dMInit) rfl
  have FInit : Fun K "__init__" "Program.__init__" sInit _ fdInit := fun_of DInit
  obtain ⟨fdOf, DOf⟩ := c.def_ 43 (d := dMOf) rfl
  have FOf : Fun K "of" "Program.of" sOf _ fdOf := fun_of DOf
  have BOf := DOf.bindsN (ps := ["cls", "rules"]) fun _ _ _ _ _ _ us hl => match us, hl with | [_, _], _ => rfl
  obtain ⟨fdFacts, DFacts⟩ := c.def_ 44 (d := dMFacts) rfl
  have FFacts : Fun K "facts" "Program.facts" sFacts _ fdFacts := fun_of DFacts
  have BFacts := DFacts.bindsN (ps := ["cls", "world"]) fun _ _ _ _ _ _ us hl => match us, hl with | [_, _], _ => rfl
  obtain ⟨fdRules, DRules⟩ := c.def_ 45 (d := dMRules) rfl
  have FRules : Fun K "rules" "Program.rules" sRules _ fdRules := fun_of DRules
  have BRules := DRules.bindsN (ps := ["self"]) fun _ _ _ _ _ _ us hl => match us, hl with | [_], _ => rfl
  obtain ⟨fdNames, DNames⟩ := c.def_ 46 (d := dMNames) rfl
  have FNames : Fun K "names" "Program.names" sNames _ fdNames := fun_of DNames
  have BNames := DNames.bindsN (ps := ["self"]) fun _ _ _ _ _ _ us hl => match us, hl with | [_], _ => rfl
  obtain ⟨fdAdd, DAdd⟩ := c.def_ 47 (d := dMAdd) rfl
  have FAdd : Fun K "__add__" "Program.__add__" sAdd _ fdAdd := fun_of DAdd
  have BAdd := DAdd.bindsN (ps := ["self", "other"]) fun _ _ _ _ _ _ us hl => match us, hl with | [_, _], _ => rfl
  obtain ⟨fdPLen, DPLen⟩ := c.def_ 48 (d := dMPLen) rfl
  have FPLen : Fun K "__len__" "Program.__len__" sPLen _ fdPLen := fun_of DPLen
  have BPLen := DPLen.bindsN (ps := ["self"]) fun _ _ _ _ _ _ us hl => match us, hl with | [_], _ => rfl
  obtain ⟨fdENotProg, DENotProg⟩ := c.def_ 49 (d := dMENotProg) rfl
  have EENotProg : FunD K "__init__" "NotAProgram.__init__" (defArgs sENotProg) (defBody sENotProg) (defScope sENotProg) [.non] [] _ fdENotProg := DENotProg
  obtain ⟨dsENotProg, vENotProg, BENotProg⟩ := EENotProg.binds1 (ps := ["self", "thing"]) 2 1 (by simp) rfl fun T kV doc pm an cdv ct us its h1 h2 => match us, its, h1, h2 with | [_, _], [_], _, _ => ⟨_, rfl, rfl⟩
  cases vENotProg
  obtain ⟨fdEWorld, DEWorld⟩ := c.def_ 50 (d := dMEWorld) rfl
  have EEWorld : FunD K "__init__" "InvalidWorld.__init__" (defArgs sEWorld) (defBody sEWorld) (defScope sEWorld) [.non] [] _ fdEWorld := DEWorld
  obtain ⟨dsEWorld, vEWorld, BEWorld⟩ := EEWorld.binds1 (ps := ["self", "thing"]) 2 1 (by simp) rfl fun T kV doc pm an cdv ct us its h1 h2 => match us, its, h1, h2 with | [_, _], [_], _, _ => ⟨_, rfl, rfl⟩
  cases vEWorld
  obtain ⟨fdEKind, DEKind⟩ := c.def_ 51 (d := dMEKind) rfl
  have EEKind : FunD K "__init__" "InvalidKind.__init__" (defArgs sEKind) (defBody sEKind) (defScope sEKind) [.non] [] _ fdEKind := DEKind
  obtain ⟨dsEKind, vEKind, BEKind⟩ := EEKind.binds1 (ps := ["self", "value"]) 2 1 (by simp) rfl fun T kV doc pm an cdv ct us its h1 h2 => match us, its, h1, h2 with | [_, _], [_], _, _ => ⟨_, rfl, rfl⟩
  cases vEKind
  obtain ⟨fdRule, DRule⟩ := c.def_ 52 (d := dMRule) rfl
  have DFRule : FunD K "rule" "rule" (defArgs sRule) (defBody sRule) (defScope sRule) [.ref (He.dflAt ("rule", none) 0 K), .ref (He.dflAt ("rule", none) 1 K), .ref (He.dflAt ("rule", none) 2 K), .ref (He.dflAt ("rule", none) 3 K)] [] _ fdRule := DRule
  have MRule : mg "rule" = _ := He.glo_ok X G (c.fact 64 (f := .glo "rule") rfl)
  obtain ⟨fdCheckPart, DCheckPart⟩ := c.def_ 53 (d := dOfR "check_parting" sCheckPart) rfl
  have DFCheckPart : FunD K "check_parting" "check_parting" (defArgs sCheckPart) (defBody sCheckPart) (defScope sCheckPart) [.str "rules"] [] _ fdCheckPart := DCheckPart
  have MCheckPart : mg "check_parting" = _ := He.glo_ok X G (c.fact 65 (f := .glo "check_parting") rfl)
  obtain ⟨fdAlike, DAlike⟩ := c.def_ 54 (d := dOfR "alike" sAlike) rfl
  have DFAlike : FunD K "alike" "alike" (defArgs sAlike) (defBody sAlike) (defScope sAlike) [.str "rules"] [] _ fdAlike := DAlike
  have MAlike : mg "alike" = _ := He.glo_ok X G (c.fact 66 (f := .glo "alike") rfl)
  obtain ⟨dsRule1, vRule1, BRule1⟩ := DFRule.binds1 (ps := ["heads", "needs", "bars", "denied"]) 1 1 (by simp) rfl fun T kV doc pm an cdv ct us its h1 h2 => match us, its, h1, h2 with | [_], [_, _, _, _], _, _ => ⟨_, rfl, rfl⟩
  obtain ⟨dsCP4, vCP4, BCP4⟩ := DFCheckPart.binds1 (ps := ["one", "other", "thing", "added"]) 4 1 (by simp) rfl fun T kV doc pm an cdv ct us its h1 h2 => match us, its, h1, h2 with | [_, _, _, _], [_], _, _ => ⟨_, rfl, rfl⟩
  cases vCP4
  obtain ⟨dsCP3, vCP3, BCP3⟩ := DFCheckPart.binds1 (ps := ["one", "other", "thing", "added"]) 3 0 (by simp) rfl fun T kV doc pm an cdv ct us its h1 h2 => match us, its, h1, h2 with | [_, _, _], [_], _, _ => ⟨_, rfl, rfl⟩
  obtain ⟨dsAL, vAL, BAL⟩ := DFAlike.binds1 (ps := ["one", "other", "added"]) 3 1 (by simp) rfl fun T kV doc pm an cdv ct us its h1 h2 => match us, its, h1, h2 with | [_, _, _], [_], _, _ => ⟨_, rfl, rfl⟩
  cases vAL
  obtain ⟨itsCP, vCP, KBCP⟩ := kbn_def (ps := ["one", "other", "thing", "added"]) DFCheckPart (by simp) 0 ["one", "other", "thing"] (fun us its ws => ws ++ its) kwCP
    (fun T kV doc pm an cdv ct us its ws h1 h2 h3 => match us, its, ws, h1, h2, h3 with | [], [_], [_, _, _], _, _, _ => ⟨_, rfl, rfl⟩)
    (fun {vs us its zs ws} a b c => c.append b)
  have mProgram : mg "Program" = _ := He.glo_ok X G (c.fact 16 (f := .glo "Program") rfl)
  have mNotAProgram : mg "NotAProgram" = _ := He.glo_ok X G (c.fact 17 (f := .glo "NotAProgram") rfl)
  have mInvalidWorld : mg "InvalidWorld" = _ := He.glo_ok X G (c.fact 18 (f := .glo "InvalidWorld") rfl)
  have mInvalidKind : mg "InvalidKind" = _ := He.glo_ok X G (c.fact 19 (f := .glo "InvalidKind") rfl)
  have mRuleError : mg "RuleError" = _ := He.glo_ok X G (c.fact 20 (f := .glo "RuleError") rfl)
  have mADDED : mg "ADDED" = _ := He.glo_ok X G (c.fact 21 (f := .glo "ADDED") rfl)
  have T : Bl mg := ⟨He.free_ok X G (c.fact 0 (f := .free "len") rfl), He.free_ok X G (c.fact 1 (f := .free "isinstance") rfl), He.free_ok X G (c.fact 2 (f := .free "all") rfl), He.free_ok X G (c.fact 3 (f := .free "any") rfl), He.free_ok X G (c.fact 4 (f := .free "tuple") rfl), He.free_ok X G (c.fact 5 (f := .free "list") rfl), He.free_ok X G (c.fact 6 (f := .free "sorted") rfl), He.free_ok X G (c.fact 7 (f := .free "set") rfl), He.free_ok X G (c.fact 8 (f := .free "str") rfl), He.free_ok X G (c.fact 9 (f := .free "int") rfl), He.free_ok X G (c.fact 10 (f := .free "max") rfl), He.free_ok X G (c.fact 11 (f := .free "min") rfl), He.free_ok X G (c.fact 12 (f := .free "range") rfl), He.free_ok X G (c.fact 13 (f := .free "enumerate") rfl)⟩
  have Ts := He.free_ok X G (c.fact 14 (f := .free "sum") rfl)
  have mL := He.str_ok X G (c.fact 15 (f := .str "LETTERS" lettersS) rfl)
  have cP := He.cls_ok (c.fact 67 (f := .cls "Program") rfl)
  have nR := He.noat_ok (c.fact 68 (f := .noat "Program" "_rules") rfl)
  have MK := He.mkr_ok (c.fact 69 (f := .mkr "Program") rfl)
  have noNotAProgram := He.noat_ok (c.fact 70 (f := .noat "NotAProgram" "thing") rfl)
  have exNotAProgram := He.exm_ok (c.fact 73 (f := .exm "NotAProgram" "RuleError" true) rfl)
  have noInvalidWorld := He.noat_ok (c.fact 71 (f := .noat "InvalidWorld" "thing") rfl)
  have exInvalidWorld := He.exm_ok (c.fact 74 (f := .exm "InvalidWorld" "RuleError" true) rfl)
  have noInvalidKind := He.noat_ok (c.fact 72 (f := .noat "InvalidKind" "value") rfl)
  have exInvalidKind := He.exm_ok (c.fact 75 (f := .exm "InvalidKind" "RuleError" true) rfl)
  have ce' : (exL K (He.ga K "Program")).all id = true := ce
  have PG := pgC_of (of_decide_eq_true (exL_at ce' 0 rfl)) mProgram cP
  obtain ⟨rd1, rd2⟩ := (of_decide_eq_true (exL_at ce' 1 rfl))
  have CR : CRead K (He.ga K "Program") (.type "type") := ⟨rd1, rd2⟩
  have sf := (exL_at ce' 2 rfl)
  have hA := He.tupB_ok (exL_at ce' 3 rfl)
  have CO := He5.cmet_of (exL_at ce' 22 rfl) (exL_at ce' 23 rfl)
  have CF := He5.cmet_of (exL_at ce' 24 rfl) (exL_at ce' 25 rfl)
  have PR := propP_ok (of_decide_eq_true (exL_at ce' 18 rfl)) (exL_at ce' 19 rfl)
  have PN := propP_ok (of_decide_eq_true (exL_at ce' 20 rfl)) (exL_at ce' 21 rfl)
  have hadd := (of_decide_eq_true (exL_at ce' 26 rfl))
  have jadd := (exL_at ce' 27 rfl)
  have hlen := (of_decide_eq_true (exL_at ce' 28 rfl))
  have jlen := (exL_at ce' 29 rfl)
  obtain ⟨iNotAProgram1, iNotAProgram2⟩ := (of_decide_eq_true (exL_at ce' 5 rfl))
  obtain ⟨iInvalidWorld1, iInvalidWorld2⟩ := (of_decide_eq_true (exL_at ce' 8 rfl))
  obtain ⟨iInvalidKind1, iInvalidKind2⟩ := (of_decide_eq_true (exL_at ce' 11 rfl))
  have EA : ErrA K mg (He.ga K "NotAProgram") (He.ga K "InvalidKind") (He.ga K "RuleError") := ⟨mNotAProgram, mInvalidKind, mRuleError, exNotAProgram, exInvalidKind, excP_ok (of_decide_eq_true (exL_at ce' 6 rfl)), excP_ok (of_decide_eq_true (exL_at ce' 12 rfl)), noNotAProgram, noInvalidKind, (of_decide_eq_true (exL_at ce' 13 rfl)), (of_decide_eq_true (exL_at ce' 14 rfl)), (of_decide_eq_true (exL_at ce' 15 rfl)), (of_decide_eq_true (exL_at ce' 16 rfl)), (of_decide_eq_true (exL_at ce' 17 rfl))⟩
  have emrule0 := emptyB_ok (exL_at ce' 30 rfl)
  have emrule1 := emptyB_ok (exL_at ce' 31 rfl)
  have emrule2 := emptyB_ok (exL_at ce' 32 rfl)
  have emrule3 := emptyB_ok (exL_at ce' 33 rfl)
  have e := hfa_.symm.trans M41
  cases e
  refine ⟨fd41, fun s v => ?_, fun base _ _ => ?_⟩
  · exact FunD.bindsA (ps := ["script"]) D41 (fun _ _ _ _ _ _ us hl => match us, hl with | [_], _ => rfl) s [v] rfl
  have gIsName : ∀ k, FnOk P w K mg base CX0 (k + 1) _ fd0 ["thing"] (spIsName K) := fun k => ok_isName (k := k) F0 T mL
  have gAre : ∀ k, FnOk P w K mg base CX0 (k + 2) _ fd1 ["thing"] (spAreNames K) := fun k => ok_areNames (k := k + 1) F1 T (gIsName k) B0 F0.kp M0
  have gAreL : ∀ k, FnOk P w K mg base CX0 (k + 2) _ fd1 ["thing"] (spAreNamesL K) := fun k => ok_areNamesL (k := k + 1) F1 T (gIsName k) B0 F0.kp M0
  have gAreG : ∀ k, FnOk P w K mg base CX0 (k + 2) _ fd1 ["thing"] (spAreNamesG K) := fun k => ok_areNamesG (gAre k) (gAreL k)
  have gSet : ∀ k, FnOk P w K mg base CX0 (k + 1) _ fd2 ["names"] (spSetOf K) := fun k => ok_setOf (k := k) F2 T
  have gIsW : ∀ k, FnOk P w K mg base CX0 (k + 3) _ fd3 ["thing"] (spIsWorld K) := fun k => ok_isWorld (k := k + 2) F3 T (gAre k) B1 F1.kp M1 (gSet (k + 1)) B2 F2.kp M2
  have gIsR : ∀ k, FnOk P w K mg base CX0 (k + 4) _ fd4 ["thing"] (spIsRule K) := fun k => ok_isRule (k := k + 3) F4 T (gIsW k) B3 F3.kp M3
  have gIsWE : ∀ k, FnOk P w K mg base CX0 (k + 3) _ fd3 ["thing"] (spIsWorldE) := fun k => ok_isWorldE (k := k + 2) F3 T (gAre k) B1 F1.kp M1 (gSet (k + 1)) B2 F2.kp M2
  have gIsWQ : ∀ k, FnOk P w K mg base CX0 (k + 3) _ fd3 ["thing"] (spIsWorldQ K) := fun k => ok_isWorldQ (gIsW k) (gIsWE k)
  have gIsWX : ∀ k, FnOk P w K mg base CX0 (k + 3) _ fd3 ["thing"] (spIsWorldX K) := fun k => ok_isWorldX (gIsW k) (ok_isWorldN (k := k + 2) F3 T (gAre k) B1 F1.kp M1 (gSet (k + 1)) B2 F2.kp M2)
  have gHas : ∀ k, FnOk P w K mg base CX0 (k + 1) _ fd5 ["names", "wanted"] (spHasAll K) := fun k => ok_hasAll (k := k) F5 T
  have xNotAProgram : ∀ k, ErrT P w K mg base (k + 1) "NotAProgram" "thing" (He.ga K "NotAProgram") := fun k => ⟨oexB_ok (exL_at ce' 4 rfl), ⟨_, _, iNotAProgram1, iNotAProgram2, ok_eNotProg (k := k) EENotProg (oexB_ok (exL_at ce' 4 rfl)) noNotAProgram, BENotProg⟩, mNotAProgram⟩
  have xInvalidWorld : ∀ k, ErrT P w K mg base (k + 1) "InvalidWorld" "thing" (He.ga K "InvalidWorld") := fun k => ⟨oexB_ok (exL_at ce' 7 rfl), ⟨_, _, iInvalidWorld1, iInvalidWorld2, ok_eWorld (k := k) EEWorld (oexB_ok (exL_at ce' 7 rfl)) noInvalidWorld, BEWorld⟩, mInvalidWorld⟩
  have xInvalidKind : ∀ k, ErrT P w K mg base (k + 1) "InvalidKind" "value" (He.ga K "InvalidKind") := fun k => ⟨oexB_ok (exL_at ce' 10 rfl), ⟨_, _, iInvalidKind1, iInvalidKind2, ok_eKind (k := k) EEKind (oexB_ok (exL_at ce' 10 rfl)) noInvalidKind, BEKind⟩, mInvalidKind⟩
  have gInit : ∀ k, FnR P w K mg base CX0 (k + 5) _ (spInit K (He.ga K "Program")) := fun k => by
    obtain ⟨oc, od, kV, doc, pm, an, cdv, ct, osl, e, lk, hcd⟩ := FInit.ex
    subst e
    exact ok_init (k := k + 4) lk hcd T cP nR (gIsR k) B4 F4.kp M4
  have gOf : ∀ k, FnR P w K mg base CX0 (k + 7) _ (spOf K (He.ga K "Program")) := fun k => fnr_of (ok_of (k := k + 5) FOf MK (gInit k)) BOf
  have gRules : ∀ k, FnOk P w K mg base CX0 (k + 1) _ fdRules ["self"] (spRules K (He.ga K "Program")) := fun k => ok_rules (k := k) FRules cP nR
  have gNames : ∀ k, FnOk P w K mg base CX0 (k + 1) _ fdNames ["self"] (spNames K (He.ga K "Program")) := fun k => ok_names (k := k) FNames T cP nR
  have gRule : ∀ k, FnOk P w K mg base CX0 (k + 3) _ fdRule ["heads", "needs", "bars", "denied"] (spRuleG K) := fun k => ok_ruleG (k := k + 2) DFRule (gAreG k) B1 F1.kp M1 (gSet (k + 1)) B2 F2.kp M2
  have gFacts : ∀ k, FnR P w K mg base CX0 (k + 7) _ (spFacts K (He.ga K "Program")) := fun k => fnr_of (ok_facts (k := k + 5) FFacts MK (gInit k) (gIsW (k + 3)) B3 F3.kp M3 (gRule (k + 3)) BRule1 vRule1 DFRule.kp MRule emrule1 emrule2 emrule3) BFacts
  have gAdd : ∀ k, FnR P w K mg base (L2.CX P w) (k + 7) _ (spAdd K (He.ga K "Program") (He.ga K "NotAProgram")) := fun k => fnr_of (ok_add (k := k + 5) FAdd T PG nR (xNotAProgram (k + 4)) MK (gInit k)) BAdd
  have gLen : ∀ k, FnR P w K mg base CX0 (k + 1) _ (spPLen K (He.ga K "Program")) := fun k => fnr_of (ok_pLen (k := k) FPLen T cP nR) BPLen
  have gBits : ∀ k, FnOk P w K mg base CX0 (k + 1) _ fd11 ["names"] (spBitsOf K) := fun k => ok_bitsOf (k := k) F11 T
  have gNum : ∀ k, FnOk P w K mg base CX0 (k + 1) _ fd12 ["world", "bits"] (spNumber K) := fun k => ok_number (k := k) F12 T Ts
  have gNumd : ∀ k, FnOk P w K mg base CX0 (k + 3) _ fd13 ["program", "bits"] (spNumbered K (He.ga K "Program")) := fun k => ok_numbered (k := k + 1) F13 T cP PR (gNum (k + 1)) B12 F12.kp M12 (gRules k) BRules
  have gEvery : ∀ k, FnOk P w K mg base CX0 (k + 1) _ fd14 ["names"] (spEvery K) := fun k => ok_every (k := k) F14
  have gAgree : ∀ k, FnOk P w K mg base CX0 (k + 1) _ fd15 ["rows", "here", "there"] (spAgree K) := fun k => ok_agree (k := k) F15
  have gAllMet : ∀ k, FnOk P w K mg base CX0 (k + 1) _ fd17 ["urgent", "here"] (spAllMet K) := fun k => ok_allMet (k := k) F17
  have gFound : ∀ k, FnOk P w K mg base CX0 (k + 2) _ fd16 ["rows", "there"] (spIsFounded K) := fun k => ok_isFounded (k := k + 1) F16 (gAgree k) B15 F15.kp M15 (gAllMet k) B17 F17.kp M17
  have gCP : ∀ k, FnOk P w K mg base (L2.CX P w) (k + 3) _ fd6 ["thing"] (spCheckProgram K (He.ga K "Program") (He.ga K "NotAProgram")) := fun k => ok_checkProgram (k := k + 1) F6 T PG (xNotAProgram k)
  have gCW : ∀ k, FnOk P w K mg base (L2.CX P w) (k + 4) _ fd7 ["thing"] (spCheckWorldQ K (He.ga K "InvalidWorld")) := fun k => ok_checkWorldQ (k := k + 2) F7 (gIsWQ k) B3 F3.kp M3 (xInvalidWorld (k + 1))
  have gCK : ∀ k, FnOk P w K mg base (L2.CX P w) (k + 3) _ fd8 ["thing", "kinds"] (spCheckKind K (He.ga K "InvalidKind")) := fun k => ok_checkKind (k := k + 1) F8 (xInvalidKind k)
  have gAns : ∀ k, FnOk P w K mg base (L2.CX P w) (k + 4) _ fd9 ["program"] (spAnswers K (He.ga K "Program") (He.ga K "NotAProgram")) := fun k => ok_answers (k := k + 2) F9 cP PN (gCP k) B6 F6.kp M6 (gNames (k + 1)) BNames (gBits (k + 2)) B11 F11.kp M11 (gNumd k) B13 F13.kp M13 (gEvery (k + 2)) B14 F14.kp M14 (gFound (k + 1)) B16 F16.kp M16 (gNum (k + 2)) B12 F12.kp M12
  have gIsAns : ∀ k, FnOk P w K mg base (L2.CX P w) (k + 5) _ fd10 ["program", "world"] (spIsAnswer K (He.ga K "Program") (He.ga K "NotAProgram") (He.ga K "InvalidWorld")) := fun k => ok_isAnswer (k := k + 3) F10 cP PN (gCP (k + 1)) B6 F6.kp M6 (gCW k) B7 F7.kp M7 (gNames (k + 2)) BNames (gBits (k + 3)) B11 F11.kp M11 (gNumd (k + 1)) B13 F13.kp M13 (gHas (k + 3)) B5 F5.kp M5 (gFound (k + 2)) B16 F16.kp M16 (gNum (k + 3)) B12 F12.kp M12
  have gAskR : ∀ k, FnOk P w K mg base (L2.CX P w) (k + 4) _ fd18 ["one", "other", "added"] (spAskR K (He.ga K "Program") (He.ga K "NotAProgram") (He.ga K "InvalidKind")) := fun k => ok_askR (k := k + 1) F18 (gCP k) B6 F6.kp M6 (gCK k) B8 F8.kp M8 mADDED hA
  have gFact : ∀ k, FnOk P w K mg base CX0 (k + 1) _ fd19 ["row"] (spIsFact K) := fun k => ok_isFact (k := k) F19 T
  have gMay : ∀ k, FnOk P w K mg base CX0 (k + 3) _ fd20 ["part", "added"] (spMayAdd K (He.ga K "Program")) := fun k => ok_mayAdd (k := k + 1) F20 T cP hlen jlen (gLen k) PR (gRules k) BRules (gFact (k + 1)) B19 F19.kp M19
  have gPar0 : ∀ k, FnOk P w K mg base CX0 (k + 5) _ fd21 ["one", "other"] (spParted0 K (He.ga K "Program")) := fun k => ok_parted0 (k := k + 3) F21 T (gAns k) B9 F9.kp M9
  have gCPt : ∀ k, FnOk P w K mg base (L2.CX P w) (k + 8) _ fdCheckPart ["one", "other", "thing", "added"] (spCheckPart K (He.ga K "Program") (He.ga K "NotAProgram") (He.ga K "InvalidKind")) := fun k => ok_checkPart (k := k + 4) DFCheckPart T mProgram PG cP sf hadd jadd (gAdd k) PN (gNames (k + 5)) BNames (gAskR (k + 3)) B18 F18.kp M18 (gIsWX (k + 4)) B3 F3.kp M3 (gMay (k + 4)) B20 F20.kp M20 (gHas (k + 6)) B5 F5.kp M5 (gIsAns (k + 2)) B10 F10.kp M10
  have gAlike : ∀ k, FnOk P w K mg base (L2.CX P w) (k + 6) _ fdAlike ["one", "other", "added"] (spAlike K (He.ga K "Program") (He.ga K "NotAProgram") (He.ga K "InvalidKind")) := fun k => ok_alike (k := k + 2) DFAlike (gAskR (k + 1)) B18 F18.kp M18 (gPar0 k) B21 F21.kp M21
  have gAt : ∀ k, FnOk P w K mg base CX0 (k + 1) _ fd22 ["script", "k"] (spLawAt K) := fun k => ok_lawAt (k := k) F22 T
  have gMix : ∀ k, FnOk P w K mg base CX0 (k + 1) _ fd23 ["cell", "k"] (spLawMixed) := fun k => ok_lawMixed (k := k) F23 T
  have gPur : ∀ k, FnOk P w K mg base CX0 (k + 2) _ fd24 ["script", "at"] (spLawPurse K) := fun k => ok_lawPurse (k := k + 1) F24 T (gAt k) B22 F22.kp M22
  have gDraw : ∀ k, FnOk P w K mg base CX0 (k + 2) _ fd25 ["purse", "out_of"] (spLawDraw) := fun k => ok_lawDraw (k := k + 1) F25 T (gMix k) B23 F23.kp M23
  have gSome : ∀ k, FnOk P w K mg base CX0 (k + 3) _ fd26 ["purse", "names", "most"] (spLawSome K) := fun k => ok_lawSome (k := k + 2) F26 T (gDraw k) B25 F25.kp M25
  have gRow : ∀ k, FnOk P w K mg base CX0 (k + 4) _ fd27 ["purse", "names", "way"] (spLawRow K) := fun k => ok_lawRow (k := k + 3) F27 T (gDraw (k + 1)) B25 F25.kp M25 (gSome k) B26 F26.kp M26
  have gRows : ∀ k, FnOk P w K mg base CX0 (k + 5) _ fd28 ["purse", "names", "most"] (spLawRows K) := fun k => ok_lawRows (k := k + 4) F28 T (gDraw (k + 2)) B25 F25.kp M25 (gRow k) B27 F27.kp M27
  have gSta : ∀ k, FnOk P w K mg base CX0 (k + 1) _ fd29 ["row", "here", "there"] (spLawStands K) := fun k => ok_lawStands (k := k) F29
  have gHol : ∀ k, FnOk P w K mg base CX0 (k + 2) _ fd30 ["rows", "here", "there"] (spLawHolds K) := fun k => ok_lawHolds (k := k + 1) F30 (gSta k) B29 F29.kp M29
  have gPart : ∀ k, FnOk P w K mg base CX0 (k + 1) _ fd31 ["names"] (spLawParts K) := fun k => ok_lawParts (k := k) F31 T
  have gPair : ∀ k, FnOk P w K mg base CX0 (k + 3) _ fd32 ["rows", "names"] (spLawPairs K) := fun k => ok_lawPairs (k := k + 2) F32 T (gPart (k + 1)) B31 F31.kp M31 (gHol k) B30 F30.kp M30
  have gLNam : ∀ k, FnOk P w K mg base CX0 (k + 1) _ fd33 ["rows"] (spLawNames K) := fun k => ok_lawNames (k := k) F33 T
  have gLAns : ∀ k, FnOk P w K mg base CX0 (k + 4) _ fd34 ["rows"] (spLawAnswers K) := fun k => ok_lawAnswers (k := k + 3) F34 (gLNam (k + 2)) B33 F33.kp M33 (gPair k) B32 F32.kp M32
  have gLFact : ∀ k, FnOk P w K mg base CX0 (k + 1) _ fd35 ["row"] (spLawIsFact K) := fun k => ok_lawIsFact (k := k) F35 T
  have gLWor : ∀ k, FnOk P w K mg base CX0 (k + 1) _ fd37 ["item"] (spLawIsWorld K) := fun k => ok_lawIsWorld (k := k) F37 T
  have gDue : ∀ k, FnOk P w K mg base CX0 (k + 5) _ fd38 ["rows", "item", "added"] (spLawDue K (He.ga K "Program")) := fun k => ok_lawDue (k := k + 2) F38 T mProgram PG cP PR (gRules (k + 2)) BRules (gLWor (k + 3)) B37 F37.kp M37 (gLNam (k + 3)) B33 F33.kp M33 (gLFact (k + 3)) B35 F35.kp M35 (gLAns k) B34 F34.kp M34
  have gThing : ∀ k, FnOk P w K mg base CX0 (k + 8) _ fd36 ["purse", "lhs", "two"] (spLawThing K (He.ga K "Program")) := fun k => ok_lawThing (k := k + 5) F36 T mProgram PG cP CR CO (gOf k) CF (gFacts k) MK (gInit (k + 1)) sf hadd jadd (gAdd k) PR (gRules (k + 5)) BRules (gDraw (k + 5)) B25 F25.kp M25 (gRows (k + 2)) B28 F28.kp M28 (gSome (k + 4)) B26 F26.kp M26 (gLAns (k + 3)) B34 F34.kp M34
  have gLAsk : ∀ k, FnOk P w K mg base CX0 (k + 9) _ fd39 ["way", "lhs", "two", "added"] (spLawAsked K (He.ga K "Program")) := fun k => ok_lawAsked (k := k + 8) F39 T EA (gAlike (k + 2)) BAL DFAlike.kp MAlike (gCPt k) BCP4 DFCheckPart.kp MCheckPart
  have gGreat : ∀ k, FnOk P w K mg base CX0 (k + 9) _ fd40 [] (spGreat) := fun k => ok_great (k := k + 7) F40 T mProgram PG cP CR CO (gOf (k + 1)) CF (gFacts (k + 1)) MK (gInit (k + 2)) sf hadd jadd (gAdd (k + 1)) hlen jlen (gLen (k + 6)) (gCPt k) BCP4 BCP3 vCP3 DFCheckPart.kp MCheckPart (gPart (k + 7)) B31 F31.kp M31
  exact ok_law (k := 8) F41 T mProgram cP CR CO (gOf 2) MK (gInit 3) PR (gRules 7) BRules (gPur 7) B24 F24.kp M24 (gDraw 7) B25 F25.kp M25 (gRows 4) B28 F28.kp M28 (gThing 1) B36 F36.kp M36 (gDue 4) B38 F38.kp M38 (gCPt 1) BCP4 KBCP DFCheckPart.kp MCheckPart (gLAsk 0) B39 F39.kp M39 (gGreat 0) B40 F40.kp M40
end Rw
open PySem PySem.W PySem.Calls PyProof.Rows
theorem PySem.Challenge.cw_ruleworlds_k21_partings_judged_holds : PySem.Challenge.rw_ruleworlds_k21_partings_judged.Holds := by
  w_on; o_law
  refine HandSHeadRun.head_any (r := OpenLaw.row PySem.Challenge.rw_ruleworlds_k21_partings_judged) (q := view (OpenLaw.row PySem.Challenge.rw_ruleworlds_k21_partings_judged).prog [72]) (H := Rw.hH) (ob := Rw.hob) (M := 9000) (loose := Rw.hloose) (d := HandSHeadRun.topDef (OpenLaw.row PySem.Challenge.rw_ruleworlds_k21_partings_judged).prog 72) (kwd := []) Rw.hob_eq
    (by kernel_rfl) (fun s => by kernel_rfl) Rw.hrun (by kernel_rfl) (by kernel_rfl) (by kernel_rfl) (by rfl) (by first | assumption | decide +kernel) (by decide +kernel) ⟨rfl, rfl, rfl, rfl, rfl, by decide +kernel⟩ ?hw ?hc
  case hw => w_witness2
  case hc =>
    refine L2.walk_ofE (l := PySem.Challenge.rw_ruleworlds_k21_partings_judged) (n := 63) (k := 10) (x := "script") (CX := L2.CX0) rfl (by decide) (by kernel_rfl) ⟨rfl, by decide, by decide⟩ ?F (fun _ _ _ _ z => z)
    intro w mg fa h Y G hmg0
    obtain ⟨K, KX, c, ce⟩ := Y
    have hmg : mg ("law" : PySem.Str) = some (.ref fa) := by
      have e : (HandSHeadRun.topDef (OpenLaw.row PySem.Challenge.rw_ruleworlds_k21_partings_judged).prog 72).name = ("law" : PySem.Str) := by kernel_rfl
      rw [← e]
      exact hmg0
    obtain ⟨fd, hb, hF⟩ := Rw.hfacts (P := (PySem.Challenge.rw_ruleworlds_k21_partings_judged).prog) (w := w) KX G hmg c ce
    exact ⟨K, fd, Rw.spLaw K, KX, hb, fun H a ns hl _ hS => ⟨a, ns, rfl, hS, hl, fun _ => rfl⟩, hF⟩
