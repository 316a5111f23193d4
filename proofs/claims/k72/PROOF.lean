import PyProof.Rows.All
import Wide.All
import OpenK.AllK
import Wide.FinOn
import HandS.TupSets
import KE.KeyNested
import KE.KDictKeyed
import KE.SortData
import HandS.SetTxt0
import KE.DataCmp
import HandS.ForMost
import HandS.DictComp
import KE.GoesComp
import KE.GoesMore
import HandS.IsInst
import HandS.Defaults
import HandS.TupAny
import HandS.Deep
import HandS.Style
import HandS.Star
import HandS.ClsMeth
import HandS.Property
import HandS.CallLocal
import HandS.SlotsOwn
import HandS.Exc
import HandS.ExcInit
import HandS.ExcValue
import HandS.ExcIs
import HandS.ExcField
import KE.KStateDown
import HandS.Head0
import HandS.Head1
import HandS.Head2
import HandS.HeadEnd
import HandS.HeadHook1
import HandS.HeadHook2
import HandS.HeadHook3
import HandS.HeadHook4
import HandS.HeadNt
import PySem.Challenge.RW_ruleworlds_k72_whole_programs_split
import HandS.WordsExc
import HandS.SetBool
import PyProof.DictUpdate
import HandS.Dict
import HandS.Walk
import HandS.Iter
import KE.KBits
import KE.KRevSl
import HandS.GenList
import HandS.Comp
import KE.KDictWalk
import HandS.WideBits
import KE.IntBitsLaws
import HandS.Spec
set_option Elab.async false
set_option linter.all false
set_option maxRecDepth 100000
set_option maxHeartbeats 0
namespace Rw
open PySem PySem.Spec PyProof.Rows L2 ClX
/-! ### the head, run -/
def hookY (n : Nat) (fa : List He.Fa) (fn : List He5.DefA) (ex : PySem.W.Frag → Bool) : PySem.W.Hook where
  α := He.AlD × Bool
  obs s := (He5.obsAG n fa fn s.heap.get?, ex (He.frG s.heap.get? (He5.asA s.heap.get? n)))
  val _ := (He5.valA fn, true)
  says _ h := ∃ K : PySem.W.Frag, K.In h ∧ He5.SaysA fa fn K ∧ ex K = true
  of _ s e := ⟨_, He.frG_in, (Prod.mk.inj e).1, (Prod.mk.inj e).2⟩
  keeps _ _ _ | ⟨K, X, a, b⟩, k => ⟨K, fun c o e => k _ _ (X c o e), a, b⟩
def obY (n : Nat) (fa : List He.Fa) (fn : List He5.DefA) (ex : PySem.W.Frag → Bool) (g : Addr → Option Obj) : He.AlD × Bool := (He5.obsAG n fa fn g, ex (He.frG g (He5.asA g n)))
theorem obY_eq {n : Nat} {fa : List He.Fa} {fn : List He5.DefA} {ex : PySem.W.Frag → Bool} {g : Addr → Option Obj} {s : Shared} (h : ∀ a, g a = s.heap.get? a) : obY n fa fn ex g = (hookY n fa fn ex).obs s := by
  have e : g = s.heap.get? := funext h
  subst e
  rfl
def clsB (K : PySem.W.Frag) (C : Addr) (f : List Value → Addr → Bool → Bool) (nid : String) : Bool :=
  match K.lookup C with
  | some ⟨.type t, _, .cls cd, sl⟩ => decide (t = "type" ∧ cd.hasDel = false) && (decide (cd.mro = .ref C :: cd.mro.tail) && (f cd.mro.tail cd.ns cd.hasDict && (match sl with | ⟨[_, _, _, _, some (.builtin i), _]⟩ => decide (i = nid) | _ => false)))
  | _ => false
def oexB (K : PySem.W.Frag) (C : Addr) : Bool := clsB K C (fun bm _ hd => hd && HandSPX.refsVE bm) "ValueError.__new__" && (decide (PySem.W.findIn K (.ref C) "__setattr__" = some (some (.builtin "object.__setattr__"))) && (decide (PySem.W.subIn K (.ref C) (.type "BaseException") = some true) && (decide (PySem.W.typeIn K (.ref C) = some (.type "type")) && PySem.W.keepIn K (.ref C))))
def excP (K : PySem.W.Frag) (D : Addr) : Prop := PySem.W.findIn K (.ref D) "__getattribute__" = some (some (.builtin "BaseException.__getattribute__")) ∧ PySem.W.findIn K (.ref D) "__getattr__" = some none ∧ PySem.W.subIn K (.ref D) (.type "BaseException") = some true ∧ PySem.W.hasDictIn K D = true ∧
  PySem.W.findIn K (.ref D) "__class__" = some (some (.builtin "object.__class__")) ∧ PySem.W.specialIn K (.builtin "object.__class__") "__get__" = some (some (.builtin "getset_descriptor.__get__")) ∧ PySem.W.takesIn K (.builtin "object.__class__") = some true ∧ PySem.W.mroIn K D (.type "object") = some true
instance (K : PySem.W.Frag) (D : Addr) : Decidable (excP K D) := by unfold excP; infer_instance
def initP (K : PySem.W.Frag) (C : Addr) : Prop := PySem.W.findIn K (.ref C) "__init__" = some (some (.ref (He.ma K C "__init__"))) ∧ PySem.W.typeIn K (.ref (He.ma K C "__init__")) = some (.type "function")
instance (K : PySem.W.Frag) (D : Addr) : Decidable (initP K D) := by unfold initP; infer_instance
def propP (K : PySem.W.Frag) (C : Addr) (f : Str) : Prop := PySem.W.findIn K (.ref C) f = some (some (.ref (He.ma K C f))) ∧ PySem.W.specialIn K (.ref (He.ma K C f)) "__get__" = some (some (.builtin "property.__get__")) ∧ PySem.W.takesIn K (.ref (He.ma K C f)) = some true
instance (K : PySem.W.Frag) (D : Addr) (f : Str) : Decidable (propP K D f) := by unfold propP; infer_instance
def recB (K : PySem.W.Frag) (p : Addr) (T : String) : Bool := match PySem.W.recIn K p T with | some (.ref _ :: _) => true | _ => false
def lettersS : Str := ("abcdefghijklmnopqrstuvwxyz" : Str)
def topS (i : Nat) : Stmt := PySem.Challenge.pw_ruleworlds_k72_whole_programs_split.main.body.getD i (.Pass ⟨0, 0, 0, 0⟩)
abbrev sIsName : Stmt := topS 11
abbrev sIsWorld : Stmt := topS 12
abbrev sIsRule : Stmt := topS 13
abbrev sAreNames : Stmt := topS 15
abbrev sSetOf : Stmt := topS 16
abbrev sInit : Stmt := inClass (topS 14) 0
abbrev sOf : Stmt := inClass (topS 14) 1
abbrev sRules : Stmt := inClass (topS 14) 5
abbrev sHasAll : Stmt := topS 23
abbrev sMeet : Stmt := topS 24
abbrev sWithout : Stmt := topS 25
abbrev sNamesIn : Stmt := topS 48
abbrev sRowWithout : Stmt := topS 49
abbrev sAsked : Stmt := topS 50
abbrev sIsAskedFor : Stmt := topS 51
abbrev sENotProg : Stmt := inClass (topS 4) 0
abbrev sEWorld : Stmt := inClass (topS 5) 0
abbrev sESplit : Stmt := inClass (topS 7) 0
abbrev sCheckProgram : Stmt := topS 26
abbrev sCheckWorld : Stmt := topS 27
abbrev sSplits : Stmt := topS 42
abbrev sCheckSplit : Stmt := topS 47
abbrev sLower : Stmt := topS 43
abbrev sRest : Stmt := topS 44
abbrev sNames : Stmt := inClass (topS 14) 6
abbrev sReached : Stmt := topS 52
abbrev sNext : Stmt := topS 53
abbrev sLayers : Stmt := topS 45
abbrev sBitsOf : Stmt := topS 34
abbrev sNumber : Stmt := topS 35
abbrev sNumbered : Stmt := topS 36
abbrev sAgree : Stmt := topS 38
abbrev sAllMet : Stmt := topS 40
abbrev sIsFounded : Stmt := topS 39
abbrev sEvery : Stmt := topS 37
abbrev sAnswers : Stmt := topS 30
abbrev sChosen : Stmt := topS 33
abbrev sMark : Stmt := topS 32
abbrev sPairs : Stmt := topS 29
abbrev sTabInit : Stmt := inClass (topS 31) 0
abbrev sAgainst : Stmt := inClass (topS 31) 1
abbrev sUnmet : Stmt := inClass (topS 31) 3
abbrev sAlone : Stmt := inClass (topS 31) 2
abbrev sRowsOf : Stmt := topS 54
abbrev sWith : Stmt := topS 55
abbrev sAllAns : Stmt := topS 46
abbrev sLawAt : Stmt := topS 57
abbrev sLawMixed : Stmt := topS 58
abbrev sLawPurse : Stmt := topS 59
abbrev sLawDraw : Stmt := topS 60
abbrev sLawSome : Stmt := topS 61
abbrev sLawRule : Stmt := topS 62
abbrev sLawRules : Stmt := topS 63
abbrev sLawLots : Stmt := topS 65
abbrev sLawRight : Stmt := topS 64
abbrev sLaw : Stmt := topS 66
/-! ### what the top has written -/
def dOf (x : Str) (st : Stmt) : He5.DefA := ⟨fun K => He.ga K x, x, x, defArgs st, defBody st, defScope st, [], []⟩
def dOfV (x : Str) (st : Stmt) (v : He.Dv) : He5.DefA := ⟨fun K => He.ga K x, x, x, defArgs st, defBody st, defScope st, [v], []⟩
def dMInit : He5.DefA := ⟨fun K => He.ma K (He.ga K "Program") "__init__", "__init__", "Program.__init__", defArgs sInit, defBody sInit, defScope sInit, [], []⟩
def dMOf : He5.DefA := ⟨fun K => He5.wf K (He.ga K "Program") "classmethod" "of", "of", "Program.of", defArgs sOf, defBody sOf, defScope sOf, [], []⟩
def dMRules : He5.DefA := ⟨fun K => He5.wf K (He.ga K "Program") "property" "rules", "rules", "Program.rules", defArgs sRules, defBody sRules, defScope sRules, [], []⟩
def dMNames : He5.DefA := ⟨fun K => He5.wf K (He.ga K "Program") "property" "names", "names", "Program.names", defArgs sNames, defBody sNames, defScope sNames, [], []⟩
def dMTabInit : He5.DefA := ⟨fun K => He.ma K (He.ga K "Table") "__init__", "__init__", "Table.__init__", defArgs sTabInit, defBody sTabInit, defScope sTabInit, [], []⟩
def dMAgainst : He5.DefA := ⟨fun K => He.ma K (He.ga K "Table") "against", "against", "Table.against", defArgs sAgainst, defBody sAgainst, defScope sAgainst, [], []⟩
def dMUnmet : He5.DefA := ⟨fun K => He.ma K (He.ga K "Table") "_unmet", "_unmet", "Table._unmet", defArgs sUnmet, defBody sUnmet, defScope sUnmet, [], []⟩
def dMAlone : He5.DefA := ⟨fun K => He.ma K (He.ga K "Table") "alone", "alone", "Table.alone", defArgs sAlone, defBody sAlone, defScope sAlone, [], []⟩
def dMENotProg : He5.DefA := ⟨fun K => He.ma K (He.ga K "NotAProgram") "__init__", "__init__", "NotAProgram.__init__", defArgs sENotProg, defBody sENotProg, defScope sENotProg, [.non], []⟩
def dMEWorld : He5.DefA := ⟨fun K => He.ma K (He.ga K "InvalidWorld") "__init__", "__init__", "InvalidWorld.__init__", defArgs sEWorld, defBody sEWorld, defScope sEWorld, [.non], []⟩
def dMESplit : He5.DefA := ⟨fun K => He.ma K (He.ga K "NotASplit") "__init__", "__init__", "NotASplit.__init__", defArgs sESplit, defBody sESplit, defScope sESplit, [.non], []⟩
def hfn1 : List He5.DefA := [dOf "is_name" sIsName, dOf "_are_names" sAreNames, dOf "_set_of" sSetOf, dOf "is_world" sIsWorld, dOf "is_rule" sIsRule, dOf "has_all" sHasAll, dOf "meet" sMeet, dOf "without" sWithout, dOf "_names_in" sNamesIn, dOf "_row_without" sRowWithout, dOf "_asked" sAsked, dOf "_is_asked_for" sIsAskedFor, dOf "check_program" sCheckProgram, dOf "check_world" sCheckWorld, dOf "splits" sSplits, dOf "_check_split" sCheckSplit, dOf "lower" sLower, dOf "rest" sRest, dOf "_reached" sReached, dOf "_next_layer" sNext, dOf "layers" sLayers, dOf "_chosen_names" sChosen, dOf "_bits_of" sBitsOf, dOf "_number" sNumber, dOf "_numbered" sNumbered, dOf "_every_world" sEvery, dOf "_agree" sAgree, dOf "_all_met" sAllMet, dOf "_is_founded" sIsFounded, dOf "answers" sAnswers, dOf "_mark" sMark, dOf "_rows_of_layers" sRowsOf, dOf "_with_layer" sWith, dOf "all_answers" sAllAns, dOf "_law_at" sLawAt, dOf "_law_mixed" sLawMixed, dOf "_law_purse" sLawPurse, dOf "_law_draw" sLawDraw, dOf "_law_some" sLawSome, dOf "_law_rule" sLawRule, dOf "_law_rules" sLawRules, dOf "_law_lots" sLawLots, dOf "_law_right" sLawRight, dOf "law" sLaw]
def hfn2 : List He5.DefA := [dMInit, dMOf, dMRules, dMNames, dMTabInit, dMAgainst, dMUnmet, dMAlone, dMENotProg, dMEWorld, dMESplit]
def hfn3 : List He5.DefA := [dOfV "pairs" sPairs (.non)]
def hfn : List He5.DefA := hfn1 ++ hfn2 ++ hfn3
def hfa1 : List He.Fa := [.free "len", .free "isinstance", .free "all", .free "any", .free "tuple", .free "list", .free "sorted", .free "set", .free "str", .free "int", .free "max", .free "min", .free "range", .free "enumerate", .free "sum", .free "zip", .str "LETTERS" lettersS, .glo "Program", .glo "NotAProgram", .glo "InvalidWorld", .glo "NotASplit", .glo "Table", .glo "is_name", .glo "_are_names", .glo "_set_of"]
def hfa2 : List He.Fa := [.glo "is_world", .glo "is_rule", .glo "has_all", .glo "meet", .glo "without", .glo "_names_in", .glo "_row_without", .glo "_asked", .glo "_is_asked_for", .glo "check_program", .glo "check_world", .glo "splits", .glo "_check_split", .glo "lower", .glo "rest", .glo "_reached", .glo "_next_layer", .glo "layers", .glo "_chosen_names", .glo "_bits_of", .glo "_number", .glo "_numbered", .glo "_every_world", .glo "_agree", .glo "_all_met"]
def hfa3 : List He.Fa := [.glo "_is_founded", .glo "answers", .glo "_mark", .glo "_rows_of_layers", .glo "_with_layer", .glo "all_answers", .glo "_law_at", .glo "_law_mixed", .glo "_law_purse", .glo "_law_draw", .glo "_law_some", .glo "_law_rule", .glo "_law_rules", .glo "_law_lots", .glo "_law_right", .glo "law", .glo "pairs", .cls "Program", .noat "Program" "_rules", .mkr "Program", .cls "Table", .mkr "Table", .meth "Table" "against", .meth "Table" "_unmet", .meth "Table" "alone"]
def hfa4 : List He.Fa := [.noat "Table" "every", .noat "Table" "_here", .noat "Table" "_there", .noat "Table" "_own", .noat "Table" "_around", .noat "NotAProgram" "thing", .noat "InvalidWorld" "thing", .noat "NotASplit" "thing"]
def hfa : List He.Fa := hfa1 ++ hfa2 ++ hfa3 ++ hfa4
/-- more of the classes -/
def pgP (K : PySem.W.Frag) (C : Addr) : Prop := PySem.W.kitOne K (.ref C) (.ref C) = some true ∧ PySem.W.kitOne K (.type "NoneType") (.ref C) = some false ∧ PySem.W.kitOne K (.type "bool") (.ref C) = some false ∧ PySem.W.kitOne K (.type "int") (.ref C) = some false ∧ PySem.W.kitOne K (.type "str") (.ref C) = some false ∧
  PySem.W.kitOne K (.type "list") (.ref C) = some false ∧ PySem.W.kitOne K (.type "tuple") (.ref C) = some false ∧ PySem.W.kitOne K (.type "dict") (.ref C) = some false ∧ PySem.W.findIn K (.ref C) "__class__" = some (some (.builtin "object.__class__")) ∧
  PySem.W.specialIn K (.builtin "object.__class__") "__get__" = some (some (.builtin "getset_descriptor.__get__")) ∧ PySem.W.takesIn K (.builtin "object.__class__") = some true ∧ PySem.W.mroIn K C (.type "object") = some true
instance (K : PySem.W.Frag) (C : Addr) : Decidable (pgP K C) := by unfold pgP; infer_instance
def readP (K : PySem.W.Frag) (C : Addr) : Prop := PySem.W.readsIn K C (.type "type") = true ∧ PySem.W.specialIn K (.ref C) "__getattribute__" = some (some (.builtin "type.__getattribute__"))
instance (K : PySem.W.Frag) (C : Addr) : Decidable (readP K C) := by unfold readP; infer_instance
def exL0 (K : PySem.W.Frag) (C : Addr) : List Bool := [decide (pgP K C), decide (readP K C), oexB K (He.ga K "NotAProgram"), decide (initP K (He.ga K "NotAProgram")), oexB K (He.ga K "InvalidWorld"), decide (initP K (He.ga K "InvalidWorld")), oexB K (He.ga K "NotASplit"), decide (initP K (He.ga K "NotASplit")), decide (propP K C "rules"), recB K (He.ma K C "rules") "property", decide (propP K C "names"), recB K (He.ma K C "names") "property"]
def exL1 (K : PySem.W.Frag) (C : Addr) : List Bool := [He5.wrapB K C "classmethod" "classmethod.__get__" "of", PySem.W.fnIn K (He5.wf K C "classmethod" "of")]
def exL (K : PySem.W.Frag) (C : Addr) : List Bool := exL0 K C ++ exL1 K C
def exB (K : PySem.W.Frag) : Bool := (exL K (He.ga K "Program")).all id
abbrev hR : PySem.W.OpenRow := PySem.W.OpenLaw.row PySem.Challenge.rw_ruleworlds_k72_whole_programs_split
abbrev hH : PySem.W.Hook := hookY 6 hfa hfn exB
def hob (s : PySem.W.SharedT) : He.AlD × Bool := obY 6 hfa hfn exB (HandSHeadRun.getT s)
theorem hob_eq (s : PySem.W.SharedT) : hob s = hH.obs s.abs := obY_eq (HandSHeadRun.getT_eq s)
def hloose1 : List Str := ["_wall", "RuleError", "InvalidRule", "NotAProgram", "InvalidWorld", "Unreadable", "NotASplit", "LETTERS", "NOT", "is_name", "is_world", "is_rule", "Program", "_are_names", "_set_of", "_written_rule", "_with_not", "_read_rule", "_halves", "_without_not", "has_all", "meet", "without", "check_program", "check_world", "pairs", "answers", "Table", "_mark", "_chosen_names"]
def hloose2 : List Str := ["_bits_of", "_number", "_numbered", "_every_world", "_agree", "_is_founded", "_all_met", "splits", "lower", "rest", "layers", "all_answers", "_check_split", "_names_in", "_row_without", "_asked", "_is_asked_for", "_reached", "_next_layer", "_rows_of_layers", "_with_layer", "_law_at", "_law_mixed", "_law_purse", "_law_draw", "_law_some", "_law_rule", "_law_rules", "_law_right", "_law_lots"]
def hloose : List Str := hloose1 ++ hloose2
theorem hrun (w : World) : HandSHeadRun.RunEq hR (PySem.W.view hR.prog [66]) hH hob 9000 hloose w := by
  intro os
  kernel_rfl
end Rw
/-! Sets whose members are texts, or tuples of texts and of such tuples: made of a list or a tuple, and gathered again. -/
namespace Rw
open PySem PySem.Spec PyProof.Rows L2
abbrev NK := NestedKey
section
variable {P : Program} {w : World}
/-! no class statement stands in a key -/
mutual
theorem noCls : ∀ (k : NK) (v : Value) (n : Nat) (A : Around) (E : Value → Shared → Prop) (s : Shared) (Q : Bool → Shared → Prop), NestedIs s.heap k v → k.depth ≤ n → Q false s → wpAny (model P w) A (ofAClassStatement n v) Q E s
  | .none, _, n, A, E, s, Q, x, _, h => by
    cases x
    cases n <;> exact wpAny_pure h
  | .num i, _, n, A, E, s, Q, x, _, h => by
    cases x <;> cases n <;> exact wpAny_pure h
  | .text y, _, n, A, E, s, Q, x, _, h => by
    cases x
    cases n <;> exact wpAny_pure h
  | .tup ks, _, n, A, E, s, Q, x, hn, h => by
    cases x with
    | @tup a o vs m _ hg hc hd hk =>
      simp only [NestedKey.depth] at hn
      cases n with
      | zero => omega
      | succ n =>
        have hT : s.TypeIs (.ref a) "tuple" := ⟨o, hg, hc⟩
        unfold ofAClassStatement
        refine wpAny_bind (wpAny_typeOf hT ?_)
        dsimp only
        have e : (("tuple" : String) == "tuple") = true := by decide
        simp only [e, if_true, Bool.not_true, Bool.false_eq_true, if_false]
        try refine wpAny_bind (wpAny_pure ?_)
        try simp only [Bool.not_true, Bool.false_eq_true, if_false]
        show wpAny _ _ (seqItems? (.ref a) >>= _) _ _ s
        refine wpAny_bind (wpAny_seqItems hg hd ?_)
        dsimp only
        refine wpAny_bind ?_
        show wpAny _ _ (forIn vs _ _) _ _ s
        rw [← Array.forIn_toList]
        refine noClsAll ks vs.toList n A E s _ hk (by omega) ?_
        exact wpAny_pure h
theorem noClsAll : ∀ (ks : List NK) (vs : List Value) (n : Nat) (A : Around) (E : Value → Shared → Prop) (s : Shared) (Q : Option Bool × Unit → Shared → Prop), NestedAll s.heap ks vs → NestedKey.depthAll ks ≤ n → Q (none, ()) s →
    wpAny (model P w) A (forIn vs ((none, ()) : Option Bool × Unit) fun y r => do if ← ofAClassStatement n y then pure (ForInStep.done (some true, ())) else pure (ForInStep.yield (none, ()))) Q E s
  | [], _, n, A, E, s, Q, x, _, h => by
    cases x
    exact wpAny_pure h
  | k :: ks, _, n, A, E, s, Q, x, hn, h => by
    cases x with
    | cons x1 x2 =>
      simp only [NestedKey.depthAll] at hn
      rw [List.forIn_cons]
      refine wpAny_bind (wpAny_bind (noCls k _ n A E s _ x1 (by omega) ?_))
      simp only [Bool.false_eq_true, if_false]
      refine wpAny_pure ?_
      exact noClsAll ks _ n A E s Q x2 (by omega) h
end
/-! whether a key is hashed by its value: either answer -/
mutual
theorem byVal : ∀ (k : NK) (v : Value) (n : Nat) (A : Around) (E : Value → Shared → Prop) (s : Shared) (Q : Bool → Shared → Prop), NestedIs s.heap k v → (∀ b, Q b s) → wpAny (model P w) A (hashByValue n v) Q E s
  | .none, _, n, A, E, s, Q, x, h => by
    cases x
    cases n <;> exact wpAny_pure (h _)
  | .num i, _, n, A, E, s, Q, x, h => by
    cases x <;> cases n <;> exact wpAny_pure (h _)
  | .text y, _, n, A, E, s, Q, x, h => by
    cases x
    cases n <;> exact wpAny_pure (h _)
  | .tup ks, _, n, A, E, s, Q, x, h => by
    cases x with
    | @tup a o vs m _ hg hc hd hk =>
      cases n with
      | zero => exact wpAny_pure (h _)
      | succ n =>
        have hT : s.TypeIs (.ref a) "tuple" := ⟨o, hg, hc⟩
        unfold hashByValue
        refine wpAny_bind (wpAny_specialOf hT F.slot_tuple_hash.lookup ?_)
        show wpAny _ _ (seqItems? (.ref a) >>= _) _ _ s
        refine wpAny_bind (wpAny_seqItems hg hd ?_)
        refine wpAny_bind ?_
        show wpAny _ _ (forIn vs _ _) _ _ s
        rw [← Array.forIn_toList]
        refine byValAll ks vs.toList n A E s _ hk ?_ ?_
        · exact wpAny_pure (h _)
        · exact wpAny_pure (h _)
theorem byValAll : ∀ (ks : List NK) (vs : List Value) (n : Nat) (A : Around) (E : Value → Shared → Prop) (s : Shared) (Q : Option Bool × Unit → Shared → Prop), NestedAll s.heap ks vs → Q (none, ()) s → Q (some false, ()) s →
    wpAny (model P w) A (forIn vs ((none, ()) : Option Bool × Unit) fun y r => do if !(← hashByValue n y) then pure (ForInStep.done (some false, ())) else pure (ForInStep.yield (none, ()))) Q E s
  | [], _, n, A, E, s, Q, x, h, _ => by
    cases x
    exact wpAny_pure h
  | k :: ks, _, n, A, E, s, Q, x, h, h2 => by
    cases x with
    | cons x1 x2 =>
      rw [List.forIn_cons]
      refine wpAny_bind (wpAny_bind (byVal k _ n A E s _ x1 fun b => ?_))
      cases b with
      | true =>
        simp only [Bool.not_true, Bool.false_eq_true, if_false]
        refine wpAny_pure ?_
        exact byValAll ks _ n A E s Q x2 h h2
      | false =>
        simp only [Bool.not_false, if_true]
        exact wpAny_pure (wpAny_pure h2)
end
end
/-! ### sets of tuples -/
/-- a tuple that is a key, not too deep -/
def TupK (h : Heap) (k : NK) (a : Addr) : Prop := NestedIs h k (.ref a) ∧ k.depth ≤ 8
theorem TupK.one {h : Heap} {k k' : NK} {a : Addr} (x : TupK h k a) (y : TupK h k' a) : k = k' := NestedIs.inj _ _ _ x.1 y.1
theorem TupK.kept {h h' : Heap} {k : NK} {a : Addr} (x : TupK h k a) (u : ∀ b o, h.get? b = some o → h'.get? b = some o) : TupK h' k a :=
  ⟨NestedIs.at (fun b o _ _ e _ => u b o e) _ _ x.1, x.2⟩
/-- all but a set stays -/
theorem TupK.butSet {h h' : Heap} {k : NK} {a b : Addr} {o : Obj} {es : Array (Int × Value)} {ep : Nat} {t : SetTable} (x : TupK h k b) (ho : h.get? a = some o) (hd : o.data = .set es ep t) (sb : Heap.SameBut a h h') : TupK h' k b := by
  refine ⟨NestedIs.at (fun c u vs n e es' => (sb.2 c ?_).trans e) _ _ x.1, x.2⟩
  intro z
  subst z
  have q : u = o := Option.some.inj (e.symm.trans ho)
  rw [q, hd] at es'
  exact nomatch es'
/-- the entries of a table -/
def ents (w : World) (L : List (Addr × NK)) : List (Int × Value) := L.map fun p => (p.2.hash w, Value.ref p.1)
def hashes (w : World) (L : List (Addr × NK)) : List Int := L.map fun p => p.2.hash w
theorem ents_len (w : World) (L : List (Addr × NK)) : (ents w L).length = L.length := List.length_map _
theorem hashes_len (w : World) (L : List (Addr × NK)) : (hashes w L).length = L.length := List.length_map _
structure TSet (P : Program) (w : World) (h : Heap) (a : Addr) (L : List (Addr × NK)) (es : Array (Int × Value)) (ep : Nat) (t : SetTable) : Prop where
  ob : ∃ o, h.get? a = some o ∧ o.ExactSet ∧ o.data = .set es ep t
  en : es.toList = ents w L
  tab : TabOk t (hashes w L)
  nd : (L.map (·.2)).Nodup
  ks : ∀ p ∈ L, TupK h p.2 p.1
  led : w.params.followText "set-order" = true ∨ t.led = true
  room : L.length * 5 < t.mask * 3
  few : L.length < 76
section
variable {P : Program} {w : World} {A : Around} {E : Value → Shared → Prop} {s : Shared} {a : Addr} {L : List (Addr × NK)} {es : Array (Int × Value)} {ep : Nat} {t : SetTable}
theorem size_of_ents (h : es.toList = ents w L) : es.size = L.length := by
  rw [← Array.length_toList, h, ents_len]
theorem TSet.fits (R : TSet P w s.heap a L es ep t) : t.fits es.size = true := by
  have a1 := R.tab.sz
  have a2 := size_of_ents R.en
  have a3 := R.room
  rw [hashes_len] at a1
  unfold SetTable.fits SetTable.fill
  rw [R.tab.dm, Bool.and_eq_true, beq_iff_eq, decide_eq_true_eq]
  refine ⟨by omega, ?_⟩
  show t.place.size + 0 ≤ t.mask
  omega
theorem TSet.at (R : TSet P w s.heap a L es ep t) {i : Nat} {p : Addr × NK} (h : L[i]? = some p) : es[i]? = some (p.2.hash w, Value.ref p.1) := by
  rw [← Array.getElem?_toList, R.en]
  unfold ents
  rw [List.getElem?_map, h]
  rfl
/-- nobody sees a search among such tuples -/
theorem unseen {k : NK} {b : Addr} {Q : Bool → Shared → Prop} (hk : TupK s.heap k b) {ys : List Value} (hy : ∀ y ∈ ys, ∃ k' c, y = Value.ref c ∧ TupK s.heap k' c) (h : Q false s) : wpAny (model P w) A (searchCouldBeSeen (.ref b) ys) Q E s := by
  unfold searchCouldBeSeen
  refine wpAny_bind ?_
  refine wpAny_forIn_list _ (fun rest r s' => r.1 = none ∧ s' = s ∧ ∀ y ∈ rest, ∃ k' c, y = Value.ref c ∧ TupK s.heap k' c) _ ?turn ?last _ _ ⟨rfl, rfl, hy⟩
  case turn =>
    rintro v rest r s' ⟨hr, rfl, all⟩
    obtain ⟨k', c, rfl, hc⟩ := all v List.mem_cons_self
    have more : ∀ y ∈ rest, ∃ k' c, y = Value.ref c ∧ TupK s'.heap k' c := fun u hu => all u (List.mem_cons_of_mem _ hu)
    dsimp only
    by_cases hv : (b == c || (carriedByValue (.ref b) && carriedByValue (.ref c))) = true
    · exact wp_if_pos hv (wpAny_pure ⟨rfl, rfl, more⟩)
    · refine wp_if_neg hv (wpAny_bind ((nestedKind P w).quiet (k := k) hk ?_))
      simp only [Bool.not_true, Bool.false_eq_true, if_false]
      refine wpAny_bind ((nestedKind P w).quiet (k := k') hc ?_)
      simp only [Bool.not_true, Bool.false_eq_true, if_false]
      refine wpAny_bind (noCls k _ 8 _ _ _ _ hk.1 hk.2 ?_)
      simp only [Bool.false_eq_true, if_false]
      refine wpAny_bind (noCls k' _ 8 _ _ _ _ hc.1 hc.2 ?_)
      simp only [Bool.false_eq_true, if_false]
      exact wpAny_pure ⟨rfl, rfl, more⟩
  case last =>
    rintro ⟨r1, r2⟩ s' ⟨hr, rfl, _⟩
    simp only at hr
    subst hr
    exact wpAny_pure h
end
/-! ### the search -/
/-- the states of a search for the hash g, one after the other -/
def st (m : Nat) (g : Int) (c : Nat) : SetTable.Probe := nth m (runAt m (SetTable.bits g % (m + 1)) (SetTable.bits g)) c
theorem st_way (m : Nat) (g : Int) (c : Nat) : (st m g c).j = way m g c := rfl
theorem st_more (m : Nat) (g : Int) (c q : Nat) : nth m (st m g c) q = st m g (c + q) := (nth_add m c _ q).symm
theorem nth_dummy (m : Nat) : ∀ (n : Nat) (p : SetTable.Probe), p.dummy = none → (nth m p n).dummy = none
  | 0, _, h => h
  | n + 1, p, h => nth_dummy m n (adv m p) (by unfold adv; split <;> exact h)
theorem st_dummy (m : Nat) (g : Int) (c : Nat) : (st m g c).dummy = none := nth_dummy m c _ rfl
section
variable {P : Program} {w : World} {A : Around} {E : Value → Shared → Prop} {s : Shared} {a : Addr} {L : List (Addr × NK)} {es : Array (Int × Value)} {ep : Nat} {t : SetTable}
theorem hunt (R : TSet P w s.heap a L es ep t) {x : Addr} {k : NK} (hx : TupK s.heap k x) (hu : A.units + 8 < cLine) {g : Int} (hg : g = k.hash w) {K : Nat} (hf : K < 10 * SetTable.turns t.mask)
    (free : way t.mask g K ∉ t.place.toList) (full : ∀ c, c < K → way t.mask g c ∈ t.place.toList) {Q : SetFound → Shared → Prop}
    (yes : k ∈ L.map (·.2) → Q (.there none) s) (no : k ∉ L.map (·.2) → Q (.free (way t.mask g K) false) s) :
    ∀ (f c : Nat) (stand : Option SetTable.Probe), stand.getD (t.probeStart g) = st t.mask g c → c ≤ K → K - c < f →
      (∀ (i : Nat) p, L[i]? = some p → p.2 = k → ∃ c', c ≤ c' ∧ c' < K ∧ t.place.toList[i]? = some (way t.mask g c')) →
      wpAny (model P w) A (setSearchFrom a (.ref x) g true f stand) Q E s
  | 0, c, stand, _, _, h, _ => absurd h (Nat.not_lt_zero _)
  | f + 1, c, stand, hst, hc, hlt, ahead => by
    obtain ⟨o, ho, hex, hd⟩ := R.ob
    have big := R.fits
    have hashOf : ∀ (i : Nat) p, L[i]? = some p → (es[i]?.map (·.1)).getD 0 = p.2.hash w := fun i p hp => by
      rw [R.at hp]
      rfl
    have oddM := mask_odd R.tab.mok
    rw [setSearchFrom_succ]
    refine wpAny_bind (wpAny_setState_of ho hd big ?_)
    dsimp only
    refine wp_if_neg (by unfold SetTable.gaveWay; rw [oddM]; decide) ?_
    try refine wpAny_bind (wpAny_pure ?_)
    have jAt : ∀ q, (nth t.mask (st t.mask g c) q).j = way t.mask g (c + q) := fun q => congrArg SetTable.Probe.j (st_more t.mask g c q)
    rcases go_spec t R.tab.ris R.tab.dm (fun i => (es[i]?.map (·.1)).getD 0) g (10 * SetTable.turns t.mask) (K - c) (st t.mask g c) (st_dummy _ _ _) (by omega)
      (fun q hq => by rw [jAt]; exact full (c + q) (by omega)) (by rw [jAt, show c + (K - c) = K by omega]; exact free) with ⟨q, i, hq, hi, hh, first, met⟩ | ⟨none_, met⟩
    · -- an entry of this hash
      have met' : t.probe (fun i => (es[i]?.map (·.1)).getD 0) g (stand.getD (t.probeStart g)) = some (.candidate (way t.mask g (c + q)) i (st t.mask g (c + (q + 1)))) := by
        rw [hst, ← jAt, ← st_more]
        exact met
      rw [met']
      dsimp only
      rw [jAt] at hi
      have il : i < L.length := by
        have z1 : i < t.place.toList.length := (List.getElem?_eq_some_iff.mp hi).1
        have z2 := R.tab.sz
        rw [hashes_len] at z2
        rw [Array.length_toList] at z1
        omega
      obtain ⟨p, hp⟩ : ∃ p, L[i]? = some p := ⟨L[i], List.getElem?_eq_getElem il⟩
      have pm : p ∈ L := List.mem_of_getElem? hp
      have pk := R.ks p pm
      have go : wpAny (model P w) A (searchRest a (.ref x) g true f es t (way t.mask g (c + q)) i (st t.mask g (c + (q + 1)))) Q E s := by
        unfold searchRest
        rw [R.at hp]
        dsimp only
        refine wpAny_bind (wpAny_holding ((nestedKind P w).eqBool (x := p.2) (y := k) hu pk hx ?_))
        refine wpAny_bind (wpAny_setState_of ho hd big ?_)
        dsimp only
        by_cases same : p.2 = k
        · refine wp_if_pos (by simp [same]) (wpAny_pure (yes ?_))
          exact List.mem_map.mpr ⟨p, pm, same⟩
        · refine wp_if_neg (by simp [same]) ?_
          try refine wpAny_bind (wpAny_pure ?_)
          rw [sameMem]
          dsimp only
          have live : t.slot (way t.mask g (c + q)) = .live i := slot_live R.tab.ris hi
          simp only [if_true, live, R.at hp]
          refine wpAny_bind (wpAny_isSame_ref_self (wpAny_bind (wpAny_pure ?_)))
          simp only [if_true]
          refine wp_if_neg (by simp [same]) ?_
          refine hunt R hx hu hg hf free full yes no f (c + (q + 1)) _ rfl (by omega) (by omega) fun i0 p0 h0 k0 => ?_
          obtain ⟨c', b1, b2, b3⟩ := ahead i0 p0 h0 k0
          refine ⟨c', ?_, b2, b3⟩
          by_cases ec : c' = c + q
          · exfalso
            rw [ec] at b3
            have l0 := slot_live R.tab.ris b3
            rw [live] at l0
            injection l0 with l0
            rw [← l0, hp] at h0
            exact same ((congrArg Prod.snd (Option.some.inj h0)).trans k0)
          · by_cases lt : c' < c + q
            · exfalso
              refine first (c' - c) i0 (by omega) (by rw [jAt, show c + (c' - c) = c' by omega]; exact b3) ?_
              show (es[i0]?.map (·.1)).getD 0 = g
              rw [hashOf i0 p0 h0, k0, hg]
            · omega
      by_cases hl : t.led = true
      · refine wp_if_neg (by simp [hl]) ?_
        try refine wpAny_bind (wpAny_pure ?_)
        exact go
      · refine wp_if_pos (by simp [hl]) (wpAny_bind (unseen hx (fun y hy => ?_) ?_))
        · obtain ⟨e, he, ee⟩ := List.mem_map.mp hy
          have he1 : e ∈ es ∧ e.1 = g := by simpa using he
          have he2 : e ∈ es.toList := by simpa using he1.1
          rw [R.en] at he2
          obtain ⟨p2, hp2, e2⟩ := List.mem_map.mp he2
          exact ⟨p2.2, p2.1, by rw [← ee, ← e2], R.ks p2 hp2⟩
        · refine wp_if_neg (by decide) ?_
          try refine wpAny_bind (wpAny_pure ?_)
          exact go
    · -- a free slot
      have met' : t.probe (fun i => (es[i]?.map (·.1)).getD 0) g (stand.getD (t.probeStart g)) = some (.empty (way t.mask g K) none) := by
        have e2 : way t.mask g K = (nth t.mask (st t.mask g c) (K - c)).j := by
          rw [jAt, show c + (K - c) = K by omega]
        rw [hst, e2]
        exact met
      rw [met']
      dsimp only
      refine wpAny_pure (no fun hm => ?_)
      obtain ⟨p0, m0, k0⟩ := List.mem_map.mp hm
      obtain ⟨i0, hi0, e0⟩ := List.getElem_of_mem m0
      have h0 : L[i0]? = some p0 := by rw [List.getElem?_eq_getElem hi0, e0]
      obtain ⟨c', b1, b2, b3⟩ := ahead i0 p0 h0 k0
      refine none_ (c' - c) i0 (by omega) (by rw [jAt, show c + (c' - c) = c' by omega]; exact b3) ?_
      show (es[i0]?.map (·.1)).getD 0 = g
      rw [hashOf i0 p0 h0, k0, hg]
theorem hunted (R : TSet P w s.heap a L es ep t) {x : Addr} {k : NK} (hx : TupK s.heap k x) (hu : A.units + 8 < cLine) {Q : SetFound → Shared → Prop} (yes : k ∈ L.map (·.2) → Q (.there none) s)
    (no : ∀ K, k ∉ L.map (·.2) → way t.mask (k.hash w) K ∉ t.place.toList → (∀ c, c < K → way t.mask (k.hash w) c ∈ t.place.toList) → Q (.free (way t.mask (k.hash w) K) false) s) :
    wpAny (model P w) A (setSearch a (.ref x) (k.hash w) true) Q E s := by
  have space := R.room
  obtain ⟨K, kf, free, full⟩ := R.tab.first (by rw [hashes_len]; omega) (k.hash w)
  have small : K < 100000 := by
    have : 10 * SetTable.turns t.mask ≤ 1420 := by
      unfold SetTable.turns
      rcases R.tab.mok with e | e | e <;> omega
    omega
  unfold setSearch
  refine hunt R hx hu rfl kf free full yes (fun hn => no K hn free full) 100000 0 none rfl (Nat.zero_le _) (by omega) fun i p hp hk => ?_
  have hi : (hashes w L)[i]? = some (k.hash w) := by
    unfold hashes
    rw [List.getElem?_map, hp, ← hk]
    rfl
  have il : i < t.place.toList.length := by
    have z1 : i < L.length := (List.getElem?_eq_some_iff.mp hp).1
    have z2 := R.tab.sz
    rw [hashes_len] at z2
    rw [Array.length_toList]
    omega
  have hj := List.getElem?_eq_getElem il
  obtain ⟨c, hc, e⟩ := R.tab.before free hi hj
  exact ⟨c, Nat.zero_le _, hc, by rw [hj, e]⟩
end
/-! ### one put in -/
theorem relist {w : World} (L : List (Addr × NK)) (es : Array (Int × Value)) (order : Array Nat) (he : es.toList = ents w L) (hp : order.toList.Perm (List.range L.length)) :
    ∃ L2, (order.filterMap (es[·]?)).toList = ents w L2 ∧ L2.Perm L ∧ hashes w L2 = order.toList.map fun i => (es.map (·.1)).getD i 0 := by
  have one : ∀ i (h : i < L.length), es[i]? = some ((L[i]).2.hash w, Value.ref (L[i]).1) := fun i h => by
    rw [← Array.getElem?_toList, he]
    unfold ents
    rw [List.getElem?_map, List.getElem?_eq_getElem h]
    rfl
  have all : ∀ l : List Nat, (∀ i ∈ l, i < L.length) → l.filterMap (fun i => es[i]?) = ents w (l.filterMap fun i => L[i]?) ∧ hashes w (l.filterMap fun i => L[i]?) = l.map fun i => (es.map (·.1)).getD i 0 := by
    intro l
    induction l with
    | nil => exact fun _ => ⟨rfl, rfl⟩
    | cons i l ih =>
      intro hl
      have hi := hl i List.mem_cons_self
      obtain ⟨e1, e2⟩ := ih fun j hj => hl j (List.mem_cons_of_mem _ hj)
      rw [List.filterMap_cons_some (List.getElem?_eq_getElem hi), List.filterMap_cons_some (one i hi), e1, List.map_cons, ← e2]
      refine ⟨rfl, ?_⟩
      have e5 : (es.map (·.1))[i]? = some ((L[i]).2.hash w) := by
        rw [Array.getElem?_map, one i hi]
        rfl
      have e4 : (es.map (·.1)).getD i 0 = (L[i]).2.hash w := by simp [Array.getD_eq_getD_getElem?, e5]
      rw [e4]
      rfl
  obtain ⟨e1, e2⟩ := all order.toList fun i hi => List.mem_range.mp (hp.mem_iff.mp hi)
  refine ⟨order.toList.filterMap fun i => L[i]?, by first | (rw [Array.toList_filterMap]; exact e1) | simpa using e1, ?_, e2⟩
  have z := hp.filterMap fun i => L[i]?
  rw [List.filterMap_getElem?_range_length] at z
  exact z
theorem TabOk.unplain {t : SetTable} {hs : List Int} (T : TabOk t hs) : TabOk { t with plain := false } hs := ⟨T.ris, T.dm, T.sz, T.mok, T.bd, T.reach⟩
section
variable {P : Program} {w : World} {A : Around} {E : Value → Shared → Prop} {s : Shared} {a : Addr} {L : List (Addr × NK)} {es : Array (Int × Value)} {ep : Nat} {t : SetTable}
theorem relaid_at {o : Obj} (ho : s.heap.get? a = some o) (hex : o.ExactSet) (hd : o.data = .set es ep t) (en : es.toList = ents w L) (tab : TabOk t (hashes w L)) (hfl : L.length ≤ t.mask)
    (nd : (L.map (·.2)).Nodup) (ks : ∀ p ∈ L, TupK s.heap p.2 p.1) (ld : w.params.followText "set-order" = true ∨ t.led = true) (few : L.length < 76) {wanted M : Nat}
    (hw : SetTable.sizeAbove wanted - 1 = M) (hM : MaskOk M) (hw2 : SetTable.sizeAbove wanted ≤ 128) (hn : L.length * 5 < M * 3) {Q : Unit → Shared → Prop}
    (hQ : ∀ h' L' es' ep' t', Heap.SameBut a s.heap h' → TSet P w h' a L' es' ep' t' → L'.Perm L → Q () { s with heap := h' }) : wpAny (model P w) A (setRelay a wanted) Q E s := by
  have hsl := size_of_ents en
  have hps : t.place.size = es.size := by rw [tab.sz, hashes_len, hsl]
  have fits : t.fits es.size = true := by
    unfold SetTable.fits SetTable.fill
    rw [tab.dm, Bool.and_eq_true, beq_iff_eq, decide_eq_true_eq]
    refine ⟨hps, ?_⟩
    show t.place.size + 0 ≤ t.mask
    omega
  obtain ⟨t', order, e, hp, T, em, el, _, _⟩ := relaid_ok t (hs := es.map (·.1)) (wanted := wanted) hw hM (by rw [Array.size_map, hsl]; omega)
  rw [Array.size_map, hsl] at hp
  obtain ⟨L2, r1, r2, r3⟩ := relist L es order en hp
  rw [← r3] at T
  have hs2 : (order.filterMap (es[·]?)).size = es.size := by rw [size_of_ents r1, r2.length_eq, hsl]
  rw [setRelay_eq]
  refine wpAny_bind (wpAny_setState_of ho hd fits ?_)
  dsimp only
  refine wp_if_neg (by rw [sizeLine_eq]; omega) ?_
  try refine wpAny_bind (wpAny_pure ?_)
  rw [e]
  dsimp only
  refine wpAny_bind (wp_if_neg (by rw [hs2]; simp) ?_)
  try refine wpAny_bind (wpAny_pure ?_)
  refine wpAny_pure ?_
  dsimp only
  refine wpAny_storeSet_of ho hd ?_ (by rw [hs2, hsl, sizeLine_eq]; omega)
  have sb : Heap.SameBut a s.heap (s.heap.update a (Obj.putSet (order.filterMap (es[·]?)) t')) := Heap.SameBut.update ..
  refine hQ _ L2 (order.filterMap (es[·]?)) (ep + 1) t' sb ⟨⟨_, store_at ho hd, ⟨hex.1, hex.2.1, hex.2.2⟩, rfl⟩, r1, T, (r2.map (·.2)).nodup_iff.mpr nd, fun p hpm => (ks p (r2.mem_iff.mp hpm)).butSet ho hd sb, by rw [el]; exact ld, ?_, by rw [r2.length_eq]; exact few⟩ r2
  rw [r2.length_eq, em]
  exact hn
/-- adding -/
theorem added (R : TSet P w s.heap a L es ep t) {x : Addr} {k : NK} (hx : TupK s.heap k x) (hu : A.units + 8 < cLine) (hfew : L.length + 1 < 76) {Q : Bool → Shared → Prop}
    (hQ : ∀ b h' L' es' ep' t', Heap.SameBut a s.heap h' → TSet P w h' a L' es' ep' t' → (k ∈ L.map (·.2) → L' = L) → (k ∉ L.map (·.2) → L'.Perm ((x, k) :: L)) → Q b { s with heap := h' }) :
    wpAny (model P w) A (setAddHashed a (.ref x) (k.hash w)) Q E s := by
  obtain ⟨o, ho, hex, hd⟩ := R.ob
  have hsl := size_of_ents R.en
  have hroom := R.room
  unfold setAddHashed
  refine wpAny_holding ?_
  rw [show (100000 : Nat) = 99999 + 1 from rfl, setAddHashedIn_succ]
  refine wpAny_bind (wpAny_setState_of ho hd R.fits ?_)
  dsimp only
  refine wp_if_neg (by simp [byScan, Value.scannable]) ?_
  try refine wpAny_bind (wpAny_pure ?_)
  refine wpAny_bind (hunted R hx hu (fun hm => ?_) fun K hm hK hb => ?_)
  · dsimp only
    exact wpAny_pure (hQ false s.heap L es ep t (Heap.SameBut.refl a s.heap) R (fun _ => rfl) fun z => absurd hm z)
  · dsimp only
    refine wpAny_bind (wpAny_setState_of ho hd R.fits ?_)
    dsimp only
    obtain ⟨q1, q2, q3, q4, q5, _, _, _, q9⟩ := R.tab.put hK hb
    generalize hpt : t.put (way t.mask (k.hash w) K) = pt at q1 q3 q4 q5 q9 ⊢
    obtain ⟨t1, p⟩ := pt
    dsimp only at q1 q3 q4 q5 q9 ⊢
    subst q1
    generalize hpp : SetTable.below t.place (way t.mask (k.hash w) K) = p at q2 q3 ⊢
    have hin : (SetTable.insertAt es p (k.hash w, Value.ref x)).toList = ents w (L.take p ++ (x, k) :: L.drop p) := by
      rw [SetTable.toList_insertAt, R.en]
      unfold ents
      rw [List.map_append, List.map_cons, List.map_take, List.map_drop]
    have pm := put_perm L p (x, k)
    have hlen : (L.take p ++ (x, k) :: L.drop p).length = L.length + 1 := pm.length_eq
    have hhs : hashes w (L.take p ++ (x, k) :: L.drop p) = (hashes w L).take p ++ k.hash w :: (hashes w L).drop p := by
      unfold hashes
      rw [List.map_append, List.map_cons, List.map_take, List.map_drop]
    rw [← hhs] at q3
    have nd1 : ((L.take p ++ (x, k) :: L.drop p).map (·.2)).Nodup := by
      refine (pm.map (·.2)).nodup_iff.mpr ?_
      rw [List.map_cons]
      exact List.nodup_cons.mpr ⟨hm, R.nd⟩
    have hes : (SetTable.insertAt es p (k.hash w, Value.ref x)).size = L.length + 1 := by rw [size_of_ents hin, hlen]
    generalize SetTable.insertAt es p (k.hash w, Value.ref x) = es1 at hin hes ⊢
    generalize L.take p ++ (x, k) :: L.drop p = L1 at pm hlen q3 nd1 hin
    have ld1 : w.params.followText "set-order" = true ∨ t1.led = true := by rw [q5]; exact R.led
    -- behind the question whether the hash is by value: t2 is t1, but for one mark
    have rest : ∀ t2 : SetTable, TabOk t2 (hashes w L1) → t2.mask = t.mask → t2.fill = L.length + 1 → (w.params.followText "set-order" = true ∨ t2.led = true) →
        wpAny (model P w) A (do
          storeSet a es1 t2
          if (!false && t2.tooFull) = true then do
              setRelay a (SetTable.grown (es.size + 1))
              pure true
            else pure true) Q E s := by
      intro t2 T2 m2 f2 l2
      refine wpAny_bind (wpAny_storeSet_of ho hd ?_ (by rw [hes, sizeLine_eq]; omega))
      have sb : Heap.SameBut a s.heap (s.heap.update a (Obj.putSet es1 t2)) := Heap.SameBut.update ..
      have ho1 := store_at (es' := es1) (t' := t2) ho hd
      generalize s.heap.update a (Obj.putSet es1 t2) = h1 at sb ho1 ⊢
      have ks1 : ∀ p ∈ L1, TupK h1 p.2 p.1 := fun p hp => by
        rcases List.mem_cons.mp (pm.mem_iff.mp hp) with e | hp
        · rw [e]
          exact hx.butSet ho hd sb
        · exact (R.ks p hp).butSet ho hd sb
      by_cases hf : t2.tooFull = true
      · refine wp_if_pos (by simp [hf]) ?_
        have hfull : (L.length + 1) * 5 ≥ t2.mask * 3 := by
          have h := hf
          unfold SetTable.tooFull at h
          rw [decide_eq_true_eq, f2] at h
          exact h
        rw [hsl]
        have two : (t.mask = 7 ∧ L.length = 4) ∨ (t.mask = 31 ∧ L.length = 18) := by
          rcases R.tab.mok with e | e | e
          · left; rw [m2, e] at hfull; rw [e] at hroom; exact ⟨e, by omega⟩
          · right; rw [m2, e] at hfull; rw [e] at hroom; exact ⟨e, by omega⟩
          · exfalso; rw [m2, e] at hfull; omega
        have go : ∀ M, SetTable.sizeAbove (SetTable.grown (L.length + 1)) - 1 = M → MaskOk M → SetTable.sizeAbove (SetTable.grown (L.length + 1)) ≤ 128 → (L.length + 1) * 5 < M * 3 →
            wpAny (model P w) A (do setRelay a (SetTable.grown (L.length + 1)); pure true) Q E { s with heap := h1 } := fun M e1 e2 e3 e4 => by
          refine wpAny_bind (relaid_at (s := { s with heap := h1 }) ho1 ⟨hex.1, hex.2.1, hex.2.2⟩ rfl hin T2 (by rw [hlen, m2]; rcases two with ⟨e, e'⟩ | ⟨e, e'⟩ <;> omega) nd1 ks1 l2 (by rw [hlen]; exact hfew) e1 e2 e3 (by rw [hlen]; exact e4) ?_)
          intro h2 L2 es2 ep2 t2 sb2 R2 pm2
          exact wpAny_pure (hQ true h2 L2 es2 ep2 t2 (sb.trans sb2) R2 (fun z => absurd z hm) fun _ => pm2.trans pm)
        rcases two with ⟨_, e2⟩ | ⟨_, e2⟩
        · exact go 31 (by rw [e2, size_20]) (.inr (.inl rfl)) (by rw [e2, size_20]; decide) (by omega)
        · exact go 127 (by rw [e2, size_76]) (.inr (.inr rfl)) (by rw [e2, size_76]; decide) (by omega)
      · refine wp_if_neg (by simp [hf]) ?_
        refine wpAny_pure (hQ true h1 L1 es1 (ep + 1) t2 sb ⟨⟨_, ho1, ⟨hex.1, hex.2.1, hex.2.2⟩, rfl⟩, hin, T2, nd1, ks1, l2, ?_, by rw [hlen]; exact hfew⟩ (fun z => absurd z hm) fun _ => pm)
        have h := hf
        unfold SetTable.tooFull at h
        rw [decide_eq_true_eq, f2] at h
        rw [hlen]
        omega
    have f1 : t1.fill = L.length + 1 := by rw [q9, hashes_len]
    have close : ∀ b : Bool, wpAny (model P w) A (do
          storeSet a es1 (if b = true then t1 else { t1 with plain := false })
          if (!false && (if b = true then t1 else { t1 with plain := false }).tooFull) = true then do
              setRelay a (SetTable.grown (es.size + 1))
              pure true
            else pure true) Q E s := fun b => by
      cases b with
      | true => exact rest t1 q3 q4 f1 ld1
      | false => exact rest { t1 with plain := false } (TabOk.unplain q3) q4 f1 ld1
    by_cases hpl : t1.plain = true
    · first
        | exact wpAny_bind (wp_if_pos hpl (byVal k _ 8 _ _ _ _ hx.1 fun b => close b))
        | exact wp_if_pos hpl (wpAny_bind (byVal k _ 8 _ _ _ _ hx.1 fun b => close b))
    · first
        | exact wpAny_bind (wp_if_neg hpl (wpAny_pure (close true)))
        | exact wp_if_neg hpl (wpAny_bind (wpAny_pure (close true)))
end
end Rw
namespace Rw
open PySem PySem.Spec PyProof.Rows L2
/-! ### set(xs): filled item by item -/
/-- a new set -/
abbrev newSetObj (w : World) : Obj := { cls := .type "set", dict := none, data := .set #[] 0 (.fresh 0 0 (!w.params.followText "set-order")) }
/-- G i: the set at S has got the first i items -/
structure Fill (P : Program) (w : World) (S : Addr) (h0 : Heap) (items : List Value) (G : Nat → Heap → Prop) : Prop where
  start : ∀ h, h.get? S = some (newSetObj w) → G 0 h
  keep : ∀ i h h', G i h → (∀ o, h.get? S = some o → h'.get? S = some o) → (∀ b o, h0.get? b = some o → h'.get? b = some o) → G i h'
  put : ∀ i v (A : Around) (E : Value → Shared → Prop) (s : Shared) (Q : Bool → Shared → Prop), A.units + 8 < cLine → items[i]? = some v → G i s.heap → (∀ b o, h0.get? b = some o → s.heap.get? b = some o) →
    (∀ b h' tk, s.toks ≤ tk → Heap.SameBut S s.heap h' → G (i + 1) h' → Q b { s with heap := h', toks := tk }) → wpAny (model P w) A (setAdd S v) Q E s
section
variable {P : Program} {w : World} {A : Around} {E : Value → Shared → Prop} {s : Shared}
theorem fill_loop {I : Addr} {fp wr : List Addr} {GG : Array GenState → Array GenState → Prop} {n : Nat} {Pv : Nat → Value → Prop} {St : Nat → Shared → Prop} {R : Result → Shared → Prop} {S : Addr} {h0 : Heap} {items : List Value} {G : Nat → Heap → Prop}
    (W : WalksS P w A.in1 I fp wr GG n Pv St) (hSf : S ∉ fp) (T : Fill P w S h0 items G) (hval : ∀ i v, Pv i v → items[i]? = some v) (hS0 : h0.get? S = none) (hw0 : ∀ b ∈ wr, h0.get? b = none) (hu : A.in1.units + 8 < cLine) :
    ∀ (k i : Nat) (s : Shared), n - i = k → i ≤ n → St i s → (∀ b o, h0.get? b = some o → s.heap.get? b = some o) → G i s.heap →
      (∀ s', Moved (S :: wr) GG s s' → G n s'.heap → (∀ b o, h0.get? b = some o → s'.heap.get? b = some o) → R (.ok (.ret .none)) s') →
      codeAny (model P w) A (.builtin "set.update.loop" ⟨[.ref S, .ref I], []⟩) R s := by
  have hSw : S ∉ wr := fun h => hSf (W.sub _ h)
  have wider : ∀ b ∈ wr, b ∈ S :: wr := fun b hb => List.mem_cons_of_mem _ hb
  have old : ∀ {s s' : Shared}, Moved wr GG s s' → (∀ b o, h0.get? b = some o → s.heap.get? b = some o) → ∀ b o, h0.get? b = some o → s'.heap.get? b = some o := fun hm hkp b o e =>
    hm.heap b o (fun hb => by rw [hw0 b hb] at e; cases e) (hkp b o e)
  intro k
  induction k with
  | zero =>
    intro i s hk' hi hst hkp g hR
    have hin : i = n := by omega
    subst hin
    refine codeAny_builtin F.entry_set_update_loop ?_
    rw [Around.under_plainId F.plain_set_update_loop _]
    show wpAny _ A.in1 (pyNext (.ref I) >>= _) _ _ s
    refine wpAny_bind (W.done s _ _ hst fun s' hm => ?_)
    show wpAny _ A.in1 (ret Value.none) _ _ s'
    exact wpAny_pure (hR s' (hm.mono wider) (T.keep _ _ _ g (fun o e => hm.heap S o hSw e) (old hm hkp)) (old hm hkp))
  | succ k ih =>
    intro i s hk' hi hst hkp g hR
    have hlt : i < n := by omega
    refine codeAny_builtin F.entry_set_update_loop ?_
    rw [Around.under_plainId F.plain_set_update_loop _]
    show wpAny _ A.in1 (pyNext (.ref I) >>= _) _ _ s
    refine wpAny_bind (W.item i s _ _ hlt hst fun v s' hP hst' hm => ?_)
    have hkp' := old hm hkp
    show wpAny _ A.in1 (holding [v] (setAdd S v) >>= _) _ _ s'
    refine wpAny_bind (wpAny_holding (T.put i v A.in1 _ s' _ hu (hval i v hP) (T.keep _ _ _ g (fun o e => hm.heap S o hSw e) hkp') hkp' fun b h' tk htk hsb g' => ?_))
    have hkp2 : ∀ b o, h0.get? b = some o → h'.get? b = some o := fun b o e => (hsb.2 b (fun z => by rw [z, hS0] at e; cases e)).trans (hkp' b o e)
    refine wpAny_pure ⟨plainId_quiet F.plain_set_update_loop _, ih (i + 1) _ (by omega) hlt (W.frame _ s' _ _ hst' htk fun b hb o e => ?_) hkp2 g' fun s'' hm'' g'' hkp'' => ?_⟩
    · rw [hsb.2 b (fun h : b = S => hSf (by rw [← h]; exact hb))]
      exact e
    · refine hR s'' (Moved.trans W.gtrans ((hm.mono wider).then_heap htk fun b o hb e => ?_) hm'') g'' hkp''
      rw [hsb.2 b (fun h : b = S => hb (by rw [h]; exact List.mem_cons_self))]
      exact e
theorem call_fill_list {l : Addr} {items : Array Value} {G : Nat → Heap → Prop} {Q : Value → Shared → Prop} (hh : A.handled = none) (hl : s.heap.IsList l items) (T : Fill P w s.heap.objs.size s.heap items.toList G) (hu : A.units + 16 < cLine)
    (h : ∀ (h' : Heap) (tk : Nat), G items.size h' → (∀ b o, s.heap.get? b = some o → h'.get? b = some o) → Q (.ref s.heap.objs.size) { s with heap := h', toks := tk }) :
    wpAny (model P w) A (call (.type "set") [.ref l]) Q E s := by
  obtain ⟨c, tl, hmro⟩ := F.called_set.mro
  have hmade := F.called_set.made
  have hsub := F.called_set.sub
  refine wpAny_call (codeAny_of_tree ?_)
  show wpAny _ _ (callAny (.type "set") _) _ _ _
  refine wpAny_pure ⟨Code.quiet_builtin _ (by decide +kernel), codeAny_builtin F.entry_type_call ?_⟩
  rw [Around.under_plain (weight_type_call_type "set" [.ref l] []) rfl]
  have f1 := F.called_set.notType
  have f2 := F.called_set.canCreate
  have f3 := F.typeCall_set_1 (.ref l)
  repeat (any_goals (first | assumption | wp_step))
  refine codeAny_mono (code_set_led1 (.ref l) (E := E) (Q₁ := fun obj s₁ => obj = .ref s.heap.objs.size ∧ s₁ = { s with heap := s.heap.push (newSetObj w) }) ⟨rfl, rfl⟩) fun r s₁ hr => ?_
  cases r with
  | error e => exact hr
  | ok fl =>
    cases fl with
    | ret obj =>
      obtain ⟨rfl, rfl⟩ := hr
      have hS : (s.heap.push (newSetObj w)).get? s.heap.objs.size = some (newSetObj w) := Heap.get?_push_size _ rfl
      have hT : Shared.TypeIs { s with heap := s.heap.push (newSetObj w) } (.ref s.heap.objs.size) "set" := ⟨_, hS, rfl⟩
      have f4 := F.called_set.init.lookup
      have f5 := F.called_set.init.bind (.ref s.heap.objs.size)
      repeat (any_goals (first | assumption | wp_step))
      refine codeAny_mono (codeAny_call_builtin (R := wants (fun r s₂ => r = .none ∧ ∃ h' tk, s₂ = { s with heap := h', toks := tk } ∧ G items.size h' ∧ (∀ b o, s.heap.get? b = some o → h'.get? b = some o)) E) F.called_set.init.plain F.entry_set_init (check_set_init_1 hT ?_)) fun r₂ s₂ hr₂ => ?_
      · obtain ⟨ol, hol, hcl, nl, hdl⟩ := hl
        obtain ⟨ocls, odict, odata, oslots⟩ := ol
        simp only at hcl hdl
        subst hcl; subst hdl
        have hol' : (s.heap.push (newSetObj w)).get? l = some { cls := .type "list", dict := odict, data := .seq items nl, slots := oslots } := Heap.get?_push_of_some _ hol
        have f6 := F.sub_list_set
        have f7 := F.sub_list_frozenset
        have f8 : (Value.type "list" == Value.type "dict") = false := by decide
        have hl1 : (s.heap.push (newSetObj w)).IsList l items := ⟨_, hol', rfl, nl, rfl⟩
        unfold Builtin.«set.__init__» noKeywords Builtin.Frozenset.updateFrom
        generalize hPI : pyIter = PI
        wp_walk
        subst hPI
        refine wpAny_pyIter_list hl1 ?_
        refine wpAny_bind (wpAny_runValue ?_)
        have hlS : l < s.heap.objs.size := Heap.lt_size hol
        have hh3 : A.in1.in1.in1.handled = none := by simp [hh]
        have hz1 : (s.heap.push (newSetObj w)).objs.size = s.heap.objs.size + 1 := Heap.size_push ..
        have hneI : l ≠ (s.heap.push (newSetObj w)).objs.size := by
          rw [Heap.size_push]
          exact Nat.ne_of_lt (Nat.lt_succ_of_lt hlS)
        have hSf : s.heap.objs.size ∉ [(s.heap.push (newSetObj w)).objs.size, l] := by
          rw [Heap.size_push]
          simp only [List.mem_cons, List.mem_singleton, List.not_mem_nil, or_false, not_or]
          exact ⟨Nat.ne_of_lt (Nat.lt_succ_self _), Nat.ne_of_gt hlS⟩
        have none_of : ∀ b, s.heap.objs.size ≤ b → s.heap.get? b = none := fun b hb => by
          cases q : s.heap.get? b with
          | none => rfl
          | some o => exact absurd (Nat.lt_of_lt_of_le (Heap.lt_size q) hb) (Nat.lt_irrefl _)
        refine fill_loop ((Walks.list hh3 _ l hneI items).toS) hSf T (fun i v hv => by rw [Array.getElem?_toList]; exact hv) (none_of _ (Nat.le_refl _)) (fun b hb => none_of b (by
            rw [List.mem_singleton.mp hb, Heap.size_push]
            exact Nat.le_succ _)) (by simp only [Around.in1_units]; omega) (items.size - 0) 0 _ (by omega) (Nat.zero_le _)
          ⟨⟨_, Heap.get?_push_size _ rfl, rfl, rfl⟩, (hl1.push _)⟩ (fun b o e => Heap.get?_push_of_some _ (Heap.get?_push_of_some _ e)) (T.start _ (Heap.get?_push_of_some _ hS)) ?hR
        intro s' hm g' hkp
        obtain ⟨h', g2, d', tk', os'⟩ := s'
        have eg : g2 = s.gens := hm.gens
        have ed : d' = s.drawn := hm.drawn
        have eo : os' = s.os := hm.os
        subst eg; subst ed; subst eo
        show wpAny _ _ _ _ _ _
        refine wpAny_pure ?_
        show wpAny _ _ (ret Value.none) _ _ _
        exact wpAny_pure ⟨rfl, h', tk', rfl, g', hkp⟩
      · cases r₂ with
        | error e => exact hr₂
        | ok fl₂ =>
          cases fl₂ with
          | ret r =>
            obtain ⟨rfl, h', tk, rfl, g', hk'⟩ := hr₂
            repeat (any_goals (first | assumption | wp_step))
            exact h _ _ g' hk'
          | _ => exact hr₂.elim
    | _ => exact hr.elim
theorem call_fill_tuple {l : Addr} {items : Array Value} {G : Nat → Heap → Prop} {Q : Value → Shared → Prop} (hh : A.handled = none) (hl : s.heap.IsTuple l items) (T : Fill P w s.heap.objs.size s.heap items.toList G) (hu : A.units + 16 < cLine)
    (h : ∀ (h' : Heap) (tk : Nat), G items.size h' → (∀ b o, s.heap.get? b = some o → h'.get? b = some o) → Q (.ref s.heap.objs.size) { s with heap := h', toks := tk }) :
    wpAny (model P w) A (call (.type "set") [.ref l]) Q E s := by
  obtain ⟨c, tl, hmro⟩ := F.called_set.mro
  have hmade := F.called_set.made
  have hsub := F.called_set.sub
  refine wpAny_call (codeAny_of_tree ?_)
  show wpAny _ _ (callAny (.type "set") _) _ _ _
  refine wpAny_pure ⟨Code.quiet_builtin _ (by decide +kernel), codeAny_builtin F.entry_type_call ?_⟩
  rw [Around.under_plain (weight_type_call_type "set" [.ref l] []) rfl]
  have f1 := F.called_set.notType
  have f2 := F.called_set.canCreate
  have f3 := F.typeCall_set_1 (.ref l)
  repeat (any_goals (first | assumption | wp_step))
  refine codeAny_mono (code_set_led1 (.ref l) (E := E) (Q₁ := fun obj s₁ => obj = .ref s.heap.objs.size ∧ s₁ = { s with heap := s.heap.push (newSetObj w) }) ⟨rfl, rfl⟩) fun r s₁ hr => ?_
  cases r with
  | error e => exact hr
  | ok fl =>
    cases fl with
    | ret obj =>
      obtain ⟨rfl, rfl⟩ := hr
      have hS : (s.heap.push (newSetObj w)).get? s.heap.objs.size = some (newSetObj w) := Heap.get?_push_size _ rfl
      have hT : Shared.TypeIs { s with heap := s.heap.push (newSetObj w) } (.ref s.heap.objs.size) "set" := ⟨_, hS, rfl⟩
      have f4 := F.called_set.init.lookup
      have f5 := F.called_set.init.bind (.ref s.heap.objs.size)
      repeat (any_goals (first | assumption | wp_step))
      refine codeAny_mono (codeAny_call_builtin (R := wants (fun r s₂ => r = .none ∧ ∃ h' tk, s₂ = { s with heap := h', toks := tk } ∧ G items.size h' ∧ (∀ b o, s.heap.get? b = some o → h'.get? b = some o)) E) F.called_set.init.plain F.entry_set_init (check_set_init_1 hT ?_)) fun r₂ s₂ hr₂ => ?_
      · obtain ⟨ol, hol, hcl, nl, hdl⟩ := hl
        obtain ⟨ocls, odict, odata, oslots⟩ := ol
        simp only at hcl hdl
        subst hcl; subst hdl
        have hol' : (s.heap.push (newSetObj w)).get? l = some { cls := .type "tuple", dict := odict, data := .seq items nl, slots := oslots } := Heap.get?_push_of_some _ hol
        have f6 := F.sub_tuple_set
        have f7 := F.sub_tuple_frozenset
        have f8 : (Value.type "tuple" == Value.type "dict") = false := by decide
        have hl1 : (s.heap.push (newSetObj w)).IsTuple l items := ⟨_, hol', rfl, nl, rfl⟩
        unfold Builtin.«set.__init__» noKeywords Builtin.Frozenset.updateFrom
        generalize hPI : pyIter = PI
        wp_walk
        subst hPI
        refine wpAny_pyIter_tuple hl1 ?_
        refine wpAny_bind (wpAny_runValue ?_)
        have hlS : l < s.heap.objs.size := Heap.lt_size hol
        have hh3 : A.in1.in1.in1.handled = none := by simp [hh]
        have hz1 : (s.heap.push (newSetObj w)).objs.size = s.heap.objs.size + 1 := Heap.size_push ..
        have hneI : l ≠ (s.heap.push (newSetObj w)).objs.size := by
          rw [Heap.size_push]
          exact Nat.ne_of_lt (Nat.lt_succ_of_lt hlS)
        have hSf : s.heap.objs.size ∉ [(s.heap.push (newSetObj w)).objs.size, l] := by
          rw [Heap.size_push]
          simp only [List.mem_cons, List.mem_singleton, List.not_mem_nil, or_false, not_or]
          exact ⟨Nat.ne_of_lt (Nat.lt_succ_self _), Nat.ne_of_gt hlS⟩
        have none_of : ∀ b, s.heap.objs.size ≤ b → s.heap.get? b = none := fun b hb => by
          cases q : s.heap.get? b with
          | none => rfl
          | some o => exact absurd (Nat.lt_of_lt_of_le (Heap.lt_size q) hb) (Nat.lt_irrefl _)
        refine fill_loop ((Walks.tuple hh3 _ l hneI items).toS) hSf T (fun i v hv => by rw [Array.getElem?_toList]; exact hv) (none_of _ (Nat.le_refl _)) (fun b hb => none_of b (by
            rw [List.mem_singleton.mp hb, Heap.size_push]
            exact Nat.le_succ _)) (by simp only [Around.in1_units]; omega) (items.size - 0) 0 _ (by omega) (Nat.zero_le _)
          ⟨⟨_, Heap.get?_push_size _ rfl, rfl, rfl⟩, (hl1.push _)⟩ (fun b o e => Heap.get?_push_of_some _ (Heap.get?_push_of_some _ e)) (T.start _ (Heap.get?_push_of_some _ hS)) ?hR
        intro s' hm g' hkp
        obtain ⟨h', g2, d', tk', os'⟩ := s'
        have eg : g2 = s.gens := hm.gens
        have ed : d' = s.drawn := hm.drawn
        have eo : os' = s.os := hm.os
        subst eg; subst ed; subst eo
        show wpAny _ _ _ _ _ _
        refine wpAny_pure ?_
        show wpAny _ _ (ret Value.none) _ _ _
        exact wpAny_pure ⟨rfl, h', tk', rfl, g', hkp⟩
      · cases r₂ with
        | error e => exact hr₂
        | ok fl₂ =>
          cases fl₂ with
          | ret r =>
            obtain ⟨rfl, h', tk, rfl, g', hk'⟩ := hr₂
            repeat (any_goals (first | assumption | wp_step))
            exact h _ _ g' hk'
          | _ => exact hr₂.elim
    | _ => exact hr.elim
end
end Rw
namespace Rw
open PySem PySem.Spec PyProof.Rows PySem.W PySem.SeqAt
/-! ### tuples, perhaps empty ones among them, sorted -/
section
variable {prog : Program} {w : World} {A : Around} {E : Value → Shared → Prop} {s : Shared}
/-- each value is a tuple, and these are their first items -/
inductive Firsts (h : Heap) : List Value → List (Option Value) → Prop
  | nil : Firsts h [] []
  | cons {a : Addr} {o : Obj} {xs : Array Value} {n : Nat} {vs : List Value} {fs : List (Option Value)} : h.get? a = some o → o.cls = .type "tuple" → o.data = .seq xs n → Firsts h vs fs → Firsts h (.ref a :: vs) (xs[0]? :: fs)
theorem Firsts.len {h : Heap} {vs : List Value} {fs : List (Option Value)} (x : Firsts h vs fs) : fs.length = vs.length := by
  induction x with
  | nil => rfl
  | cons _ _ _ _ ih => rw [List.length_cons, List.length_cons, ih]
theorem firsts_run {M : Model} : ∀ (vs : List Value) (fs : List (Option Value)) {Q : List (Option Value) → Shared → Prop}, Firsts s.heap vs fs → Q fs s → wpAny M A (vs.mapM firstOfTuple') Q E s
  | _, _, _, .nil, h => by
    rw [List.mapM_nil]
    exact wpAny_pure h
  | _, _, Q, .cons (a := a) (xs := xs) (vs := vs) (fs := fs) ho hc hd t, h => by
    rw [List.mapM_cons]
    refine wpAny_bind ?_
    rw [kas_first_eq]
    refine wpAny_bind (Looks.here (show Looks M s.heap (typeOf (.ref a)) _ from (Looks.ld ho).andThen .now) ?_)
    rw [hc, if_neg (by first | decide | simp)]
    refine wpAny_bind (listItems_at ho hd (wpAny_pure ?_))
    exact wpAny_bind (firsts_run vs fs (Q := fun bs s' => wpAny M A (pure (xs[0]? :: bs)) Q E s') t (wpAny_pure h))
theorem firsts_ty {M : Model} {h : Heap} {vs : List Value} {fs : List (Option Value)} (x : Firsts h vs fs) : ∀ v ∈ vs, Looks M h (typeOf v) (.type "tuple") := by
  induction x with
  | nil => exact fun v hv => nomatch hv
  | cons ho hc hd _ ih =>
    intro v hv
    rcases List.mem_cons.mp hv with rfl | hv
    · show Looks M h (typeOf (Value.ref _)) (Value.type "tuple")
      exact hc ▸ (Looks.ld ho).andThen .now
    · exact ih v hv
/-- an empty one among the others, not the first -/
theorem kind_general {M : Model} {vs : List Value} {fs : List (Option Value)} {f : Value} {Q : SortKind → Shared → Prop} (x : Firsts s.heap vs fs) (h0 : fs[0]? = some (some f)) (hn : none ∈ fs) (h : Q general' s) : wpAny M A (keyKind' vs.toArray) Q E s := by
  rw [kat_kind_eq, List.mapM_toArray, map_eq_pure_bind]
  refine wpAny_bind (wpAny_bind (firsts_run vs fs x (wpAny_pure ?_)))
  have c : ¬ ((fs.toArray.all fun x => x.isSome) = true) := by
    intro q
    rw [List.all_toArray, List.all_eq_true] at q
    exact absurd (q none hn) (by simp)
  rw [if_neg c]
  have c2 : ((fs.toArray[0]?.bind id).isSome) = true := by
    have e : fs.toArray[0]? = some (some f) := by simpa using h0
    rw [e]
    rfl
  rw [if_pos c2]
  exact wpAny_pure h
/-- the first is empty -/
theorem kind_one {M : Model} {vs : List Value} {fs : List (Option Value)} {Q : SortKind → Shared → Prop} (x : Firsts s.heap vs fs) (h0 : fs[0]? = some none) (h : Q oneType' s) : wpAny M A (keyKind' vs.toArray) Q E s := by
  rw [kat_kind_eq, List.mapM_toArray, map_eq_pure_bind]
  refine wpAny_bind (wpAny_bind (firsts_run vs fs x (wpAny_pure ?_)))
  have c : ¬ ((fs.toArray.all fun x => x.isSome) = true) := by
    intro q
    rw [List.all_toArray, List.all_eq_true] at q
    exact absurd (q none (List.mem_of_getElem? h0)) (by simp)
  rw [if_neg c]
  have e : fs.toArray[0]? = some none := by simpa using h0
  have c2 : ¬ ((fs.toArray[0]?.bind id).isSome) = true := by
    rw [e]
    simp
  rw [if_neg c2, oneTypeOnly'_eq, List.mapM_toArray, map_eq_pure_bind]
  refine wpAny_bind (wpAny_bind (wpAny_bind (kas_mapM (r := Value.type "tuple") _ (fun v hv Q' hq => (firsts_ty x v hv).here hq) (wpAny_pure ?_))))
  have all : ((List.map (fun _ => Value.type "tuple") vs).toArray.all fun x => x == Value.type "tuple") = true := by
    simp only [List.all_toArray, List.all_map, List.all_eq_true]
    intro _ _
    show (Value.type "tuple" == Value.type "tuple") = true
    decide
  obtain ⟨v, r, ev⟩ : ∃ v r, vs = v :: r := by
    cases x with
    | nil => simp at h0
    | cons _ _ _ _ => exact ⟨_, _, rfl⟩
  have z : (List.map (fun _ => Value.type "tuple") vs).toArray[0]? = some (Value.type "tuple") := by
    rw [ev]
    simp
  rw [z]
  simp only [all, if_true]
  exact wpAny_pure (wpAny_pure h)
/-- by the type's own < -/
theorem oneLt_tuples {xs ys : List PyData} {a b : Value} {as bs : List Addr} {Q : Bool → Shared → Prop} (ra : Reads s.heap a (.tuple xs) as) (rb : Reads s.heap b (.tuple ys) bs) (hal : alikeAll xs ys = true)
    (hu : A.units + min (PyData.tuple xs).depth (PyData.tuple ys).depth < cLine) (hq : Q (dataLt (.tuple xs) (.tuple ys)) s) : wpAny (model prog w) A (oneLt' true a b) Q E s := by
  cases ra with
  | @tuple l o vs n _ _ h1 h2 h3 h4 =>
    cases rb with
    | @tuple l' o' vs' n' _ _ k1 k2 k3 k4 =>
      have n1 : vs.size = xs.length := by simpa using SeqAt.ReadsAll.length _ _ _ h4
      have n2 : vs'.size = ys.length := by simpa using SeqAt.ReadsAll.length _ _ _ k4
      rw [dataLt_tuple, ← firstLt_toks xs ys hal, ← n1, ← n2] at hq
      rw [oneLt'_eq]
      simp only [if_true]
      refine wpAny_bind (wpAny_cRoomFor (SeqAt.room_here hu) ?_)
      obtain ⟨ocls, odict, odata, oslots⟩ := o
      obtain ⟨pcls, pdict, pdata, pslots⟩ := o'
      simp only at h2 h3 k2 k3
      subst h2 h3 k2 k3
      refine wpAny_bind (wpAny_callSpecialIfBound?_slot (T := "tuple") ⟨_, h1, rfl⟩ F.slot_tuple_lt (call_meets F.slot_tuple_lt ⟨_, h1, rfl⟩ F.entry_tuple_lt (F.args_tuple_lt_2 _ _)
        (SeqAt.tuple_ltAt l l' vs vs' n n' odict pdict oslots pslots (pairEq xs ys) (fun j => dataLt (xs.getD j .none) (ys.getD j .none))) ⟨h1, k1, fun j j1 j2 => ?_, fun j j1 j2 hj => ?_, ?_⟩))
      · have := eqAt_alikeAll xs ys A.in1 s vs.toList vs'.toList _ _ h4 k4 hal (SeqAt.room_in hu) j (by simpa using j1) (by simpa using j2)
        simpa using this
      · have := rcLt_alikeAll xs ys A.in1 s vs.toList vs'.toList _ _ h4 k4 hal (SeqAt.room_in hu) j (by simpa using j1) (by simpa using j2) hj
        simpa using this
      · exact wpAny_truthy_bool hq
theorem firsts_of {h : Heap} : ∀ {vs : List Value} {ds : List PyData}, EachIs (fun v d => ∃ as, Reads h v d as) vs ds → (∀ d ∈ ds, ∃ xs, d = .tuple xs) → ∃ fs, Firsts h vs fs ∧ ∀ i : Nat, fs[i]? = some none ↔ ds[i]? = some (.tuple [])
  | _, _, .nil, _ => ⟨[], .nil, fun i => by simp⟩
  | _, _, .cons (b := d) ⟨as, r⟩ t, ht => by
    obtain ⟨fs, h1, h2⟩ := firsts_of t fun d hd => ht d (List.mem_cons_of_mem _ hd)
    obtain ⟨xs, rfl⟩ := ht d List.mem_cons_self
    cases r with
    | @tuple a o vs n _ _ ho hc hd hr =>
      refine ⟨_, .cons ho hc hd h1, fun i => ?_⟩
      cases i with
      | succ i => simpa using h2 i
      | zero =>
        have hl := SeqAt.ReadsAll.length _ _ _ hr
        rw [Array.length_toList] at hl
        simp only [List.getElem?_cons_zero, Option.some.injEq]
        constructor
        · intro q
          have z : vs.size = 0 := by
            have := Array.getElem?_eq_none_iff.mp q
            omega
          rw [z] at hl
          rw [List.length_eq_zero_iff.mp hl.symm]
        · intro q
          injection q with q
          subst q
          rw [List.length_nil] at hl
          exact Array.getElem?_eq_none (by omega)
/-- tuples of alike data can be sorted, empty ones too -/
theorem SortsAt.tups {vs : List Value} {ds : List PyData} (e : EachIs (fun v d => ∃ as, Reads s.heap v d as) vs ds) (hal : AllAlike ds) (ht : ∀ d ∈ ds, ∃ xs, d = .tuple xs) (hu : ∀ d, d ∈ ds → A.units + d.depth < cLine) : SortsAt prog w A s (dataKind s.heap ds) vs := by
  by_cases full : ∀ d ∈ ds, ∃ x r, d = .tuple (x :: r)
  · exact SortsAt.data e hal (.inl full) hu
  have hollow : PyData.tuple [] ∈ ds := by
    refine Classical.byContradiction fun hn => full fun d hd => ?_
    obtain ⟨xs, rfl⟩ := ht d hd
    cases xs with
    | nil => exact absurd hd hn
    | cons x r => exact ⟨x, r, rfl⟩
  have room : ∀ {d d' : PyData}, d ∈ ds → A.units + min d.depth d'.depth < cLine := fun {d d'} hd => Nat.lt_of_le_of_lt (Nat.add_le_add_left (Nat.min_le_left _ _) _) (hu d hd)
  refine ⟨fun v hv => ?_, ?_⟩
  · obtain ⟨d, hd, as, r⟩ := e.left v hv
    exact ⟨_, dataKind_some hal hd r⟩
  obtain ⟨fs, f1, f2⟩ := firsts_of e ht
  obtain ⟨i0, hi0, ei0⟩ := List.getElem_of_mem hollow
  have hnone : none ∈ fs := List.mem_of_getElem? ((f2 i0).mpr (by rw [List.getElem?_eq_getElem hi0, ei0]))
  have side : ∀ {x y : Value} {a b : List (Int ⊕ List Nat)}, (dataKind s.heap ds).keyOf x = some a → (dataKind s.heap ds).keyOf y = some b →
      ∃ xs ys as bs, Reads s.heap x (.tuple xs) as ∧ Reads s.heap y (.tuple ys) bs ∧ alike (.tuple xs) (.tuple ys) = true ∧ a = keyToks (.tuple xs) ∧ b = keyToks (.tuple ys) ∧ A.units + min (PyData.tuple xs).depth (PyData.tuple ys).depth < cLine := by
    intro x y a b ha hb
    obtain ⟨d, as, hd, ra, rfl⟩ := dataKind_inv ha
    obtain ⟨d', bs, hd', rb, rfl⟩ := dataKind_inv hb
    obtain ⟨xs, rfl⟩ := ht d hd
    obtain ⟨ys, rfl⟩ := ht d' hd'
    exact ⟨xs, ys, as, bs, ra, rb, hal _ hd _ hd', rfl, rfl, room hd⟩
  cases hz : fs[0]? with
  | none =>
    have : fs = [] := by
      cases fs with
      | nil => rfl
      | cons f r => simp at hz
    rw [this] at hnone
    exact nomatch hnone
  | some f =>
    cases f with
    | some f =>
      refine ⟨general', fun E x y a b Q ha hb hq => ?_, fun _ E Q hq => kind_general f1 hz hnone hq⟩
      obtain ⟨xs, ys, as, bs, ra, rb, hh, rfl, rfl, hr⟩ := side ha hb
      show wpAny _ _ (oneLt' false x y) _ _ _
      exact oneLt_alike (fun z => absurd z Bool.false_ne_true) ra rb hh (fun z => nomatch z) hr hq
    | none =>
      refine ⟨oneType', fun E x y a b Q ha hb hq => ?_, fun _ E Q hq => kind_one f1 hz hq⟩
      obtain ⟨xs, ys, as, bs, ra, rb, hh, rfl, rfl, hr⟩ := side ha hb
      rw [keyLt'_oneType]
      exact oneLt_tuples ra rb (by simpa [alike] using hh) hr hq
end
end Rw
namespace Rw
open PySem PySem.Spec PyProof.Rows L2 PySem.Froz
/-! ### filling a set with tuples -/
structure GotN (ks : List (Addr × NK)) (i : Nat) (L : List (Addr × NK)) : Prop where
  sub : ∀ p ∈ L, p ∈ ks.take i
  all : ∀ p ∈ ks.take i, p.2 ∈ L.map (·.2)
  len : L.length ≤ i
theorem take_snoc {α : Type} {l : List α} {i : Nat} {x : α} (h : l[i]? = some x) : l.take (i + 1) = l.take i ++ [x] := by
  rw [List.take_succ, h]
  rfl
theorem GotN.next {ks L L' : List (Addr × NK)} {i : Nat} {x : Addr × NK} (g : GotN ks i L) (h : ks[i]? = some x) (c1 : x.2 ∈ L.map (·.2) → L' = L) (c2 : x.2 ∉ L.map (·.2) → L'.Perm (x :: L)) : GotN ks (i + 1) L' := by
  have ht := take_snoc h
  by_cases hm : x.2 ∈ L.map (·.2)
  · rw [c1 hm]
    refine ⟨fun p hp => ?_, fun p hp => ?_, Nat.le_succ_of_le g.len⟩
    · rw [ht]
      exact List.mem_append_left _ (g.sub p hp)
    · rw [ht] at hp
      rcases List.mem_append.mp hp with z | z
      · exact g.all p z
      · rw [List.mem_singleton.mp z]
        exact hm
  · have pm := c2 hm
    refine ⟨fun p hp => ?_, fun p hp => ?_, ?_⟩
    · rw [ht]
      rcases List.mem_cons.mp (pm.mem_iff.mp hp) with e | z
      · rw [e]
        exact List.mem_append_right _ (List.mem_singleton.mpr rfl)
      · exact List.mem_append_left _ (g.sub p z)
    · rw [(pm.map (·.2)).mem_iff, List.map_cons]
      rw [ht] at hp
      rcases List.mem_append.mp hp with z | z
      · exact List.mem_cons_of_mem _ (g.all p z)
      · rw [List.mem_singleton.mp z]
        exact List.mem_cons_self
    · rw [pm.length_eq, List.length_cons]
      exact Nat.succ_le_succ g.len
theorem led_new (w : World) : w.params.followText "set-order" = true ∨ (!w.params.followText "set-order") = true := by
  cases w.params.followText "set-order"
  · exact .inr rfl
  · exact .inl rfl
section
variable {P : Program} {w : World} {A : Around} {E : Value → Shared → Prop} {s : Shared}
theorem TSet.empty {h : Heap} {a : Addr} (ho : h.get? a = some (newSetObj w)) : TSet P w h a [] #[] 0 (.fresh 0 0 (!w.params.followText "set-order")) where
  ob := ⟨_, ho, ⟨rfl, rfl, rfl⟩, rfl⟩
  en := rfl
  tab := ⟨List.Pairwise.nil, rfl, rfl, .inl rfl, fun x hx => (by cases hx), fun i h j hi => (by simp [hashes] at hi)⟩
  nd := List.nodup_nil
  ks := fun p hp => (by cases hp)
  led := led_new w
  room := by
    show 0 * 5 < 7 * 3
    decide
  few := by
    show 0 < 76
    decide
theorem TSet.moved {h h' : Heap} {a : Addr} {L : List (Addr × NK)} {es : Array (Int × Value)} {ep : Nat} {t : SetTable} (R : TSet P w h a L es ep t) (ha : ∀ o, h.get? a = some o → h'.get? a = some o) (ht : ∀ p ∈ L, TupK h' p.2 p.1) : TSet P w h' a L es ep t := by
  obtain ⟨o, ho, r⟩ := R.ob
  exact ⟨⟨o, ha o ho, r⟩, R.en, R.tab, R.nd, ht, R.led, R.room, R.few⟩
theorem fill_tups (S : Addr) (h0 : Heap) (ks : List (Addr × NK)) (hk : ∀ p ∈ ks, TupK h0 p.2 p.1) (few : ks.length < 76) :
    Fill P w S h0 (ks.map fun p => Value.ref p.1) (fun i h => ∃ L es ep t, TSet P w h S L es ep t ∧ GotN ks i L) where
  start := fun h ho => ⟨[], #[], 0, _, TSet.empty ho, ⟨fun p hp => (by cases hp), fun p hp => (by simp at hp), Nat.le_refl _⟩⟩
  keep := fun i h h' ⟨L, es, ep, t, R, g⟩ ha hold => ⟨L, es, ep, t, R.moved ha fun p hp => (hk p (List.mem_of_mem_take (g.sub p hp))).kept hold, g⟩
  put := fun i v A E s Q hu hv ⟨L, es, ep, t, R, g⟩ hold hQ => by
    rw [List.getElem?_map] at hv
    cases hx : ks[i]? with
    | none => rw [hx] at hv; simp at hv
    | some x =>
      rw [hx] at hv
      obtain rfl : Value.ref x.1 = v := Option.some.inj hv
      have il : i < ks.length := (List.getElem?_eq_some_iff.mp hx).1
      have hxk := (hk x (List.mem_of_getElem? hx)).kept hold
      unfold setAdd
      refine wpAny_holding ?_
      refine wpAny_bind ((nestedKind P w).pyHash (k := x.2) (show A.units + 8 < cLine from hu) hxk ?_)
      refine added (s := { s with toks := s.toks + (nestedKind P w).draws x.2 }) R hxk hu (by have := g.len; omega) fun b h' L' es' ep' t' sb R' c1 c2 => ?_
      exact hQ b h' _ (Nat.le_add_right _ _) sb ⟨L', es', ep', t', R', g.next hx c1 c2⟩
/-! ### filling a set with texts -/
structure XSet (P : Program) (w : World) (h : Heap) (a : Addr) (ms : List Str) (es : Array (Int × Value)) (ep : Nat) (t : SetTable) : Prop where
  ob : h.get? a = some (sObj "set" (es, ep, t))
  ok : TxOk P w (es, ep, t) ms
  nd : ms.Nodup
  ris : Ris t.place.toList
  led : w.params.followText "set-order" = true ∨ t.led = true
theorem add_ris {g : Int} {v : Value} {D : SD} (h : Ris D.2.2.place.toList) : Ris (addTx g v D).2.2.place.toList ∧ (addTx g v D).2.2.led = D.2.2.led := by
  obtain ⟨es, ep, t⟩ := D
  have n1 := layNew_ris t es g v h
  have n2 := layNew_led t es g v
  unfold addTx tailTx
  dsimp only at n1 n2 ⊢
  generalize layNew t es g v = N at n1 n2 ⊢
  obtain ⟨es1, t1, wd, gv⟩ := N
  dsimp only at n1 n2 ⊢
  have m1 : Ris (if t1.plain = true then { t1 with plain := false } else t1).place.toList ∧ (if t1.plain = true then { t1 with plain := false } else t1).led = t.led := by
    split <;> exact ⟨n1, n2⟩
  generalize (if t1.plain = true then { t1 with plain := false } else t1) = t2 at m1 ⊢
  split
  · exact ⟨relayAll_ris t2 es1 _, (relayAll_led t2 es1 _).trans m1.2⟩
  · exact m1
theorem XSet.moved {h h' : Heap} {a : Addr} {ms : List Str} {es : Array (Int × Value)} {ep : Nat} {t : SetTable} (R : XSet P w h a ms es ep t) (ha : ∀ o, h.get? a = some o → h'.get? a = some o) : XSet P w h' a ms es ep t :=
  ⟨ha _ R.ob, R.ok, R.nd, R.ris, R.led⟩
/-- a text that is in the set is put in again -/
theorem again_in {a : Addr} {ms : List Str} {es : Array (Int × Value)} {ep : Nat} {t : SetTable} {k : Str} {u : Tok} {Q : Bool → Shared → Prop} (R : XSet P w s.heap a ms es ep t) (hk : k ∈ ms) (hb : ms.length < scanBound) (h : Q false s) :
    wpAny (model P w) A (setAddHashed a (.str k u) (hashStr w k)) Q E s := by
  have hel : ElemsOf (strKind P w) es.toList := R.ok.el
  have hsz : es.size = ms.length := R.ok.sz
  have hf : t.fits es.size = true := R.ok.fit
  have hd : (sObj "set" (es, ep, t)).data = .set es ep t := rfl
  have hkey : (strKind P w).is k (.str k u) = true := is_str k u
  obtain ⟨e, he, hp⟩ := (R.ok.mem k).mp hk
  unfold setAddHashed setAddHashedIn
  refine wpAny_holding (wpAny_bind (wpAny_setState_of R.ob hd hf ?_))
  dsimp only
  rw [byScan_of rfl (by omega) hel]
  simp only [↓reduceIte]
  unfold setAddByScan
  refine wpAny_bind (wpAny_bind (wpAny_rule (wpAny_bind (wpAny_setScan_of (knd := strKind P w) (k := k) hkey R.ob hd hf hel ?_))))
  cases hr : List.findIdx? (fun e => (strKind P w).is k e.2) es.toList with
  | none =>
    have z := List.findIdx?_eq_none_iff.mp hr e he
    rw [hp] at z
    exact nomatch z
  | some j =>
    dsimp only
    exact wpAny_pure (wpAny_pure h)
theorem put_text {a : Addr} {ms : List Str} {es : Array (Int × Value)} {ep : Nat} {t : SetTable} {k : Str} {u : Tok} {Q : Bool → Shared → Prop} (R : XSet P w s.heap a ms es ep t) (hb : ms.length + 1 < scanBound)
    (h : ∀ b h' ms' es' ep' t', Heap.SameBut a s.heap h' → XSet P w h' a ms' es' ep' t' → (∀ z, z ∈ ms' ↔ z = k ∨ z ∈ ms) → ms'.length ≤ ms.length + 1 → Q b { s with heap := h' }) :
    wpAny (model P w) A (setAddHashed a (.str k u) (hashStr w k)) Q E s := by
  by_cases hk : k ∈ ms
  · refine again_in R hk (by omega) (h false s.heap ms es ep t (Heap.SameBut.refl a s.heap) R (fun z => ⟨.inr, fun q => q.elim (fun e => e ▸ hk) id⟩) (Nat.le_succ _))
  · refine add_x R.ob R.ok hk hb ?_
    have sb : Heap.SameBut a s.heap (s.heap.update a (fun _ => sObj "set" (addTx (hashStr w k) (.str k u) (es, ep, t)))) := Heap.SameBut.update ..
    have ho : (s.heap.update a (fun _ => sObj "set" (addTx (hashStr w k) (.str k u) (es, ep, t)))).get? a = some (sObj "set" (addTx (hashStr w k) (.str k u) (es, ep, t))) := get_upd _ R.ob rfl
    have ok := add_ok u R.ok (k := k)
    have rl := add_ris (g := hashStr w k) (v := .str k u) (D := (es, ep, t)) R.ris
    generalize addTx (hashStr w k) (.str k u) (es, ep, t) = D at sb ho ok rl ⊢
    obtain ⟨es', ep', t'⟩ := D
    refine h true _ (k :: ms) es' ep' t' sb ⟨ho, ok, List.nodup_cons.mpr ⟨hk, R.nd⟩, rl.1, ?_⟩ (fun z => List.mem_cons) (Nat.le_refl _)
    have e : t'.led = t.led := rl.2
    rw [e]
    exact R.led
theorem fill_texts (S : Addr) (h0 : Heap) (zs : List Str) {vs : List Value} (hv : PySem.W.EachIs (fun v z => ∃ u, v = Value.str z u) vs zs) (few : zs.length + 1 < scanBound) :
    Fill P w S h0 vs (fun i h => ∃ ms es ep t, XSet P w h S ms es ep t ∧ (∀ z, z ∈ ms ↔ z ∈ zs.take i) ∧ ms.length ≤ i) where
  start := fun h ho => ⟨[], #[], 0, _, ⟨ho, TxOk.nil rfl, List.nodup_nil, List.Pairwise.nil, led_new w⟩, fun z => by simp, Nat.le_refl _⟩
  keep := fun i h h' ⟨ms, es, ep, t, R, g⟩ ha _ => ⟨ms, es, ep, t, R.moved ha, g⟩
  put := fun i v A E s Q hu hvi ⟨ms, es, ep, t, R, g, hl⟩ hold hQ => by
    have hlen := hv.length
    have il : i < vs.length := (List.getElem?_eq_some_iff.mp hvi).1
    have iz : i < zs.length := by omega
    have hz : zs[i]? = some zs[i] := List.getElem?_eq_getElem iz
    have pz : (v, zs[i]) ∈ vs.zip zs := List.mem_of_getElem? (i := i) (by rw [List.getElem?_zip_eq_some]; exact ⟨hvi, hz⟩)
    obtain ⟨u, rfl⟩ : ∃ u, v = Value.str zs[i] u := hv.zip _ pz
    unfold setAdd
    refine wpAny_holding ?_
    refine wpAny_bind ((strKind P w).pyHash (k := zs[i]) (is_str _ _) ?_)
    refine put_text (s := { s with toks := s.toks + 1 }) R (by omega) fun b h' ms' es' ep' t' sb R' hm hl' => ?_
    refine hQ b h' _ (Nat.le_succ _) sb ⟨ms', es', ep', t', R', fun z => ?_, by omega⟩
    rw [hm, take_snoc hz, List.mem_append, List.mem_singleton, g z]
    exact ⟨fun q => q.elim .inr .inl, fun q => q.elim .inr .inl⟩
/-! ### sorted of a set -/
theorem each_perm {α β : Type} {R : α → β → Prop} {l l' : List α} (p : l'.Perm l) : ∀ {bs : List β}, PySem.W.EachIs R l bs → ∃ bs', PySem.W.EachIs R l' bs' ∧ bs'.Perm bs := by
  induction p with
  | nil => exact fun {bs} e => ⟨bs, e, List.Perm.refl _⟩
  | cons x _ ih =>
    intro bs e
    cases e with
    | cons h t =>
      obtain ⟨bs', e', p'⟩ := ih t
      exact ⟨_ :: bs', .cons h e', p'.cons _⟩
  | swap x y l =>
    intro bs e
    cases e with
    | cons h t =>
      cases t with
      | cons h' t' => exact ⟨_, .cons h' (.cons h t'), List.Perm.swap _ _ _⟩
  | trans _ _ ih1 ih2 =>
    intro bs e
    obtain ⟨b1, e1, p1⟩ := ih2 e
    obtain ⟨b2, e2, p2⟩ := ih1 e1
    exact ⟨b2, e2, p2.trans p1⟩
open PySem.W in
theorem each_and {α β : Type} {R S : α → β → Prop} : ∀ {as : List α} {bs : List β}, EachIs R as bs → EachIs S as bs → EachIs (fun a b => R a b ∧ S a b) as bs
  | _, _, .nil, .nil => .nil
  | _, _, .cons h t, .cons h' t' => .cons ⟨h, h'⟩ (each_and t t')
open PySem.W in
/-- xs.sort(): the list's own object then holds the sorted values -/
theorem list_sorts {β : Type} {a : Addr} {n : Nat} {vs : List Value} {bs : List β} {enc : β → PyData} {R : Value → β → Prop} {Q : Value → Shared → Prop} (ho : s.heap.get? a = some (seqObj "list" vs.toArray n)) (e : EachIs R vs bs) (er : EachIs (fun v b => ∃ as, Reads s.heap v (enc b) as ∧ a ∉ as) vs bs) (hal : AllAlike (bs.map enc)) (hk : (∀ d ∈ bs.map enc, ∃ xs, d = .tuple xs) ∨ Sortable (bs.map enc)) (hL : bs.length ≤ sizeLine)
    (hu : ∀ b, b ∈ bs → A.units + 1 + (enc b).depth < cLine) (h : ∀ out, out.length = bs.length → EachIs R out (bs.mergeSort (dataLe false enc)) → Q .none { s with heap := sortedHeap s.heap a vs (List.toArray out) }) :
    wpAny (model P w) A (call (.builtin "list.sort") [.ref a]) Q E s := by
  have er' : EachIs (fun v b => ∃ as, Reads (sortingHeap s.heap a vs) v (enc b) as) vs bs := each_keepBut (h' := sortingHeap s.heap a vs) (fun _ _ hb q => sortingHeap_old hb q) (fun o q => by rw [ho] at q; rw [← Option.some.inj q]) hal er
  have em := each_map (R := fun v d => ∃ as, Reads (sortingHeap s.heap a vs) v d as) enc er'
  have can : SortsAt P w A.in1 { s with heap := sortingHeap s.heap a vs } (dataKind (sortingHeap s.heap a vs) (bs.map enc)) vs := by
    rcases hk with ht | hs
    · exact SortsAt.tups (s := { s with heap := sortingHeap s.heap a vs }) em hal ht (bound_map hu)
    · exact SortsAt.data (s := { s with heap := sortingHeap s.heap a vs }) em hal hs (bound_map hu)
  refine wpAny_call_entry slot_list_sort ⟨_, ho, rfl⟩ entry_list_sort (list_sort_vals (κ := dataKind (sortingHeap s.heap a vs) (bs.map enc)) ho can (by rw [e.length]; exact hL) ⟨.none, rfl, ?_⟩) (args_list_sort _)
  exact h _ (by rw [sortVals_length false rfl]; exact e.length) (sortVals_data false e er' hal)
open PySem.W in
theorem sort_facts {β : Type} (enc : β → PyData) (bs : List β) : (bs.mergeSort (dataLe false enc)).Perm bs ∧ (bs.mergeSort (dataLe false enc)).Pairwise (fun a b => dataLe false enc a b = true) :=
  ⟨List.mergeSort_perm _ _, sort_pairwise (sortLe_total (listOrd itemOrd) false fun b => keyToks (enc b)) bs⟩
open PySem.W in
theorem sorted_coll {β : Type} {a : Addr} {es : Array (Int × Value)} {ep : Nat} {t : SetTable} {bs : List β} {enc : β → PyData} {R : Value → β → Prop} {Q : Value → Shared → Prop} (hh : A.handled = none) (ha : SetAt s.heap a es ep t) (hf : t.fits es.size = true) (hsz : es.size < scanBound) (r : Ris t.place.toList)
    (hl : w.params.followText "set-order" = true ∨ t.led = true) (e : EachIs R (es.toList.map (·.2)) bs) (er : EachIs (fun v b => ∃ as, Reads s.heap v (enc b) as ∧ ∀ c ∈ as, c < s.heap.objs.size) (es.toList.map (·.2)) bs)
    (hal : AllAlike (bs.map enc)) (hk : (∀ d ∈ bs.map enc, ∃ xs, d = .tuple xs) ∨ Sortable (bs.map enc)) (hu : ∀ b, b ∈ bs → A.units + 3 + (enc b).depth < cLine)
    (hQ : ∀ s' p (out : Array Value) (c : Nat) (bs' : List β), (∀ b o, s.heap.get? b = some o → s'.heap.get? b = some o) → s'.gens = s.gens → s'.os = s.os → s.heap.objs.size ≤ p → s'.heap.get? p = some (seqObj "list" out c) →
      EachIs R out.toList bs' → bs'.Perm bs → bs'.Pairwise (fun a b => dataLe false enc a b = true) → Q (.ref p) s') :
    wpAny (model P w) A (call (.builtin "sorted") [.ref a]) Q E s := by
  refine Calls.call_function_entry kind_sorted plain_sorted entry_sorted (args_sorted1 _) ?_
  unfold Builtin.«sorted»
  refine wpAny_bind (m := checkCount "sorted" 1 1 _) (wpAny_pure ?_)
  refine wpAny_bind (collect_set (A := A.in1) hh ha hf hsz r hl fun s1 vs k1 hz g1 o1 pm => ?_)
  obtain ⟨bs1, e1, p1⟩ := each_perm pm (each_and e er)
  have lb : bs.length = es.size := by rw [← e.length, List.length_map, Array.length_toList]
  have lv : vs.length = bs1.length := e1.length
  have l1 : bs1.length = bs.length := p1.length_eq
  have sl : scanBound = 4096 := rfl
  refine wpAny_bind (wpAny_newList ?_ (by rw [sizeLine_eq]; omega))
  have hoL : (s1.heap.push (seqObj "list" vs.toArray 0)).get? s1.heap.objs.size = some (seqObj "list" vs.toArray 0) := Heap.get?_push_size _ rfl
  have mem1 : ∀ d, d ∈ bs1.map enc ↔ d ∈ bs.map enc := fun d => (p1.map enc).mem_iff
  refine wpAny_bind (wpAny_holding (list_sorts (s := { s1 with heap := s1.heap.push (seqObj "list" vs.toArray 0) }) (enc := enc) (R := R) hoL (e1.mono fun _ _ z => z.1)
    (e1.mono fun v b z => ?_) (fun d hd d' hd' => hal d ((mem1 d).mp hd) d' ((mem1 d').mp hd')) ?_ (by rw [sizeLine_eq]; omega) (fun b hb => ?_) fun out ho eo => ?_))
  · obtain ⟨_, as, rd, lo⟩ := z
    refine ⟨as, PyProof.Rows.Reads.keeps (fun c o q => Heap.get?_push_of_some _ (k1 c o q)) rd, fun hm => ?_⟩
    exact absurd (Nat.lt_of_lt_of_le (lo _ hm) hz) (Nat.lt_irrefl _)
  · rcases hk with ht | hs
    · exact .inl fun d hd => ht d ((mem1 d).mp hd)
    · rcases hs with h1 | h2
      · exact .inr (.inl fun d hd => h1 d ((mem1 d).mp hd))
      · exact .inr (.inr fun d hd => h2 d ((mem1 d).mp hd))
  · have := hu b (p1.mem_iff.mp hb)
    simp only [Around.in1_units]
    omega
  · obtain ⟨c, hc⟩ := sortedHeap_at (vs := vs) (out := out.toArray) hoL
    have sf := sort_facts enc bs1
    refine wpAny_pure ⟨_, rfl, hQ _ s1.heap.objs.size out.toArray c (bs1.mergeSort (dataLe false enc)) (fun b u q => ?_) g1 o1 hz hc (by simpa using eo) (sf.1.trans p1) sf.2⟩
    have q1 := k1 b u q
    have hlt := Heap.lt_size q1
    show (sortedHeap (s1.heap.push (seqObj "list" vs.toArray 0)) s1.heap.objs.size vs out.toArray).get? b = some u
    rw [sortedHeap_old (Nat.ne_of_lt hlt) (by rw [size_push']; exact Nat.lt_succ_of_lt hlt)]
    exact Heap.get?_push_of_some _ q1
end
end Rw
namespace Rw
open PySem PySem.Spec PyProof.Rows L2 PySem.Froz
/-! ### data made of texts, whole numbers, None and tuples -/
mutual
def okD : PyData → Bool
  | .none => true
  | .int _ => true
  | .str _ => true
  | .tuple xs => okDs xs
  | .bool _ => false
  | .list _ => false
  | .dict _ => false
def okDs : List PyData → Bool
  | [] => true
  | x :: xs => okD x && okDs xs
end
mutual
def toK : PyData → NK
  | .none => .none
  | .int i => .num i
  | .str x => .text x
  | .tuple xs => .tup (toKs xs)
  | .bool _ => .none
  | .list _ => .none
  | .dict _ => .none
def toKs : List PyData → List NK
  | [] => []
  | x :: xs => toK x :: toKs xs
end
theorem okDs_cons {x : PyData} {xs : List PyData} (h : okDs (x :: xs) = true) : okD x = true ∧ okDs xs = true := by
  rw [okDs, Bool.and_eq_true] at h
  exact h
mutual
theorem toK_data : ∀ d : PyData, okD d = true → (toK d).data = d
  | .none, _ => by simp [toK, NestedKey.data]
  | .int _, _ => by simp [toK, NestedKey.data]
  | .str _, _ => by simp [toK, NestedKey.data]
  | .tuple xs, h => by
    rw [okD] at h
    rw [toK, NestedKey.data, toKs_data xs h]
  | .bool _, h => by simp [okD] at h
  | .list _, h => by simp [okD] at h
  | .dict _, h => by simp [okD] at h
theorem toKs_data : ∀ ds : List PyData, okDs ds = true → NestedKey.datas (toKs ds) = ds
  | [], _ => by simp [toKs, NestedKey.datas]
  | x :: xs, h => by
    obtain ⟨h1, h2⟩ := okDs_cons h
    rw [toKs, NestedKey.datas, toK_data x h1, toKs_data xs h2]
end
theorem toK_inj {d e : PyData} (hd : okD d = true) (he : okD e = true) (h : toK d = toK e) : d = e := by
  rw [← toK_data d hd, ← toK_data e he, h]
mutual
theorem toK_depth : ∀ d : PyData, (toK d).depth ≤ d.depth
  | .none => by simp [toK, NestedKey.depth]
  | .int _ => by simp [toK, NestedKey.depth]
  | .str _ => by simp [toK, NestedKey.depth]
  | .tuple xs => by
    have z := toKs_depth xs
    rw [toK, NestedKey.depth, PyData.depth]
    omega
  | .bool _ => by simp [toK, NestedKey.depth]
  | .list _ => by simp [toK, NestedKey.depth]
  | .dict _ => by simp [toK, NestedKey.depth]
theorem toKs_depth : ∀ ds : List PyData, NestedKey.depthAll (toKs ds) ≤ PyData.depthAll ds
  | [] => by simp [toKs, NestedKey.depthAll]
  | x :: xs => by
    have z1 := toK_depth x
    have z2 := toKs_depth xs
    rw [toKs, NestedKey.depthAll, PyData.depthAll]
    omega
end
mutual
theorem isK_of : ∀ (d : PyData) (h : Heap) (v : Value) (as : List Addr), okD d = true → Reads h v d as → NestedIs h (toK d) v ∧ as = []
  | .none, _, _, _, _, r => by
    cases r
    exact ⟨.none, rfl⟩
  | .int _, _, _, _, _, r => by
    cases r
    exact ⟨.int _ _, rfl⟩
  | .str _, _, _, _, _, r => by
    cases r
    exact ⟨.text _ _, rfl⟩
  | .tuple xs, h, _, _, ok, r => by
    rw [okD] at ok
    cases r with
    | tuple h1 h2 h3 h4 =>
      obtain ⟨k, e⟩ := isKs_of xs h _ _ ok h4
      exact ⟨.tup h1 h2 h3 k, e⟩
  | .bool _, _, _, _, ok, _ => by simp [okD] at ok
  | .list _, _, _, _, ok, _ => by simp [okD] at ok
  | .dict _, _, _, _, ok, _ => by simp [okD] at ok
theorem isKs_of : ∀ (ds : List PyData) (h : Heap) (vs : List Value) (as : List Addr), okDs ds = true → ReadsAll h vs ds as → NestedAll h (toKs ds) vs ∧ as = []
  | [], _, _, _, _, r => by
    cases r
    exact ⟨.nil, rfl⟩
  | x :: xs, h, _, _, ok, r => by
    obtain ⟨o1, o2⟩ := okDs_cons ok
    cases r with
    | cons r1 r2 =>
      obtain ⟨k1, e1⟩ := isK_of x h _ _ o1 r1
      obtain ⟨k2, e2⟩ := isKs_of xs h _ _ o2 r2
      exact ⟨.cons k1 k2, by rw [e1, e2]; rfl⟩
end
/-- a tuple of such, not too deep -/
structure Good (d : PyData) : Prop where
  ok : okD d = true
  dp : d.depth ≤ 8
  tu : ∃ xs, d = .tuple xs
/-! ### what stays while tuples stay -/
def Stay (H H' : Hp) : Prop := ∀ b xs, Rd H b (.tup xs) → Rd H' b (.tup xs)
theorem Stay.refl (H : Hp) : Stay H H := fun _ _ h => h
theorem Stay.trans {H H1 H2 : Hp} (a : Stay H H1) (b : Stay H1 H2) : Stay H H2 := fun c xs h => b c xs (a c xs h)
theorem Stay.same {H H' : Hp} (h : Same H H') : Stay H H' := fun b xs r => by
  rcases r with r | ⟨o, r⟩
  · exact .inl (h _ _ r)
  · exact .inr ⟨o, h _ _ r⟩
theorem same_new {H : Hp} {p : Addr} (h : H p = none) (o : HO) : Same H (upd H p o) := fun b u q => by
  rw [upd_ne (ne_of_none q h)]
  exact q
theorem Stay.new {H : Hp} {p : Addr} (h : H p = none) (o : HO) : Stay H (upd H p o) := .same (same_new h o)
theorem Stay.put {H : Hp} {p : Addr} (h : Mut (H p)) (o : HO) : Stay H (upd H p o) := fun b xs r => by
  have ne : b ≠ p := fun z => by
    subst z
    rcases r with r | ⟨u, r⟩
    · rw [r] at h; exact h
    · rw [r] at h; exact h
  unfold Rd
  rw [upd_ne ne]
  exact r
theorem Stay.seq {K : PySem.W.Frag} {H H' : Hp} {a : Addr} {xs : List V} (e : Stay H H') (h : SqT K H a xs) : SqT K H' a xs := by
  rcases h with h | h
  · exact .inl (e _ _ h)
  · exact .inr h
theorem same_tup {K : PySem.W.Frag} {H H' : Hp} {a : Addr} {xs : List V} (e : Same H H') (h : SqT K H a xs) : SqT K H' a xs := (Stay.same e).seq h
section
variable {K : PySem.W.Frag} {H H' : Hp}
mutual
theorem Stay.dp (e : Stay H H') : ∀ (d : PyData) (x : V), okD d = true → Dp K H x d → Dp K H' x d
  | .none, _, _, h => by cases h; exact .non
  | .int _, _, _, h => by cases h; exact .int _
  | .str _, _, _, h => by cases h; exact .str _
  | .tuple ds, _, ok, h => by
    rw [okD] at ok
    cases h with
    | tup h1 h2 => exact .tup (e.seq h1) (Stay.dpAll e ds _ ok h2)
  | .bool _, _, ok, _ => by simp [okD] at ok
  | .list _, _, ok, _ => by simp [okD] at ok
  | .dict _, _, ok, _ => by simp [okD] at ok
theorem Stay.dpAll (e : Stay H H') : ∀ (ds : List PyData) (xs : List V), okDs ds = true → DpAll K H xs ds → DpAll K H' xs ds
  | [], _, _, h => by cases h; exact .nil
  | d :: ds, _, ok, h => by
    obtain ⟨o1, o2⟩ := okDs_cons ok
    cases h with
    | cons h1 h2 => exact .cons (Stay.dp e d _ o1 h1) (Stay.dpAll e ds _ o2 h2)
end
theorem okDs_all {ds : List PyData} (h : ∀ d ∈ ds, okD d = true) : okDs ds = true := by
  induction ds with
  | nil => rfl
  | cons d ds ih =>
    rw [okDs, h d List.mem_cons_self, ih fun e he => h e (List.mem_cons_of_mem _ he)]
    rfl
theorem dpAll_len : ∀ {xs : List V} {ds : List PyData}, DpAll K H xs ds → xs.length = ds.length
  | _, _, .nil => rfl
  | _, _, .cons _ t => by rw [List.length_cons, List.length_cons, dpAll_len t]
theorem dpAll_at : ∀ {xs : List V} {ds : List PyData} {i : Nat} {d : PyData}, DpAll K H xs ds → ds[i]? = some d → ∃ x, xs[i]? = some x ∧ Dp K H x d
  | _, _, _, _, .nil, e => by simp at e
  | _, _, 0, _, .cons h _, e => by
    simp at e
    subst e
    exact ⟨_, rfl, h⟩
  | _, _, i + 1, _, .cons _ t, e => by
    obtain ⟨x, h1, h2⟩ := dpAll_at (i := i) t (by simpa using e)
    exact ⟨x, by simpa using h1, h2⟩
theorem dpAll_at' : ∀ {xs : List V} {ds : List PyData} {i : Nat} {x : V}, DpAll K H xs ds → xs[i]? = some x → ∃ d, ds[i]? = some d ∧ Dp K H x d
  | _, _, _, _, .nil, e => by simp at e
  | _, _, 0, _, .cons h _, e => by
    simp at e
    subst e
    exact ⟨_, rfl, h⟩
  | _, _, i + 1, _, .cons _ t, e => by
    obtain ⟨x, h1, h2⟩ := dpAll_at' (i := i) t (by simpa using e)
    exact ⟨x, by simpa using h1, h2⟩
theorem dpAll_app : ∀ {xs ys : List V} {ds es : List PyData}, DpAll K H xs ds → DpAll K H ys es → DpAll K H (xs ++ ys) (ds ++ es)
  | _, _, _, _, .nil, h => h
  | _, _, _, _, .cons a t, h => .cons a (dpAll_app t h)
theorem Good.ref {x : V} {d : PyData} (g : Good d) (h : Dp K H x d) : ∃ a, x = .ref a := by
  obtain ⟨xs, rfl⟩ := g.tu
  cases h with
  | tup _ _ => exact ⟨_, rfl⟩
end
/-! ### the rules over the abstract heap -/
def tk (L : List (Addr × PyData)) : List (Addr × NK) := L.map fun p => (p.1, toK p.2)
/-- the set of tuples at a, without the tuples -/
def TSetO (w : World) (a : Addr) (L : List (Addr × PyData)) : HO := .ext fun h => ∃ (es : Array (Int × Value)) (ep : Nat) (t : SetTable), (∃ o, h.get? a = some o ∧ o.ExactSet ∧ o.data = .set es ep t) ∧ es.toList = ents w (tk L) ∧ TabOk t (hashes w (tk L)) ∧ ((tk L).map (·.2)).Nodup ∧
  (w.params.followText "set-order" = true ∨ t.led = true) ∧ (tk L).length * 5 < t.mask * 3 ∧ (tk L).length < 76
def XSetO (P : Program) (w : World) (a : Addr) (ms : List Str) : HO := .ext fun h => ∃ (es : Array (Int × Value)) (ep : Nat) (t : SetTable), XSet P w h a ms es ep t
section
variable {X : Cx} {pins : List (Addr × Obj)} {σ : L2.St} {H : Hp} {s : Shared}
theorem key_at (I : Inv X pins σ H s) {a : Addr} {d : PyData} (h : Dp X.K H (.ref a) d) (g : Good d) : TupK s.heap (toK d) a := by
  obtain ⟨as, r⟩ := Dp.reads I d (.ref a) (.ref a) h rfl
  exact ⟨(isK_of d s.heap _ as g.ok r).1, Nat.le_trans (toK_depth d) g.dp⟩
theorem refs_of (g : ∀ d ∈ ds, Good d) {K : PySem.W.Frag} {H : Hp} : ∀ {xs : List V}, DpAll K H xs ds → ∃ L : List (Addr × PyData), xs = L.map (fun p => V.ref p.1) ∧ ds = L.map (·.2) ∧ ∀ p ∈ L, Dp K H (.ref p.1) p.2 := by
  induction ds with
  | nil =>
    intro xs h
    cases h
    exact ⟨[], rfl, rfl, fun p hp => nomatch hp⟩
  | cons d ds ih =>
    intro xs h
    cases h with
    | cons h1 h2 =>
      obtain ⟨L, e1, e2, e3⟩ := ih (fun e he => g e (List.mem_cons_of_mem _ he)) h2
      obtain ⟨a, rfl⟩ := (g d List.mem_cons_self).ref h1
      refine ⟨(a, d) :: L, by rw [e1]; rfl, by rw [e2]; rfl, fun p hp => ?_⟩
      rcases List.mem_cons.mp hp with e | hp
      · rw [e]
        exact h1
      · exact e3 p hp
theorem vals_refs : ∀ {L : List (Addr × PyData)} {us : List Value}, Vals (L.map fun p => V.ref p.1) us → us = (tk L).map fun p => Value.ref p.1
  | [], _, .nil => rfl
  | p :: L, _, .cons r t => by
    cases r
    rw [vals_refs t]
    rfl
/-- set(xs), xs a list or a tuple of tuples -/
def rSetT (K : PySem.W.Frag) (w : World) : List V → Hp → VK → Prop := fun vs H Q => ∃ (l : Addr) (xs : List V) (ds : List PyData), vs = [V.ref l] ∧ (SqL K H l xs ∨ SqT K H l xs) ∧ DpAll K H xs ds ∧ (∀ d ∈ ds, Good d) ∧ ds.length < 76 ∧
  ∀ a L, H a = none → (∀ p ∈ L, p.2 ∈ ds ∧ Dp K H (.ref p.1) p.2) → (∀ d ∈ ds, d ∈ L.map (·.2)) → Q (.ref a) (upd H a (TSetO w a L))
theorem cr_setT (hc : X.calm = true) (hu : X.A.units + 64 < cLine) : CallR X (.type "set") (rSetT X.K X.w) := by
  intro pins s σ H vs us Q I r h
  obtain ⟨l, xs, ds, rfl, hl, hd, hg, hf, q⟩ := h
  obtain ⟨L0, rfl, rfl, hL0⟩ := refs_of hg hd
  rw [Vals.ref1 r]
  have hn : H s.heap.objs.size = none := I.hok.fresh (Nat.le_refl _)
  have hk0 : ∀ p ∈ tk L0, TupK s.heap p.2 p.1 := fun p hp => by
    obtain ⟨z, hz, rfl⟩ := List.mem_map.mp hp
    exact key_at I (hL0 z hz) (hg z.2 (List.mem_map.mpr ⟨z, hz, rfl⟩))
  have few : (tk L0).length < 76 := by
    unfold tk
    rw [List.length_map]
    rw [List.length_map] at hf
    exact hf
  have T := fill_tups (P := X.prog) (w := X.w) s.heap.objs.size s.heap (tk L0) hk0 few
  have fin : ∀ (n : Nat), n = (tk L0).length → ∀ (h' : Heap) (tk' : Nat), (∃ L es ep t, TSet X.prog X.w h' s.heap.objs.size L es ep t ∧ GotN (tk L0) n L) → (∀ b o, s.heap.get? b = some o → h'.get? b = some o) → EP X pins σ Q (.ref s.heap.objs.size) { s with heap := h', toks := tk' } := by
    intro n en h' tk' ⟨L, es, ep, t, R, g⟩ k
    subst en
    have back : ∀ M : List (Addr × NK), (∀ p ∈ M, p ∈ tk L0) → ∃ M0 : List (Addr × PyData), M = tk M0 ∧ ∀ p ∈ M0, p ∈ L0 := by
      intro M
      induction M with
      | nil => exact fun _ => ⟨[], rfl, fun p hp => nomatch hp⟩
      | cons m M ih =>
        intro hm
        obtain ⟨M0, e, h0⟩ := ih fun p hp => hm p (List.mem_cons_of_mem _ hp)
        obtain ⟨z, hz, ez⟩ := List.mem_map.mp (hm m List.mem_cons_self)
        refine ⟨z :: M0, by rw [e, ← ez]; rfl, fun p hp => ?_⟩
        rcases List.mem_cons.mp hp with e' | hp
        · rw [e']
          exact hz
        · exact h0 p hp
    obtain ⟨M, rfl, hM⟩ := back L fun p hp => List.mem_of_mem_take (g.sub p hp)
    have new : ObjOk X.prog X.w (upd H s.heap.objs.size (TSetO X.w s.heap.objs.size M)) h' s.heap.objs.size (TSetO X.w s.heap.objs.size M) := by
      obtain ⟨o, ho, ho2⟩ := R.ob
      refine ⟨⟨es, ep, t, ⟨o, ho, ho2⟩, R.en, R.tab, R.nd, R.led, R.room, R.few⟩, ⟨o, ho⟩, fun h1 h2 ⟨es', ep', t', ⟨o', e1, e2⟩, z⟩ kk => ⟨es', ep', t', ⟨o', kk o' e1, e2⟩, z⟩⟩
    refine ⟨.ref s.heap.objs.size, upd H s.heap.objs.size (TSetO X.w s.heap.objs.size M), I.laid (t' := tk') k (Nat.le_refl _) new, rfl, q _ M hn (fun p hp => ⟨List.mem_map.mpr ⟨p, hM p hp, rfl⟩, hL0 p (hM p hp)⟩) fun d hd => ?_⟩
    obtain ⟨z, hz, rfl⟩ := List.mem_map.mp hd
    have := g.all (z.1, toK z.2) (by rw [List.take_length]; exact List.mem_map.mpr ⟨z, hz, rfl⟩)
    obtain ⟨y, hy, ey⟩ := List.mem_map.mp this
    obtain ⟨y0, hy0, e0⟩ := List.mem_map.mp hy
    have e3 : toK y0.2 = toK z.2 := by
      have e := ey
      rw [← e0] at e
      exact e
    have e4 : y0.2 = z.2 := toK_inj (hg _ (List.mem_map.mpr ⟨y0, hM y0 hy0, rfl⟩)).ok (hg _ (List.mem_map.mpr ⟨z, hz, rfl⟩)).ok e3
    exact List.mem_map.mpr ⟨y0, hy0, e4⟩
  have vlen : ∀ {its : List Value}, its = (tk L0).map (fun p => Value.ref p.1) → its.toArray.size = (tk L0).length := fun e => by
    rw [e, List.size_toArray, List.length_map]
  rcases hl with hl | hl
  · obtain ⟨its, rv, pl, hz⟩ := I.list hl
    have ev := vals_refs rv
    exact call_fill_list (I.ok.hd hc) pl.isList (by rw [show its.toArray.toList = its by simp, ev]; exact T) (by omega) fun h' tk' G k => fin _ (vlen ev) h' tk' G k
  · obtain ⟨its, rv, pl, hz⟩ := I.tuple hl
    have ev := vals_refs rv
    obtain ⟨o, e1, e2, n, e3⟩ := pl
    exact call_fill_tuple (I.ok.hd hc) ⟨o, e1, e2, n, e3⟩ (by rw [show its.toArray.toList = its by simp, ev]; exact T) (by omega) fun h' tk' G k => fin _ (vlen ev) h' tk' G k
theorem tset_get (I : Inv X pins σ H s) {a : Addr} {L : List (Addr × PyData)} (ha : H a = some (TSetO X.w a L)) (hL : ∀ p ∈ L, Good p.2 ∧ Dp X.K H (.ref p.1) p.2) : ∃ es ep t, TSet X.prog X.w s.heap a (tk L) es ep t := by
  obtain ⟨es, ep, t, h1, h2, h3, h4, h5, h6, h7⟩ := (I.hok a _ ha).1
  refine ⟨es, ep, t, h1, h2, h3, h4, fun p hp => ?_, h5, h6, h7⟩
  obtain ⟨z, hz, rfl⟩ := List.mem_map.mp hp
  exact key_at I (hL z hz).2 (hL z hz).1
open PySem.W in
/-- values that stand for data, as values of the layer -/
theorem each_vals {K : PySem.W.Frag} {H : Hp} : ∀ {us : List Value} {ds : List PyData}, EachIs (fun u d => ∃ x, RelV x u ∧ Dp K H x d) us ds → ∃ ys, Vals ys us ∧ DpAll K H ys ds
  | _, _, .nil => ⟨[], .nil, .nil⟩
  | _, _, .cons ⟨x, r, h⟩ t => by
    obtain ⟨ys, v, h'⟩ := each_vals t
    exact ⟨x :: ys, .cons r v, .cons h h'⟩
open PySem.W in
theorem each_map' {α γ δ : Type} {R : γ → δ → Prop} (f : α → γ) (g : α → δ) : ∀ {l : List α}, (∀ a ∈ l, R (f a) (g a)) → EachIs R (l.map f) (l.map g)
  | [], _ => .nil
  | a :: l, h => .cons (h a List.mem_cons_self) (each_map' f g fun b hb => h b (List.mem_cons_of_mem _ hb))
/-- in rising order, as Python's < says -/
abbrev Rising (ds : List PyData) : Prop := ds.Pairwise fun a b => PySem.W.dataLe false id a b = true
/-- sorted(a set of tuples) -/
def rSortT (K : PySem.W.Frag) (w : World) : List V → Hp → VK → Prop := fun vs H Q => ∃ (a : Addr) (L : List (Addr × PyData)), vs = [V.ref a] ∧ H a = some (TSetO w a L) ∧ (∀ p ∈ L, Good p.2 ∧ Dp K H (.ref p.1) p.2) ∧ PySem.W.AllAlike (L.map (·.2)) ∧
  ∀ (ys : List V) (ds : List PyData) (p : Addr), ds.Perm (L.map (·.2)) → ds.Nodup → ds.length < 76 → Rising ds → DpAll K H ys ds → H p = none → Q (.ref p) (upd H p (.lst ys))
theorem cr_sortT (hc : X.calm = true) (hu : X.A.units + 64 < cLine) : CallR X (.builtin "sorted") (rSortT X.K X.w) := by
  intro pins s σ H vs us Q I r h
  obtain ⟨a, L, rfl, ha, hL, hal, q⟩ := h
  obtain ⟨es, ep, t, R⟩ := tset_get I ha hL
  rw [Vals.ref1 r]
  obtain ⟨o, ho, hex, hd⟩ := R.ob
  have hvals : es.toList.map (·.2) = L.map fun p => Value.ref p.1 := by
    rw [R.en]
    unfold ents tk
    rw [List.map_map, List.map_map]
    rfl
  have few : L.length < 76 := by
    have := R.few
    unfold tk at this
    rw [List.length_map] at this
    exact this
  have e1 : PySem.W.EachIs (fun u d => ∃ x, RelV x u ∧ Dp X.K H x d) (es.toList.map (·.2)) (L.map (·.2)) := by
    rw [hvals]
    exact each_map' _ _ fun p hp => ⟨.ref p.1, rfl, (hL p hp).2⟩
  have e2 : PySem.W.EachIs (fun v d => ∃ as, Reads s.heap v (id d) as ∧ ∀ c ∈ as, c < s.heap.objs.size) (es.toList.map (·.2)) (L.map (·.2)) := by
    rw [hvals]
    refine each_map' _ _ fun p hp => ?_
    obtain ⟨as, rd⟩ := Dp.reads I p.2 (.ref p.1) (.ref p.1) (hL p hp).2 rfl
    refine ⟨as, rd, ?_⟩
    rw [(isK_of p.2 s.heap _ as (hL p hp).1.ok rd).2]
    exact fun c hc => nomatch hc
  have hm : ∀ d ∈ (L.map (·.2)).map id, Good d := fun d hd => by
    rw [List.map_id] at hd
    obtain ⟨p, hp, rfl⟩ := List.mem_map.mp hd
    exact (hL p hp).1
  refine sorted_coll (enc := id) (I.ok.hd hc) ⟨o, ho, hex.1, hd⟩ R.fits (by have := size_of_ents R.en; unfold tk at this; rw [List.length_map] at this; unfold scanBound; omega) R.tab.ris R.led e1 e2 (by rw [List.map_id]; exact hal) (.inl fun d hd => (hm d hd).tu) (fun d hd => ?_) fun s' p out c ds k g os hp hg ho' pm sr => ?_
  · have z := (hm d (by rw [List.map_id]; exact hd)).dp
    show X.A.units + 3 + d.depth < cLine
    omega
  · obtain ⟨ys, hv, hd'⟩ := each_vals ho'
    have hn : H p = none := I.hok.fresh hp
    have hl : ds.length = L.length := by rw [pm.length_eq, List.length_map]
    have hlen : ys.length ≤ sizeLine := by
      rw [dpAll_len hd', sizeLine_eq]
      omega
    have nd : ds.Nodup := by
      refine pm.nodup_iff.mpr ?_
      have z := R.nd
      unfold tk at z
      rw [List.map_map] at z
      have z' : (L.map fun p => toK p.2).Nodup := z
      have y : ((L.map (·.2)).map toK).Nodup := by
        rw [List.map_map]
        exact z'
      exact nodup_of_map y
    have J : Inv X pins σ (upd H p (.lst ys)) { s with heap := s'.heap, gens := s'.gens, drawn := s'.drawn, toks := s'.toks } :=
      I.call (ch := []) (Un.laid k hp hn) (I.hok.laid k hp ⟨hlen, out.toList, c, hv, hg⟩) (by rw [g]; exact I.bare) (fun _ z => nomatch z)
    have e : s' = { s with heap := s'.heap, gens := s'.gens, drawn := s'.drawn, toks := s'.toks } := by
      cases s'
      cases s
      cases os
      rfl
    rw [e]
    exact ⟨.ref p, _, J, rfl, q ys ds p pm nd (by omega) sr hd' hn⟩
/-- set(xs), xs a list or a tuple of texts -/
def rSetX (K : PySem.W.Frag) (P : Program) (w : World) : List V → Hp → VK → Prop := fun vs H Q => ∃ (l : Addr) (zs : List Str), vs = [V.ref l] ∧ (SqL K H l (zs.map V.str) ∨ SqT K H l (zs.map V.str)) ∧ zs.length < 1000 ∧
  ∀ a ms, H a = none → ms.Nodup → (∀ z, z ∈ ms ↔ z ∈ zs) → ms.length ≤ zs.length → Q (.ref a) (upd H a (XSetO P w a ms))
theorem vals_texts : ∀ {zs : List Str} {us : List Value}, Vals (zs.map V.str) us → PySem.W.EachIs (fun v z => ∃ u, v = Value.str z u) us zs
  | [], _, .nil => .nil
  | _ :: _, _, .cons r t => .cons r (vals_texts t)
theorem texts_vals {zs : List Str} {us : List Value} (h : PySem.W.EachIs (fun v z => ∃ u, v = Value.str z u) us zs) : Vals (zs.map V.str) us := by
  induction h with
  | nil => exact .nil
  | cons h _ ih => exact .cons h ih
theorem cr_setX (hc : X.calm = true) (hu : X.A.units + 64 < cLine) : CallR X (.type "set") (rSetX X.K X.prog X.w) := by
  intro pins s σ H vs us Q I r h
  obtain ⟨l, zs, rfl, hl, few, q⟩ := h
  rw [Vals.ref1 r]
  have hn : H s.heap.objs.size = none := I.hok.fresh (Nat.le_refl _)
  have fin : ∀ (n : Nat), n = zs.length → ∀ (h' : Heap) (tk' : Nat), (∃ ms es ep t, XSet X.prog X.w h' s.heap.objs.size ms es ep t ∧ (∀ z, z ∈ ms ↔ z ∈ zs.take n) ∧ ms.length ≤ n) → (∀ b o, s.heap.get? b = some o → h'.get? b = some o) → EP X pins σ Q (.ref s.heap.objs.size) { s with heap := h', toks := tk' } := by
    intro n en h' tk' ⟨ms, es, ep, t, R, g, hl⟩ k
    subst en
    have new : ObjOk X.prog X.w (upd H s.heap.objs.size (XSetO X.prog X.w s.heap.objs.size ms)) h' s.heap.objs.size (XSetO X.prog X.w s.heap.objs.size ms) :=
      ⟨⟨es, ep, t, R⟩, ⟨_, R.ob⟩, fun h1 h2 ⟨es', ep', t', R'⟩ kk => ⟨es', ep', t', R'.moved kk⟩⟩
    exact ⟨.ref s.heap.objs.size, _, I.laid (t' := tk') k (Nat.le_refl _) new, rfl, q _ ms hn R.nd (fun z => by rw [g z, List.take_length]) hl⟩
  have sb : scanBound = 4096 := rfl
  rcases hl with hl | hl
  · obtain ⟨its, rv, pl, hz⟩ := I.list hl
    have ev := vals_texts rv
    have T := fill_texts (P := X.prog) (w := X.w) s.heap.objs.size s.heap zs ev (by omega)
    exact call_fill_list (I.ok.hd hc) pl.isList (by rw [show its.toArray.toList = its by simp]; exact T) (by omega) fun h' tk' G k => fin its.toArray.size (by rw [List.size_toArray]; exact ev.length) h' tk' G k
  · obtain ⟨its, rv, pl, hz⟩ := I.tuple hl
    have ev := vals_texts rv
    have T := fill_texts (P := X.prog) (w := X.w) s.heap.objs.size s.heap zs ev (by omega)
    obtain ⟨o, e1, e2, n, e3⟩ := pl
    exact call_fill_tuple (I.ok.hd hc) ⟨o, e1, e2, n, e3⟩ (by rw [show its.toArray.toList = its by simp]; exact T) (by omega) fun h' tk' G k => fin its.toArray.size (by rw [List.size_toArray]; exact ev.length) h' tk' G k
abbrev RisingX (zs : List Str) : Prop := zs.Pairwise fun a b => decide (a.cps.toList ≤ b.cps.toList) = true
open PySem.W in
theorem each_iff {es : List (Int × Value)} : ∀ {ms : List Str}, (∀ e ∈ es, ∃ k u, e.2 = Value.str k u) → ∃ zs, EachIs (fun v z => ∃ u, v = Value.str z u) (es.map (·.2)) zs := by
  induction es with
  | nil => exact fun _ => ⟨[], .nil⟩
  | cons e es ih =>
    intro ms h
    obtain ⟨k, u, ek⟩ := h e List.mem_cons_self
    obtain ⟨zs, hz⟩ := ih (ms := ms) fun e' he => h e' (List.mem_cons_of_mem _ he)
    exact ⟨k :: zs, .cons ⟨u, ek⟩ hz⟩
/-- sorted(a set of texts) -/
def rSortX (P : Program) (w : World) : List V → Hp → VK → Prop := fun vs H Q => ∃ (a : Addr) (ms : List Str), vs = [V.ref a] ∧ H a = some (XSetO P w a ms) ∧ ms.length < 1000 ∧
  ∀ (zs : List Str) (p : Addr), (∀ z, z ∈ zs ↔ z ∈ ms) → zs.Nodup → zs.length ≤ ms.length → RisingX zs → H p = none → Q (.ref p) (upd H p (.lst (zs.map V.str)))
theorem nodup_len_le : ∀ {l m : List Str}, l.Nodup → (∀ z ∈ l, z ∈ m) → l.length ≤ m.length
  | [], _, _, _ => Nat.zero_le _
  | x :: l, m, hn, hs => by
    obtain ⟨h1, h2⟩ := List.nodup_cons.mp hn
    have hx : x ∈ m := hs x List.mem_cons_self
    have ih := nodup_len_le (l := l) (m := m.erase x) h2 fun y hy => (List.mem_erase_of_ne (show y ≠ x from fun e => h1 (by rw [← e]; exact hy))).2 (hs y (List.mem_cons_of_mem _ hy))
    rw [List.length_erase_of_mem hx] at ih
    have := List.length_pos_of_mem hx
    rw [List.length_cons]
    omega
theorem nodup_of_len : ∀ {l m : List Str}, m.Nodup → (∀ z ∈ m, z ∈ l) → l.length ≤ m.length → l.Nodup
  | [], _, _, _, _ => List.nodup_nil
  | x :: l, m, hm, hs, hl => by
    have hxl : x ∉ l := fun hx => by
      have z := nodup_len_le (l := m) (m := l) hm fun z hz => (List.mem_cons.mp (hs z hz)).elim (fun e => by rw [e]; exact hx) id
      rw [List.length_cons] at hl
      omega
    refine List.nodup_cons.mpr ⟨hxl, nodup_of_len (m := m.erase x) (hm.erase x) (fun z hz => ?_) ?_⟩
    · have hz' := List.mem_of_mem_erase hz
      rcases List.mem_cons.mp (hs z hz') with e | h
      · rw [e] at hz
        exact absurd hz (List.Nodup.not_mem_erase hm)
      · exact h
    · by_cases hx : x ∈ m
      · rw [List.length_erase_of_mem hx]
        rw [List.length_cons] at hl
        omega
      · rw [List.erase_of_not_mem hx]
        rw [List.length_cons] at hl
        omega
theorem cr_sortX (hc : X.calm = true) (hu : X.A.units + 64 < cLine) : CallR X (.builtin "sorted") (rSortX X.prog X.w) := by
  intro pins s σ H vs us Q I r h
  obtain ⟨a, ms, rfl, ha, hlt, q⟩ := h
  obtain ⟨es, ep, t, R⟩ := (I.hok a _ ha).1
  rw [Vals.ref1 r]
  have hel := R.ok.el
  have hsz : es.size = ms.length := R.ok.sz
  obtain ⟨zs, hz⟩ := each_iff (es := es.toList) (ms := ms) fun e he => by
    obtain ⟨⟨k, hk, _⟩, _⟩ := hel e he
    obtain ⟨u, hu⟩ := Value.isStrOf_shape (x := k) (v := e.2) hk
    exact ⟨k, u, hu⟩
  have e1 : PySem.W.EachIs (fun u z => RelV (.str z) u) (es.toList.map (·.2)) zs := hz
  have e2 : PySem.W.EachIs (fun v z => ∃ as, Reads s.heap v (PyData.str z) as ∧ ∀ c ∈ as, c < s.heap.objs.size) (es.toList.map (·.2)) zs := hz.mono fun v z ⟨u, e⟩ => ⟨[], by rw [e]; exact .str z u, fun c hc => nomatch hc⟩
  have mem : ∀ z, z ∈ zs ↔ z ∈ ms := fun z => by
    rw [R.ok.mem z]
    constructor
    · intro hm
      obtain ⟨i, hi, ei⟩ := List.getElem_of_mem hm
      have hi2 : i < (es.toList.map (·.2)).length := by rw [hz.length]; exact hi
      have pz : ((es.toList.map (·.2))[i], zs[i]) ∈ (es.toList.map (·.2)).zip zs := List.mem_of_getElem? (i := i) (by rw [List.getElem?_zip_eq_some]; exact ⟨List.getElem?_eq_getElem hi2, List.getElem?_eq_getElem hi⟩)
      obtain ⟨u, hu⟩ := hz.zip _ pz
      have hin := List.getElem_mem hi2
      rw [show (es.toList.map (·.2))[i] = Value.str zs[i] u from hu, ei] at hin
      obtain ⟨e, he, ee⟩ := List.mem_map.mp hin
      exact ⟨e, he, by rw [ee]; exact is_str z u⟩
    · rintro ⟨e, he, hk⟩
      obtain ⟨z', hz', u, hu⟩ := hz.left e.2 (List.mem_map.mpr ⟨e, he, rfl⟩)
      rw [hu] at hk
      have : z = z' := (strKind X.prog X.w).inj (.str z' u) z z' hk (is_str z' u)
      rw [this]
      exact hz'
  have zl : zs.length = ms.length := by rw [← hz.length, List.length_map, Array.length_toList, hsz]
  refine sorted_coll (enc := fun z : Str => PyData.str z) (I.ok.hd hc) ⟨_, R.ob, rfl, rfl⟩ R.ok.fit (by show es.size < scanBound; unfold scanBound; omega) R.ris R.led e1 e2 (PySem.W.AllAlike.of fun b b' => by simp [PySem.W.alike]) (.inr (PySem.W.Sortable.others fun b => ⟨(fun z => nomatch z), (fun xs z => nomatch z)⟩)) (fun d hd => ?_) fun s' p out c zs' k g os hp hg ho' pm sr => ?_
  · show X.A.units + 3 + (PyData.str d).depth < cLine
    simp only [PyData.depth]
    omega
  · have hn : H p = none := I.hok.fresh hp
    have hv : Vals (zs'.map V.str) out.toList := texts_vals ho'
    have hl : zs'.length = ms.length := by rw [pm.length_eq, zl]
    have hlen : (zs'.map V.str).length ≤ sizeLine := by
      rw [List.length_map, sizeLine_eq]
      omega
    have J : Inv X pins σ (upd H p (.lst (zs'.map V.str))) { s with heap := s'.heap, gens := s'.gens, drawn := s'.drawn, toks := s'.toks } :=
      I.call (ch := []) (Un.laid k hp hn) (I.hok.laid k hp ⟨hlen, out.toList, c, hv, hg⟩) (by rw [g]; exact I.bare) (fun _ z => nomatch z)
    have e : s' = { s with heap := s'.heap, gens := s'.gens, drawn := s'.drawn, toks := s'.toks } := by
      cases s'
      cases s
      cases os
      rfl
    rw [e]
    rw [PySem.W.dataLe_str fun z : Str => z] at sr
    have mem' : ∀ z, z ∈ zs' ↔ z ∈ ms := fun z => by rw [pm.mem_iff]; exact mem z
    exact ⟨.ref p, _, J, rfl, q zs' p mem' (nodup_of_len R.nd (fun z hz => (mem' z).mpr hz) (Nat.le_of_eq hl)) (Nat.le_of_eq hl) sr hn⟩
/-- sorted(a list of tuples) -/
def rSortL (K : PySem.W.Frag) : List V → Hp → VK → Prop := fun vs H Q => ∃ (a : Addr) (xs : List V) (ds : List PyData), vs = [V.ref a] ∧ SqL K H a xs ∧ DpAll K H xs ds ∧ (∀ d ∈ ds, Good d) ∧ PySem.W.AllAlike ds ∧
  ∀ (ys : List V) (es : List PyData) (p : Addr), es.Perm ds → Rising es → DpAll K H ys es → H p = none → Q (.ref p) (upd H p (.lst ys))
theorem cr_sortL (hu : X.A.units + 64 < cLine) : CallR X (.builtin "sorted") (rSortL X.K) := by
  intro pins s σ H vs us Q I r h
  obtain ⟨a, xs, ds, rfl, ha, hd, hg, hal, q⟩ := h
  rw [Vals.ref1 r]
  obtain ⟨its, rv, pl, hz⟩ := I.list ha
  have both : ∀ {xs : List V} {ds : List PyData} {its : List Value}, Vals xs its → DpAll X.K H xs ds → (∀ d ∈ ds, Good d) → PySem.W.EachIs (fun u d => (∃ x, RelV x u ∧ Dp X.K H x d) ∧ ∃ as, Reads s.heap u (id d) as) its ds := by
    intro xs ds its rv
    induction rv generalizing ds with
    | nil =>
      intro hd _
      cases hd
      exact .nil
    | cons r _ ih =>
      intro hd hg
      cases hd with
      | cons h1 h2 => exact .cons ⟨⟨_, r, h1⟩, Dp.reads I _ _ _ h1 r⟩ (ih h2 fun d hd => hg d (List.mem_cons_of_mem _ hd))
  have e0 := both rv hd hg
  have il : its.length = ds.length := e0.length
  have sl := sizeLine_eq
  have xl := rv.length
  have er' : PySem.W.EachIs (fun v d => ∃ as, Reads (PySem.W.sortingHeap (PySem.W.copyHeap s.heap its) (s.heap.objs.size + 1) its) v (id d) as) its ds := e0.mono fun _ _ z => by
    obtain ⟨_, as, rd⟩ := z
    exact ⟨as, PyProof.Rows.Reads.keeps (fun _ _ => PySem.W.sorting_copy_old) rd⟩
  have can : PySem.W.SortsAt X.prog X.w X.A.in1.in1 { s with heap := PySem.W.sortingHeap (PySem.W.copyHeap s.heap its) (s.heap.objs.size + 1) its } (PySem.W.dataKind (PySem.W.sortingHeap (PySem.W.copyHeap s.heap its) (s.heap.objs.size + 1) its) ds) its :=
    SortsAt.tups (s := { s with heap := PySem.W.sortingHeap (PySem.W.copyHeap s.heap its) (s.heap.objs.size + 1) its }) er' hal (fun d hd => (hg d hd).tu) fun d hd => by
      have z := (hg d hd).dp
      simp only [Around.in1_units]
      omega
  refine PySem.W.sorted_vals pl.isList can (by omega) ?_
  have eo : PySem.W.EachIs (fun u d => ∃ x, RelV x u ∧ Dp X.K H x d) (PySem.W.sortVals (PySem.W.dataKind (PySem.W.sortingHeap (PySem.W.copyHeap s.heap its) (s.heap.objs.size + 1) its) ds) false its its) (ds.mergeSort (PySem.W.dataLe false id)) := by
    have z := PySem.W.sortVals_data (h' := PySem.W.sortingHeap (PySem.W.copyHeap s.heap its) (s.heap.objs.size + 1) its) (enc := id) false (e0.mono fun _ _ z => z.1) er' (by rw [List.map_id]; exact hal)
    rw [List.map_id] at z
    exact z
  obtain ⟨ys, hv, hd'⟩ := each_vals eo
  have sf := sort_facts id ds
  generalize hout : PySem.W.sortVals (PySem.W.dataKind (PySem.W.sortingHeap (PySem.W.copyHeap s.heap its) (s.heap.objs.size + 1) its) ds) false its its = out at eo hv
  have hn : H (s.heap.objs.size + 1) = none := I.hok.fresh (Nat.le_succ _)
  obtain ⟨c, hcc⟩ := sortedAll_at s.heap its out.toArray
  have hlen : ys.length ≤ sizeLine := by
    rw [dpAll_len hd', sf.1.length_eq]
    omega
  exact ⟨.ref (s.heap.objs.size + 1), upd H (s.heap.objs.size + 1) (.lst ys), I.laid (t' := s.toks) (fun b o e => sortedAll_old e) (Nat.le_succ _) ⟨hlen, out, c, hv, hcc⟩, rfl, q ys _ _ sf.1 sf.2 hd' hn⟩
end
end Rw
namespace Rw
open PySem PySem.Spec PyProof.Rows L2
/-! ### dicts whose keys are tuples of texts and of such tuples -/
abbrev Ent := PyData × Addr × V
def RelE (p : Ent) (q : NK × Addr × Value) : Prop := toK p.1 = q.1 ∧ p.2.1 = q.2.1 ∧ RelV p.2.2 q.2.2
def NDO (P : Program) (w : World) (d : Addr) (kvs : List Ent) : HO := .ext fun h => kvs.length ≤ 100000 ∧ (d == sysModules) = false ∧ ∃ xs : List (NK × Addr × Value), Paired RelE kvs xs ∧
  ∃ o es ep, h.get? d = some o ∧ o.ExactDict ∧ o.data = .dict es ep ∧ es.toList = xs.map (entryOfKey (nestedKind P w)) ∧ (xs.map (·.1)).Nodup
/-- the entries' keys stand -/
abbrev KeysOk (K : PySem.W.Frag) (H : Hp) (kvs : List Ent) : Prop := ∀ p ∈ kvs, Good p.1 ∧ Dp K H (.ref p.2.1) p.1
theorem KeysOk.stay {K : PySem.W.Frag} {H H' : Hp} {kvs : List Ent} (h : KeysOk K H kvs) (e : Stay H H') : KeysOk K H' kvs := fun p hp => ⟨(h p hp).1, e.dp _ _ (h p hp).1.ok (h p hp).2⟩
theorem paired_mem {α β : Type} {F : α → β → Prop} : ∀ {l : List α} {m : List β}, Paired F l m → ∀ y ∈ m, ∃ x ∈ l, F x y
  | _, _, .nil, y, h => nomatch h
  | _, _, .cons r t, y, h => by
    rcases List.mem_cons.mp h with e | h
    · subst e
      exact ⟨_, List.mem_cons_self, r⟩
    · obtain ⟨x, hx, hr⟩ := paired_mem t y h
      exact ⟨x, List.mem_cons_of_mem _ hx, hr⟩
theorem paired_snoc {α β : Type} {F : α → β → Prop} {x : α} {y : β} (r : F x y) : ∀ {l : List α} {m : List β}, Paired F l m → Paired F (l ++ [x]) (m ++ [y])
  | _, _, .nil => .cons r .nil
  | _, _, .cons q t => .cons q (paired_snoc r t)
/-- what a look-up finds -/
theorem nd_look {kvs : List Ent} {xs : List (NK × Addr × Value)} (p : Paired RelE kvs xs) (hk : ∀ p ∈ kvs, Good p.1) {k : PyData} (g : Good k) :
    (∀ q, atKey xs (toK k) = some q → ∃ z ∈ kvs, z.1 = k ∧ RelV z.2.2 q.2) ∧ (atKey xs (toK k) = none → ∀ z ∈ kvs, z.1 ≠ k) := by
  induction p with
  | nil => exact ⟨fun q h => by simp [atKey] at h, fun _ z hz => nomatch hz⟩
  | @cons a b as bs r t ih =>
    obtain ⟨r1, r2, r3⟩ := r
    obtain ⟨i1, i2⟩ := ih fun p hp => hk p (List.mem_cons_of_mem _ hp)
    by_cases e : b.1 = toK k
    · have ek : a.1 = k := toK_inj (hk a List.mem_cons_self).ok g.ok (r1.trans e)
      have ea : atKey (b :: bs) (toK k) = some b.2 := by simp [atKey, e]
      refine ⟨fun q h => ?_, fun h => ?_⟩
      · rw [ea] at h
        cases h
        exact ⟨a, List.mem_cons_self, ek, r3⟩
      · rw [ea] at h
        cases h
    · have ea : atKey (b :: bs) (toK k) = atKey bs (toK k) := by simp [atKey, e]
      have ne : a.1 ≠ k := fun z => e (by rw [← r1, z])
      refine ⟨fun q h => ?_, fun h z hz => ?_⟩
      · rw [ea] at h
        obtain ⟨z, hz, h1⟩ := i1 q h
        exact ⟨z, List.mem_cons_of_mem _ hz, h1⟩
      · rw [ea] at h
        rcases List.mem_cons.mp hz with e' | hz
        · rw [e']
          exact ne
        · exact i2 h z hz
section
variable {X : Cx} {pins : List (Addr × Obj)} {σ : L2.St} {H : Hp} {s : Shared} {d : Addr} {kvs : List Ent} {E : Value → Shared → Prop}
theorem nd_get (I : Inv X pins σ H s) (hd : H d = some (NDO X.prog X.w d kvs)) (hk : KeysOk X.K H kvs) : kvs.length ≤ 100000 ∧ (d == sysModules) = false ∧ ∃ xs, Paired RelE kvs xs ∧ s.heap.DictOfH (nestedKind X.prog X.w) d xs := by
  obtain ⟨hz, hs, xs, p, o, es, ep, h1, h2, h3, h4, h5⟩ := (I.hok d _ hd).1
  refine ⟨hz, hs, xs, p, o, es, ep, h1, h2, h3, h4, fun x hx => ?_, h5⟩
  obtain ⟨q, hq, r1, r2, _⟩ := paired_mem p x hx
  have := key_at I (hk q hq).2 (hk q hq).1
  rw [r1, r2] at this
  exact this
theorem nd_new {kvs : List Ent} {xs : List (NK × Addr × Value)} {h' : Heap} {H' : Hp} (hz : kvs.length ≤ 100000) (hs : (d == sysModules) = false) (p : Paired RelE kvs xs) (m : h'.DictOfH (nestedKind X.prog X.w) d xs) : ObjOk X.prog X.w H' h' d (NDO X.prog X.w d kvs) := by
  obtain ⟨o, es, ep, h1, h2, h3, h4, _, h5⟩ := m
  refine ⟨⟨hz, hs, xs, p, o, es, ep, h1, h2, h3, h4, h5⟩, ⟨o, h1⟩, fun a b ⟨z1, z2, xs', p', o', es', ep', k1, k2⟩ kk => ⟨z1, z2, xs', p', o', es', ep', kk o' k1, k2⟩⟩
/-- k in d, k not in d -/
def rInN (K : PySem.W.Frag) (P : Program) (w : World) (neg : Bool) : R2 := fun x y H Q => ∃ (a d : Addr) (kvs : List Ent) (k : PyData), x = .ref a ∧ y = .ref d ∧ H d = some (NDO P w d kvs) ∧ KeysOk K H kvs ∧ Good k ∧ Dp K H (.ref a) k ∧
  ∀ b : Bool, (b = true ↔ k ∈ kvs.map (·.1)) → Q (.bl (if neg then !b else b)) H
theorem nd_isSome {xs : List (NK × Addr × Value)} (p : Paired RelE kvs xs) (hk : ∀ p ∈ kvs, Good p.1) {k : PyData} (g : Good k) : (atKey xs (toK k)).isSome = true ↔ k ∈ kvs.map (·.1) := by
  obtain ⟨l1, l2⟩ := nd_look p hk g
  cases e : atKey xs (toK k) with
  | none => exact ⟨(fun h => nomatch h), fun h => by
      obtain ⟨z, hz, ez⟩ := List.mem_map.mp h
      exact absurd ez (l2 e z hz)⟩
  | some q => exact ⟨fun _ => by
      obtain ⟨z, hz, h1, _⟩ := l1 q e
      exact List.mem_map.mpr ⟨z, hz, h1⟩, fun _ => rfl⟩
theorem op_inN (hu : X.A.units + 64 < cLine) : OpR X (compareOp .In) (rInN X.K X.prog X.w false) := by
  intro pins s σ H x y v u Q I rx ry h
  obtain ⟨a, d, kvs, k, rfl, rfl, hd, hk, g, da, q⟩ := h
  cases rx
  cases ry
  obtain ⟨hz, hs, xs, p, m⟩ := nd_get I hd hk
  refine wpAny_in_heap (knd := nestedKind X.prog X.w) (by show X.A.units + 1 + 8 < cLine; omega) (key_at I da g) hs m ?_
  exact ⟨.bl _, H, I.tok _, rfl, q _ (nd_isSome p (fun z hz => (hk z hz).1) g)⟩
theorem op_notInN (hu : X.A.units + 64 < cLine) : OpR X (compareOp .NotIn) (rInN X.K X.prog X.w true) := by
  intro pins s σ H x y v u Q I rx ry h
  obtain ⟨a, d, kvs, k, rfl, rfl, hd, hk, g, da, q⟩ := h
  cases rx
  cases ry
  obtain ⟨hz, hs, xs, p, m⟩ := nd_get I hd hk
  refine wpAny_notIn_heap (knd := nestedKind X.prog X.w) (by show X.A.units + 1 + 8 < cLine; omega) (key_at I da g) hs m ?_
  exact ⟨.bl _, H, I.tok _, rfl, q _ (nd_isSome p (fun z hz => (hk z hz).1) g)⟩
/-- d[k], k is there -/
def rGetN (K : PySem.W.Frag) (P : Program) (w : World) : R2 := fun x y H Q => ∃ (a d : Addr) (kvs : List Ent) (k : PyData), x = .ref d ∧ y = .ref a ∧ H d = some (NDO P w d kvs) ∧ KeysOk K H kvs ∧ Good k ∧ Dp K H (.ref a) k ∧ k ∈ kvs.map (·.1) ∧
  ∀ z ∈ kvs, z.1 = k → Q z.2.2 H
theorem pe_getN {o i : Expr} {td ty : TE} {pos : Pos} (hu : X.A.units + 64 < cLine) (hr : PE X o td) (hi : PE X i ty) (hs : NoSl i) : PE X (.Subscript o i pos) (tOp (rGetN X.K X.prog X.w) td ty) := by
  refine ⟨fun pins s σ H Q I h => ?_⟩
  refine subD_of PySem.F.slot_dict_getitem.lookup hs (thn (hr.run pins s σ H _ I h) fun v s1 ⟨x, H1, I1, r1, q1⟩ => thn (hi.run pins s1 σ H1 _ I1 q1) fun u s2 ⟨y, H2, I2, r2, a, d, kvs, k, ex, ey, hd, hk, g, da, hm, q⟩ => ?_)
  subst ex ey
  cases r1
  cases r2
  obtain ⟨hz, hs', xs, p, m⟩ := nd_get I2 hd hk
  obtain ⟨l1, l2⟩ := nd_look p (fun z hz => (hk z hz).1) g
  refine ⟨m.typeIs, ?_⟩
  cases e : atKey xs (toK k) with
  | none =>
    obtain ⟨z, hz, ez⟩ := List.mem_map.mp hm
    exact absurd ez (l2 e z hz)
  | some pv =>
    obtain ⟨z, hz, ez, rz⟩ := l1 pv e
    exact wpAny_getItem_heap (knd := nestedKind X.prog X.w) (by show X.A.units + 1 + 8 < cLine; omega) (key_at I2 da g) m e ⟨z.2.2, H2, I2.tok _, rz, q z hz ez⟩
/-- {} -/
theorem pe_dnewN {pos : Pos} : PE X (.Dict [] [] pos) (fun _ H Q => ∀ p, H p = none → Q (.ref p) (upd H p (NDO X.prog X.w p []))) := ⟨fun pins s σ H Q I h =>
  wpAny_Dict_empty ⟨.ref s.heap.objs.size, _, I.laid (a := s.heap.objs.size) (o := NDO X.prog X.w s.heap.objs.size []) (t' := s.toks) (fun _ _ q => Heap.get?_push_of_some _ q) (Nat.le_refl _)
    (nd_new (X := X) (Nat.zero_le _) (by have := I.big; exact beq_eq_false_iff_ne.mpr (Nat.ne_of_gt this)) .nil (Heap.DictOfH.new _)), rfl, h _ (I.hok.fresh (Nat.le_refl _))⟩⟩
/-- an entry more -/
theorem nd_put {a : Addr} {k : PyData} {x : V} {u : Value} {A : Around} {Q : Unit → Shared → Prop} (hu : A.units + 8 < cLine) (I : Inv X pins σ H s) (hd : H d = some (NDO X.prog X.w d kvs)) (hk : KeysOk X.K H kvs) (g : Good k) (da : Dp X.K H (.ref a) k) (new : k ∉ kvs.map (·.1)) (few : kvs.length < 100000) (r : RelV x u)
    (h : ∀ s', Inv X pins σ (upd H d (NDO X.prog X.w d (kvs ++ [(k, a, x)]))) s' → (∀ b o, b ≠ d → s.heap.get? b = some o → s'.heap.get? b = some o) → Q () s') : wpAny (model X.prog X.w) A (dictSet d (.ref a) u) Q E s := by
  obtain ⟨hz, hs, xs, p, m⟩ := nd_get I hd hk
  have xl : xs.length = kvs.length := (Paired.length p).symm
  have none_ : atKey xs (toK k) = none := by
    cases e : atKey xs (toK k) with
    | none => rfl
    | some q => exact absurd ((nd_isSome p (fun z hz => (hk z hz).1) g).mp (by rw [e]; rfl)) new
  refine wpAny_dictSet_heap (knd := nestedKind X.prog X.w) (hsz := by rw [sizeLine_eq]; omega) hu (key_at I da g) m fun h' m' sb => ?_
  rw [storedH_new none_] at m'
  have ex : ∃ q, h'.get? d = some q := let ⟨q, _, _, hq, _⟩ := m'; ⟨q, hq⟩
  refine h _ (d_write (t' := _) I (by rw [hd]; exact True.intro) sb ex (nd_new (by rw [List.length_append, List.length_singleton]; omega) hs (paired_snoc ⟨rfl, rfl, r⟩ p) m')) fun b o hb e => (sb.2 b hb).trans e
/-- d.setdefault(k, x) -/
def tSetdN (K : PySem.W.Frag) (P : Program) (w : World) (td ty tx : TE) : TE := fun σ H Q => td σ H fun x H1 => ∃ d kvs0, x = .ref d ∧ H1 d = some (NDO P w d kvs0) ∧ ty σ H1 fun y H2 => tx σ H2 fun z H3 => ∃ (a : Addr) (kvs : List Ent) (k : PyData), y = .ref a ∧ H3 d = some (NDO P w d kvs) ∧ KeysOk K H3 kvs ∧
  Good k ∧ Dp K H3 (.ref a) k ∧ kvs.length < 100000 ∧ (∀ e ∈ kvs, e.1 = k → Q e.2.2 H3) ∧ (k ∉ kvs.map (·.1) → Q z (upd H3 d (NDO P w d (kvs ++ [(k, a, z)]))))
theorem pe_setdN {o e f : Expr} {td ty tx : TE} {apos cpos : Pos} (hu : X.A.units + 64 < cLine) (ho : PE X o td) (he : PE X e ty) (hf : PE X f tx) (m : M2 X o "setdefault" apos e f cpos) : PE X (.Call (.Attribute o "setdefault" apos) [e, f] [] cpos) (tSetdN X.K X.prog X.w td ty tx) := by
  refine ⟨fun pins s σ H Q I h => ?_⟩
  refine wpAny_Call_method m.base m.few m.line PySem.F.plainAttrs_dict PySem.F.slot_dict_setdefault PySem.F.type_dict_setdefault (thn (ho.run pins s σ H _ I h) fun u s1 ⟨x, H1, I1, rx, d, kvs0, ex, d0, q1⟩ => ?_)
  subst ex
  obtain rfl : u = Value.ref d := rx
  have ty0 : ∃ o, s1.heap.get? d = some o ∧ o.cls = .type "dict" ∧ o.dict = none := by
    obtain ⟨_, _, xs, _, o, es, ep, h1, h2, _⟩ := (I1.hok d _ d0).1
    exact ⟨o, h1, h2.1, h2.2.1⟩
  obtain ⟨ob, ho1, ho2, ho3⟩ := ty0
  refine ⟨⟨ob, ho1, ho2⟩, fun b eb => ?_, ?_⟩
  · cases eb
    exact ⟨ob, ho1, ho3⟩
  rw [m.trees]
  refine Calls.callWith_builtin rfl (Calls.evalArgs_plain (Calls.spliced_cons (thn (he.run pins s1 σ H1 _ I1 q1) fun iv s2 ⟨y, H2, I2, ry, q2⟩ =>
    Calls.spliced_cons (thn (hf.run pins s2 σ H2 _ I2 q2) fun fv s3 ⟨z, H3, I3, rz, a, kvs, k, ey, hd, hk, g, da, few, q3, q4⟩ => Calls.spliced_nil ?_))))
  subst ey
  obtain rfl : iv = Value.ref a := ry
  obtain ⟨hz, hs, xs, p, mm⟩ := nd_get I3 hd hk
  have xl : xs.length = kvs.length := (Paired.length p).symm
  obtain ⟨l1, l2⟩ := nd_look p (fun z hz => (hk z hz).1) g
  refine call_setdefault_heap (knd := nestedKind X.prog X.w) (hsz := by rw [sizeLine_eq]; omega) (by show X.A.units + 1 + 8 < cLine; omega) (key_at I3 da g) hs mm (fun pv hp => ?_) fun hn h' m' sb => ?_
  · obtain ⟨z', hz', ez, rz'⟩ := l1 pv hp
    exact ⟨z'.2.2, H3, I3.tok _, rz', q3 z' hz' ez⟩
  · rw [storedH_new hn] at m'
    have ex : ∃ q, h'.get? d = some q := let ⟨q, _, _, hq, _⟩ := m'; ⟨q, hq⟩
    refine ⟨z, _, d_write (t' := _) I3 (by rw [hd]; exact True.intro) sb ex (nd_new (by rw [List.length_append, List.length_singleton]; omega) hs (paired_snoc ⟨rfl, rfl, rz⟩ p) m'), rz, q4 fun hm => ?_⟩
    obtain ⟨z', hz', ez⟩ := List.mem_map.mp hm
    exact l2 hn z' hz' ez
end
end Rw
namespace Rw
open PySem PySem.Spec PyProof.Rows L2
/-! ### y = {x: True for x in xs}, xs a list of tuples, no two alike -/
theorem idx_new {ds : List PyData} (hn : ds.Nodup) {i : Nat} {d : PyData} (h : ds[i]? = some d) : d ∉ ds.take i := fun hm => by
  have z := take_snoc h
  have nd : (ds.take (i + 1)).Nodup := List.Nodup.sublist (List.take_sublist _ _) hn
  rw [z] at nd
  obtain ⟨_, _, h3⟩ := List.nodup_append.mp nd
  exact h3 d hm d (List.mem_singleton.mpr rfl) rfl
theorem vals_at : ∀ {xs : List V} {us : List Value} {i : Nat} {u : Value}, Vals xs us → us[i]? = some u → ∃ x, xs[i]? = some x ∧ RelV x u
  | _, _, _, _, .nil, e => by simp at e
  | _, _, 0, _, .cons r _, e => by
    simp at e
    subst e
    exact ⟨_, rfl, r⟩
  | _, _, i + 1, _, .cons _ t, e => by
    obtain ⟨x, h1, h2⟩ := vals_at (i := i) t (by simpa using e)
    exact ⟨x, by simpa using h1, h2⟩
section
variable {X : Cx}
def tSetD (K : PySem.W.Frag) (P : Program) (w : World) (ti : TE) : TE := fun σ H Q => ti σ H fun v H1 => ∃ (l : Addr) (xs : List V) (ds : List PyData), v = .ref l ∧ SqL K H1 l xs ∧ DpAll K H1 xs ds ∧ (∀ d ∈ ds, Good d) ∧ ds.Nodup ∧ ds.length ≤ 1000 ∧
  ∀ D kvs, H1 D = none → kvs.map (·.1) = ds → KeysOk K H1 kvs → Q (.ref D) (upd H1 D (NDO P w D kvs))
theorem ps_setDictTrue {i : Nat} {y x : Str} {py p1 p2 p3 pos spos : Pos} {kk : Nat} {iter : Expr} {scope : Scope} {own : List (Str × Nat)} {ti : TE} (hc : X.calm = true) (hu : X.A.units + 64 < cLine) (hN : X.N.Nodup) (hy : X.N[i]? = some y) (hyl : X.env.scope.names.lookup y = some .local)
    (hsw : swapsWith (.DictComp (.Name x p1) (.Constant (.bool true) kk p2) [⟨.Name x p3, iter, [], 0⟩] scope pos) (some (.Name y py)) spos.line X.env = pure true) (hi : PE X iter ti) (ok : BlkOk X.N X.env.scope scope own)
    (hx : scope.names.lookup x = some .local) (hdeb : (x == ("__debug__" : Str)) = false) (hcell : ∀ z ∈ scope.names, z.2 ≠ .cell) (hs : ∀ x, foldedSetIterable iter X.env x = pure x := by intro _; rfl) :
    PS X (.Assign [.Name y py] (.DictComp (.Name x p1) (.Constant (.bool true) kk p2) [⟨.Name x p3, iter, [], 0⟩] scope pos) spos) (tAsg (tSetD X.K X.prog X.w ti) (gName i)) := by
  refine ⟨fun pins s σ H D I h => ?_⟩
  have h : tSetD X.K X.prog X.w ti σ H (fun x H1 => gName i x σ H1 D.nx) := h
  have hfree : ∀ y ∈ scope.names, y.2 = .free → ∃ c, X.env.cells.lookup y.1 = some c := fun y hy e => by
    rcases ok.free y hy e with k | k
    · exact I.ok.has _ (.inl k)
    · exact I.ok.has _ (.inr k)
  rw [exec_Assign_Name_used _ _ _ _ hsw]
  refine wpAny_bind (wpAny_standAt (wpAny_bind ?_))
  show wpAny _ X.A (do let _ ← comprehension (.DictComp (.Name x p1) (.Constant (.bool true) kk p2) [⟨.Name x p3, iter, [], 0⟩] scope pos) scope X.env _ newDict false (eval iter X.env) (some (assign (.Name y py) X.env))) _ _ s
  have main : wpAny (model X.prog X.w) X.A (eval iter X.env) (fun xv s₁ => wpAny (model X.prog X.w) X.A (pyIter xv)
      (DcGoes X.prog X.w X.A X.xe X.env scope (cloFrom X.env.cells scope.names []) (.Name x p3) [] (.Name x p1) (.Constant (.bool true) kk p2) (some (assign (.Name y py) X.env)) (fun _ s' => SP X pins D .next s')) X.xe s₁) X.xe s := by
    refine thn (hi.run pins s σ H _ I h) fun xv s1 ⟨v, H1, I1, rv, l, xs, ds, ev, hl, hd, hg, hnd, hlen, q⟩ => ?_
    subst ev
    obtain rfl : xv = Value.ref l := rv
    obtain ⟨its, rvs, pl, _⟩ := I1.list hl
    have hl0 : s1.heap.IsList l its.toArray := pl.isList
    have hlt : (l : Nat) < s1.heap.objs.size := by
      obtain ⟨o, ho, _⟩ := hl0
      exact Heap.lt_size ho
    have il : its.length = ds.length := by rw [← rvs.length, dpAll_len hd]
    refine wpAny_pyIter_list hl0 ?_
    refine ⟨s1.heap.objs.size, [s1.heap.objs.size, l], [s1.heap.objs.size], its.toArray.size, _, _, rfl, Goes.list (I1.ok.hd hc) s1.heap.objs.size l (Nat.ne_of_lt hlt) its.toArray, ⟨⟨_, Heap.get?_push_size _ rfl, rfl, rfl⟩, hl0.push _⟩, ?_⟩
    intro D0 C s3 hB hDobj
    obtain ⟨⟨h3, tk3, rfl⟩, old, nD, nC, hDC, hnm⟩ := hB
    have szp : (s1.heap.push { cls := .type "list_iterator", data := .fields #[.ref l, .int 0 0] }).objs.size = s1.heap.objs.size + 1 := Heap.size_push ..
    have nD' : s1.heap.objs.size + 1 ≤ D0 := by
      have q := nD
      rw [szp] at q
      exact q
    have nC' : s1.heap.objs.size + 1 ≤ C := by
      have q := nC
      rw [szp] at q
      exact q
    have sD : s1.heap.objs.size ≤ D0 := Nat.le_trans (Nat.le_succ _) nD'
    have sC : s1.heap.objs.size ≤ C := Nat.le_trans (Nat.le_succ _) nC'
    have neDI : s1.heap.objs.size ≠ D0 := Nat.ne_of_lt nD'
    have neCI : s1.heap.objs.size ≠ C := Nat.ne_of_lt nC'
    have neDl : (l : Nat) ≠ D0 := Nat.ne_of_lt (Nat.lt_of_lt_of_le hlt sD)
    have neCl : (l : Nat) ≠ C := Nat.ne_of_lt (Nat.lt_of_lt_of_le hlt sC)
    have hDn : H1 D0 = none := I1.hok.fresh sD
    have hIn : H1 s1.heap.objs.size = none := I1.hok.fresh (Nat.le_refl _)
    have hCn : H1 C = none := I1.hok.fresh sC
    have all3 : ∀ b o, s1.heap.get? b = some o → h3.get? b = some o := fun b o e => old b o (Heap.get?_push_of_some _ e)
    have kx : (compEnvC scope (cloFrom X.env.cells scope.names []) C X.env).kindOf x = some .local := lookup_relabel_local hx
    have hp : ((compEnvC scope (cloFrom X.env.cells scope.names []) C X.env).scope.kind == .class || ((compEnvC scope (cloFrom X.env.cells scope.names []) C X.env).scope.kind == .module && (compEnvC scope (cloFrom X.env.cells scope.names []) C X.env).locals != (compEnvC scope (cloFrom X.env.cells scope.names []) C X.env).globals)) = false := by
      show (scope.kind == .class || (scope.kind == .module && _)) = false
      rw [ok.kind]
      rfl
    have fpI : ∀ kvs, FpOk X pins (upd H1 D0 (NDO X.prog X.w D0 kvs)) s1.heap.objs.size := fun kvs => I1.fpOk (Nat.le_refl _) (by rw [upd_ne neDI]; exact hIn)
    have fpC : ∀ kvs, FpOk X pins (upd H1 D0 (NDO X.prog X.w D0 kvs)) C := fun kvs => I1.fpOk sC (by rw [upd_ne (fun e => hDC e.symm)]; exact hCn)
    refine ⟨fun i s₁ => ∃ kvs m, Inv X pins σ (upd H1 D0 (NDO X.prog X.w D0 kvs)) s₁ ∧ s₁.heap.Ns C m ∧ kvs.map (·.1) = ds.take i ∧ KeysOk X.K H1 kvs, ?_, ?_, ?_, ?_⟩
    · -- at the start
      refine ⟨[], _, I1.laid (t' := tk3) all3 sD (nd_new (X := X) (Nat.zero_le _) ?_ .nil ?_), hnm, rfl, fun p hp => nomatch hp⟩
      · exact beq_eq_false_iff_ne.mpr (Nat.ne_of_gt (Nat.lt_of_lt_of_le I1.big sD))
      · exact ⟨_, #[], 0, hDobj, ⟨rfl, rfl, rfl⟩, rfl, rfl, (fun _ z => nomatch z), List.nodup_nil⟩
    · -- the iterator turns
      rintro i s₁ h' tk ⟨kvs, m, J, hn, e, ko⟩ kp _
      obtain ⟨f0, f1, f2, f3, f4, f5⟩ := fpI kvs
      exact ⟨kvs, m, J.turned (t' := tk) (fun b o hb q => kp b o (by simpa using hb) q) f0 f1 f3 f4 f5, hn.at' fun o q => kp _ o (by simpa using (fun z => neCI z.symm)) q, e, ko⟩
    · -- one turn
      rintro i v s₁ hi' hv st ⟨kvs, m, J, hn, e, ko⟩
      have hv' : its[i]? = some v := by simpa using hv
      obtain ⟨x0, hx0, rx0⟩ := vals_at rvs hv'
      obtain ⟨d, hd0, dd⟩ := dpAll_at' hd hx0
      have gd := hg d (List.mem_of_getElem? hd0)
      obtain ⟨a, rfl⟩ := gd.ref dd
      obtain rfl : v = Value.ref a := rx0
      refine wpAny_assign_Name (wpAny_storeName_local kx hn (fun h5 n5 s5 => ?_) hp)
      refine wpAny_tests_nil ?_
      show wpAny _ _ _ _ _ _
      obtain ⟨f0, f1, f2, f3, f4, f5⟩ := fpC kvs
      have J5 : Inv X pins σ (upd H1 D0 (NDO X.prog X.w D0 kvs)) { s₁ with heap := h5, toks := s₁.toks + 1 } := J.turned (t' := s₁.toks + 1) (fun b o hb q => (s5.2 b hb).trans q) f0 f1 f3 f4 f5
      rw [eval_Name _ _ _ hdeb]
      refine wpAny_bind (wpAny_standAt (wpAny_loadName_local ok.kind kx n5 (v := .ref a) (if_pos rfl) ?_))
      refine Constant_bool ?_
      have st5 : h5.IsListIter s1.heap.objs.size l (i + 1) ∧ h5.IsList l its.toArray := ⟨st.1.at fun o q => (s5.2 _ neCI).trans q, st.2.at fun o q => (s5.2 _ neCl).trans q⟩
      have sty : Stay H1 (upd H1 D0 (NDO X.prog X.w D0 kvs)) := Stay.new hDn _
      refine nd_put (s := { s₁ with heap := h5, toks := s₁.toks + 1 }) (by omega) J5 upd_same (ko.stay sty) gd (sty.dp _ _ gd.ok dd) (by rw [e]; exact idx_new hnd hd0) ?_ (x := .bl true) rfl fun s' J' kept => ?_
      · have z := congrArg List.length e
        rw [List.length_map, List.length_take] at z
        omega
      · rw [upd_upd] at J'
        refine ⟨⟨_, _, J', n5.at' fun o q => kept _ o (fun z => hDC z.symm) q, ?_, ?_⟩, st5.1.at fun o q => kept _ o neDI q, st5.2.at fun o q => kept _ o neDl q⟩
        · rw [List.map_append, e, take_snoc hd0]
          rfl
        · intro p hp
          rcases List.mem_append.mp hp with hp | hp
          · exact ko p hp
          · rw [List.mem_singleton.mp hp]
            exact ⟨gd, dd⟩
    · -- behind the last
      rintro s₁ ⟨kvs, m, J, hn, e, ko⟩
      have e' : kvs.map (·.1) = ds := by
        rw [e, List.size_toArray, il, List.take_length]
      show wpAny _ X.A (assign (.Name y py) X.env (.ref D0)) _ _ _
      obtain ⟨f0, f1, f2, f3, f4, f5⟩ := fpC kvs
      refine wpAny_assign_Name (store_ok2 (v := V.ref D0) J hN hy (.inl hyl) rfl (fun s2 J2 ⟨a, sb, ha⟩ => ?_) (.inr hyl))
      have haC : C ≠ a := by
        rcases ha with z | z
        · rw [z]
          exact f1
        · exact fun e => f4 y a z e.symm
      exact ⟨m, hn.sameBut sb haC, fun h3' sb3 => ⟨_, _, J2.turned (t' := s2.toks) (fun b o hb q => (sb3.2 b hb).trans q) f0 f1 f3 f4 f5, q D0 kvs hDn e' ko⟩⟩
  refine wpAny_bind (wpAny_mono (comprehension_at (use := some (assign (.Name y py) X.env)) (Q := fun _ s' => SP X pins D .next s') rfl hs (closure_ok hfree) ok.kind (fun z hz e => by rw [ok.uniq z hz, e])
    (wpAny_mono main (fun xv s₁ h₁ => wpAny_mono h₁ (fun it s₂ h₂ => compBlock_dict hcell ok.kind h₂) fun _ _ e => e) fun _ _ e => e)) (fun _ s' hq => wpAny_pure (wpAny_pure hq)) fun _ _ e => e)
end
end Rw
namespace Rw
open PySem PySem.Spec PyProof.Rows L2
/-! ### names, worlds, pairs -/
def letter (c : Nat) : Bool := decide (97 ≤ c) && decide (c ≤ 122)
def notS : Str := ("not" : Str)
def nameB (x : Str) : Bool := x.cps.toList.all letter && decide (1 ≤ x.cps.size) && decide (x.cps.size ≤ 8) && !decide (x = notS)
theorem nameB_iff {x : Str} : nameB x = true ↔ (∀ c ∈ x.cps.toList, letter c = true) ∧ 1 ≤ x.cps.size ∧ x.cps.size ≤ 8 ∧ x ≠ notS := by
  unfold nameB
  simp only [Bool.and_eq_true, List.all_eq_true, decide_eq_true_eq, Bool.not_eq_true', decide_eq_false_iff_not]
  exact ⟨fun ⟨⟨⟨a, b⟩, c⟩, d⟩ => ⟨a, b, c, d⟩, fun ⟨a, b, c, d⟩ => ⟨⟨⟨a, b⟩, c⟩, d⟩⟩
theorem name_strOk {x : Str} (h : nameB x = true) : PyData.strOk x = true := by
  obtain ⟨h1, _⟩ := nameB_iff.mp h
  unfold PyData.strOk
  rw [← Array.all_toList, List.all_eq_true]
  intro c hc
  have := h1 c hc
  unfold letter at this
  simp only [Bool.and_eq_true, decide_eq_true_eq] at this
  exact decide_eq_true (by omega)
abbrev W := List Str
abbrev Pr := W × W
/-- strictly rising -/
abbrev UpX (ns : W) : Prop := ns.Pairwise fun a b => a.cps.toList < b.cps.toList
structure IsW (ns : W) : Prop where
  names : ∀ x ∈ ns, nameB x = true
  up : UpX ns
  few : ns.length ≤ 40
def wd (ns : W) : PyData := .tuple (ns.map .str)
def pd (p : Pr) : PyData := .tuple [wd p.1, wd p.2]
theorem str_inj : ∀ {a b : W}, a.map PyData.str = b.map PyData.str → a = b
  | [], [], _ => rfl
  | [], _ :: _, h => by simp at h
  | _ :: _, [], h => by simp at h
  | x :: a, y :: b, h => by
    simp only [List.map_cons, List.cons.injEq, PyData.str.injEq] at h
    rw [h.1, str_inj h.2]
theorem wd_inj {a b : W} (h : wd a = wd b) : a = b := by
  unfold wd at h
  injection h with h
  exact str_inj h
theorem pd_inj {p q : Pr} (h : pd p = pd q) : p = q := by
  unfold pd at h
  injection h with h
  injection h with h1 h2
  injection h2 with h2 _
  exact Prod.ext (wd_inj h1) (wd_inj h2)
theorem okDs_str : ∀ ns : W, okDs (ns.map .str) = true
  | [] => rfl
  | x :: ns => by
    rw [List.map_cons, okDs, okDs_str ns]
    rfl
theorem depth_str : ∀ ns : W, PyData.depthAll (ns.map .str) = 0
  | [] => by simp [PyData.depthAll]
  | x :: ns => by
    rw [List.map_cons, PyData.depthAll, depth_str ns]
    simp [PyData.depth]
theorem ok_wd (ns : W) : okD (wd ns) = true := by
  unfold wd
  rw [okD]
  exact okDs_str ns
theorem depth_wd (ns : W) : (wd ns).depth = 1 := by
  unfold wd
  rw [PyData.depth, depth_str]
theorem good_wd (ns : W) : Good (wd ns) := ⟨ok_wd ns, by rw [depth_wd]; decide, ⟨_, rfl⟩⟩
theorem ok_pd (p : Pr) : okD (pd p) = true := by
  unfold pd
  rw [okD, okDs, okDs, okDs, ok_wd, ok_wd]
  rfl
theorem depth_pd (p : Pr) : (pd p).depth = 2 := by
  unfold pd
  simp [PyData.depth, PyData.depthAll, depth_wd]
theorem good_pd (p : Pr) : Good (pd p) := ⟨ok_pd p, by rw [depth_pd]; decide, ⟨_, rfl⟩⟩
theorem lay_strs : ∀ {ns : W}, (∀ x ∈ ns, nameB x = true) → PyData.canLayAll0 (ns.map .str) = true
  | [], _ => by simp [PyData.canLayAll0]
  | x :: ns, h => by
    rw [List.map_cons, PyData.canLayAll0, lay_strs fun y hy => h y (List.mem_cons_of_mem _ hy), PyData.canLay0, name_strOk (h x List.mem_cons_self)]
    rfl
theorem lay_wd {ns : W} (h : ∀ x ∈ ns, nameB x = true) : (wd ns).canLay0 = true := by
  unfold wd
  rw [PyData.canLay0]
  exact lay_strs h
theorem shaped_wd {ns : W} (h : IsW ns) : SeqAt.shaped (wd ns) = true := by
  unfold SeqAt.shaped
  rw [lay_wd h.names, depth_wd]
  rfl
theorem lay_pd {p : Pr} (h1 : IsW p.1) (h2 : IsW p.2) : (pd p).canLay0 = true := by
  unfold pd
  rw [PyData.canLay0, PyData.canLayAll0, PyData.canLayAll0, PyData.canLayAll0, lay_wd h1.names, lay_wd h2.names]
  rfl
theorem shaped_pd {p : Pr} (h1 : IsW p.1) (h2 : IsW p.2) : SeqAt.shaped (pd p) = true := by
  unfold SeqAt.shaped
  rw [lay_pd h1 h2, depth_pd]
  rfl
theorem alike_strs : ∀ a b : W, PySem.W.alikeAll (a.map .str) (b.map .str) = true
  | [], _ => by simp [PySem.W.alikeAll]
  | _ :: _, [] => by simp [PySem.W.alikeAll]
  | x :: a, y :: b => by
    rw [List.map_cons, List.map_cons, PySem.W.alikeAll, alike_strs a b]
    simp [PySem.W.alike]
theorem alike_wd (a b : W) : PySem.W.alike (wd a) (wd b) = true := by
  unfold wd
  rw [PySem.W.alike]
  exact alike_strs a b
theorem alike_pd (p q : Pr) : PySem.W.alike (pd p) (pd q) = true := by
  unfold pd
  rw [PySem.W.alike, PySem.W.alikeAll, PySem.W.alikeAll, PySem.W.alikeAll, alike_wd, alike_wd]
  rfl
theorem eqv_strs : ∀ a b : W, PyData.eqvAll (a.map .str) (b.map .str) = decide (a = b)
  | [], [] => by simp [PyData.eqvAll]
  | [], _ :: _ => by simp [PyData.eqvAll]
  | _ :: _, [] => by simp [PyData.eqvAll]
  | x :: a, y :: b => by
    rw [List.map_cons, List.map_cons, PyData.eqvAll, eqv_strs a b, PyData.eqv]
    by_cases h : x = y
    · subst h
      by_cases h2 : a = b <;> simp [h2]
    · simp [h]
theorem eqv_wd (a b : W) : PyData.eqv (wd a) (wd b) = decide (a = b) := by
  unfold wd
  rw [PyData.eqv]
  exact eqv_strs a b
theorem eqv_pd (p q : Pr) : PyData.eqv (pd p) (pd q) = decide (p = q) := by
  unfold pd
  rw [PyData.eqv, PyData.eqvAll, PyData.eqvAll, PyData.eqvAll, eqv_wd, eqv_wd]
  obtain ⟨a, b⟩ := p
  obtain ⟨c, d⟩ := q
  by_cases h1 : a = c
  · by_cases h2 : b = d <;> simp [h1, h2]
  · simp [h1]
/-! ### sorted lists are told by their members -/
theorem toks_ne {d e : PyData} (h : PySem.W.alike d e = true) (he : PyData.eqv d e = false) : PySem.W.keyToks d ≠ PySem.W.keyToks e := fun t => by
  have z := (PySem.W.toks_eqv d e h).2 he [.inl 0] [.inl 1]
  rw [t, PySem.W.lex_pre, lex_irrefl] at z
  exact absurd z (by decide)
theorem lt_or {d e : PyData} (h : PySem.W.alike d e = true) (he : PyData.eqv d e = false) : PySem.W.dataLt d e = true ∨ PySem.W.dataLt e d = true := by
  cases h1 : PySem.W.dataLt d e with
  | true => exact .inl rfl
  | false =>
    cases h2 : PySem.W.dataLt e d with
    | true => exact .inr rfl
    | false => exact absurd (lex_total _ _ h1 h2) (toks_ne h he)
/-- rising and without repetition: told by the members -/
theorem rising_one {α : Type} {enc : α → PyData} (al : ∀ a b, PySem.W.alike (enc a) (enc b) = true) (inj : ∀ a b, PyData.eqv (enc a) (enc b) = true → a = b) :
    ∀ {l m : List α}, Rising (l.map enc) → Rising (m.map enc) → l.Nodup → m.Nodup → (∀ a, a ∈ l ↔ a ∈ m) → l = m
  | [], [], _, _, _, _, _ => rfl
  | [], b :: m, _, _, _, _, h => absurd ((h b).mpr List.mem_cons_self) (List.not_mem_nil)
  | a :: l, [], _, _, _, _, h => absurd ((h a).mp List.mem_cons_self) (List.not_mem_nil)
  | a :: l, b :: m, r1, r2, n1, n2, h => by
    have le_of : ∀ {x y : α} {k : List α}, Rising ((x :: k).map enc) → y ∈ x :: k → y = x ∨ PySem.W.dataLt (enc y) (enc x) = false := by
      intro x y k r hy
      rcases List.mem_cons.mp hy with e | hy
      · exact .inl e
      · right
        have z := (List.pairwise_cons.mp r).1 (enc y) (List.mem_map.mpr ⟨y, hy, rfl⟩)
        have z' : (!PySem.W.dataLt (enc y) (enc x)) = true := z
        simpa using z'
    have e : a = b := by
      have h1 := le_of r1 ((h b).mpr List.mem_cons_self)
      have h2 := le_of r2 ((h a).mp List.mem_cons_self)
      rcases h1 with e | h1
      · exact e.symm
      · rcases h2 with e | h2
        · exact e
        · cases ev : PyData.eqv (enc a) (enc b) with
          | true => exact inj a b ev
          | false =>
            rcases lt_or (al a b) ev with z | z
            · rw [h2] at z
              exact nomatch z
            · rw [h1] at z
              exact nomatch z
    subst e
    obtain ⟨a1, a2⟩ := List.nodup_cons.mp n1
    obtain ⟨b1, b2⟩ := List.nodup_cons.mp n2
    rw [rising_one al inj (List.pairwise_cons.mp r1).2 (List.pairwise_cons.mp r2).2 a2 b2 fun x => ?_]
    constructor
    · intro hx
      rcases List.mem_cons.mp ((h x).mp (List.mem_cons_of_mem _ hx)) with e | z
      · rw [e] at hx
        exact absurd hx a1
      · exact z
    · intro hx
      rcases List.mem_cons.mp ((h x).mpr (List.mem_cons_of_mem _ hx)) with e | z
      · rw [e] at hx
        exact absurd hx b1
      · exact z
theorem pairs_one {R R' : List Pr} (r1 : Rising (R.map pd)) (r2 : Rising (R'.map pd)) (n1 : R.Nodup) (n2 : R'.Nodup) (h : ∀ p, p ∈ R ↔ p ∈ R') : R = R' :=
  rising_one alike_pd (fun p q e => by rw [eqv_pd] at e; exact of_decide_eq_true e) r1 r2 n1 n2 h
theorem worlds_one {R R' : List W} (r1 : Rising (R.map wd)) (r2 : Rising (R'.map wd)) (n1 : R.Nodup) (n2 : R'.Nodup) (h : ∀ p, p ∈ R ↔ p ∈ R') : R = R' :=
  rising_one alike_wd (fun p q e => by rw [eqv_wd] at e; exact of_decide_eq_true e) r1 r2 n1 n2 h
/-- texts: likewise -/
theorem upX_one : ∀ {l m : W}, UpX l → UpX m → (∀ a, a ∈ l ↔ a ∈ m) → l = m
  | [], [], _, _, _ => rfl
  | [], b :: m, _, _, h => absurd ((h b).mpr List.mem_cons_self) (List.not_mem_nil)
  | a :: l, [], _, _, h => absurd ((h a).mp List.mem_cons_self) (List.not_mem_nil)
  | a :: l, b :: m, r1, r2, h => by
    obtain ⟨p1, q1⟩ := List.pairwise_cons.mp r1
    obtain ⟨p2, q2⟩ := List.pairwise_cons.mp r2
    have e : a = b := by
      rcases List.mem_cons.mp ((h a).mp List.mem_cons_self) with e | z
      · exact e
      · rcases List.mem_cons.mp ((h b).mpr List.mem_cons_self) with e | z'
        · exact e.symm
        · exact absurd (p1 b z') (List.lt_asymm (p2 a z))
    subst e
    have na : ∀ {k : W}, (∀ x ∈ k, a.cps.toList < x.cps.toList) → a ∉ k := fun h hm => List.lt_irrefl _ (h a hm)
    rw [upX_one q1 q2 fun x => ?_]
    constructor
    · intro hx
      rcases List.mem_cons.mp ((h x).mp (List.mem_cons_of_mem _ hx)) with e | z
      · rw [e] at hx
        exact absurd hx (na p1)
      · exact z
    · intro hx
      rcases List.mem_cons.mp ((h x).mpr (List.mem_cons_of_mem _ hx)) with e | z
      · rw [e] at hx
        exact absurd hx (na p2)
      · exact z
/-- ≤ and without repetition: strictly rising -/
theorem upX_of {zs : W} (h : RisingX zs) (n : zs.Nodup) : UpX zs := by
  induction zs with
  | nil => exact List.Pairwise.nil
  | cons x zs ih =>
    obtain ⟨p, q⟩ := List.pairwise_cons.mp h
    obtain ⟨n1, n2⟩ := List.nodup_cons.mp n
    refine List.pairwise_cons.mpr ⟨fun y hy => ?_, ih q n2⟩
    have le := of_decide_eq_true (p y hy)
    refine Classical.byContradiction fun c => ?_
    have ge : y.cps.toList ≤ x.cps.toList := List.not_lt.mp c
    have e : x.cps.toList = y.cps.toList := List.le_antisymm le ge
    exact n1 ((PySem.W.str_of_cps e) ▸ hy)
theorem upX_nodup {zs : W} (h : UpX zs) : zs.Nodup := List.Pairwise.imp (fun {a b} h e => by subst e; exact List.lt_irrefl _ h) h
end Rw
namespace Rw
open PySem PySem.Spec PyProof.Rows L2
theorem in_letters {c : Nat} (h : letter c = true) : c ∈ lettersS.cps.toList := by
  have all : ((List.range 123).all fun c => !letter c || decide (c ∈ lettersS.cps.toList)) = true := by decide +kernel
  have z := h
  unfold letter at z
  simp only [Bool.and_eq_true, decide_eq_true_eq] at z
  have q := List.all_eq_true.mp all c (List.mem_range.mpr (by omega))
  rw [h] at q
  simpa using q
/-- a comprehension over a text's signs -/
theorem lc_sgn {x : Str} {g : TG} {tt : TT} {te : TE} {vs : List Nat} {σ : L2.St} {H1 : Hp} {D : Addr} {Qd : Hp → Prop} (Pv : Nat → Hp → Prop) (h0 : Pv 0 (upd H1 D (.lst [])))
    (hs : ∀ i c H, x.cps[i]? = some c → Pv i H → g (.str ⟨#[c]⟩) (wipe σ vs) H fun σ2 H2 => wipe σ2 vs = wipe σ vs ∧ tt σ2 H2 fun b H3 =>
      if b = true then te σ2 H3 fun y H4 => ∃ acc, H4 D = some (.lst acc) ∧ acc.length < sizeLine ∧ Pv (i + 1) (upd H4 D (.lst (acc ++ [y]))) else Pv (i + 1) H3) (hd : ∀ H, Pv x.cps.size H → Qd H) :
    ∃ W : Nat → Nat → Hp → Prop, (∃ m, W 0 m (upd H1 D (.lst []))) ∧ ∀ i m H, W i m H →
      ((Its x).stop i H ∧ Qd H) ∨ ((Its x).go i H ∧ ∃ Nx : Hp → Prop, (∀ H', Nx H' → ∃ m', m' < m ∧ W (i + 1) m' H') ∧ ∀ y H', (Its x).yld i H y H' → g y (wipe σ vs) H' fun σ2 H2 => wipe σ2 vs = wipe σ vs ∧ tt σ2 H2 fun b H3 =>
        if b = true then te σ2 H3 fun y H4 => ∃ acc, H4 D = some (.lst acc) ∧ acc.length < sizeLine ∧ Nx (upd H4 D (.lst (acc ++ [y]))) else Nx H3) := by
  refine ⟨fun i m H => m = x.cps.size - i ∧ i ≤ x.cps.size ∧ Pv i H, ⟨x.cps.size, by simp, Nat.zero_le _, h0⟩, ?_⟩
  rintro i m H ⟨rfl, hi, p⟩
  by_cases hlt : i < x.cps.size
  · refine .inr ⟨hlt, Pv (i + 1), fun H' p' => ⟨x.cps.size - (i + 1), by omega, rfl, hlt, p'⟩, fun y H' yy => ?_⟩
    obtain ⟨rfl, c, hc, rfl⟩ := yy
    exact hs i c _ hc p
  · have e : i = x.cps.size := by omega
    subst e
    exact .inl ⟨Nat.le_refl _, hd H p⟩
theorem small_line {n : Nat} (h : n ≤ 10000) : n ≤ sizeLine := by
  rw [sizeLine_eq]
  omega
theorem small_line' {n : Nat} (h : n ≤ 10000) : n < sizeLine := by
  rw [sizeLine_eq]
  omega
theorem map_at {α β : Type} {l : List α} {f : α → β} {i : Nat} {y : β} (h : (l.map f)[i]? = some y) : ∃ x, l[i]? = some x ∧ y = f x := by
  rw [List.getElem?_map] at h
  cases e : l[i]? with
  | none => rw [e] at h; simp at h
  | some x =>
    rw [e] at h
    exact ⟨x, rfl, (Option.some.inj h).symm⟩
theorem same_put {H H1 : Hp} {D : Addr} {o : HO} (sm : Same H H1) (hD : H D = none) : Same H (upd H1 D o) := fun b u e => by
  rw [upd_ne (ne_of_none e hD)]
  exact sm b u e
theorem dps_str {K : PySem.W.Frag} {H : Hp} : ∀ {ns : W} {xs : List V}, DpAll K H xs (ns.map .str) → xs = ns.map V.str
  | [], _, h => by cases h; rfl
  | x :: ns, _, h => by
    cases h with
    | cons h1 h2 =>
      cases h1
      rw [dps_str h2]
      rfl
theorem dps_strs {K : PySem.W.Frag} {H : Hp} : ∀ ns : W, DpAll K H (ns.map V.str) (ns.map .str)
  | [] => .nil
  | x :: ns => .cons (.str x) (dps_strs ns)
theorem of_wd {K : PySem.W.Frag} {H : Hp} {x : V} {ns : W} (h : Dp K H x (wd ns)) : ∃ a, x = .ref a ∧ SqT K H a (ns.map V.str) := by
  unfold wd at h
  cases h with
  | tup h1 h2 =>
    rw [dps_str h2] at h1
    exact ⟨_, rfl, h1⟩
theorem to_wd {K : PySem.W.Frag} {H : Hp} {a : Addr} {ns : W} (h : SqT K H a (ns.map V.str)) : Dp K H (.ref a) (wd ns) := .tup h (dps_strs ns)
theorem Stay.wd {K : PySem.W.Frag} {H H' : Hp} {x : V} {ns : W} (e : Stay H H') (h : Dp K H x (Rw.wd ns)) : Dp K H' x (Rw.wd ns) := e.dp _ _ (ok_wd ns) h
theorem tyx_tup {K : PySem.W.Frag} {H : Hp} {a : Addr} {xs : List V} (h : SqT K H a xs) : TyX K H (.ref a) (.type "tuple") := by
  rcases h with (h | ⟨o, h⟩) | ⟨o, its, n, h1, h2, _⟩
  · exact .base (.tup h)
  · exact .fTuple h
  · exact .kTuple h1 h2
/-- all of ms are in ns -/
def sub (ms ns : W) : Bool := ms.all fun z => decide (z ∈ ns)
theorem inV_str (z : Str) : ∀ ns : W, inV (.str z) (ns.map V.str) = decide (z ∈ ns)
  | [] => by simp [inV]
  | x :: ns => by
    have ih := inV_str z ns
    unfold inV at ih ⊢
    rw [List.map_cons, List.any_cons, ih]
    show ((x == z) || decide (z ∈ ns)) = decide (z ∈ x :: ns)
    by_cases h : x = z
    · subst h
      simp
    · have h' : z ≠ x := fun e => h e.symm
      simp [h, h']
theorem flat_strs (ns : W) : (ns.map V.str).all flatV = true := by
  rw [List.all_map, List.all_eq_true]
  exact fun _ _ => rfl
/-- the first that is told -/
theorem first_at {α β : Type} {f : α → Option β} {y : β} : ∀ {l : List α} {i : Nat} {p : α}, (∀ q ∈ l.take i, f q = none) → l[i]? = some p → f p = some y → l.findSome? f = some y
  | [], _, _, _, h, _ => by simp at h
  | a :: l, 0, p, _, h, e => by
    simp at h
    subst h
    rw [List.findSome?_cons, e]
  | a :: l, i + 1, p, h0, h, e => by
    rw [List.findSome?_cons, h0 a (by simp)]
    exact first_at (i := i) (fun q hq => h0 q (by rw [List.take_succ_cons]; exact List.mem_cons_of_mem _ hq)) (by simpa using h) e
theorem first_none {α β : Type} {f : α → Option β} {l : List α} (h : ∀ q ∈ l, f q = none) : l.findSome? f = none := List.findSome?_eq_none_iff.mpr h
theorem none_snoc {α β : Type} {f : α → Option β} {l : List α} {i : Nat} {p : α} (h0 : ∀ q ∈ l.take i, f q = none) (h : l[i]? = some p) (e : f p = none) : ∀ q ∈ l.take (i + 1), f q = none := fun q hq => by
  rw [take_snoc h] at hq
  rcases List.mem_append.mp hq with hq | hq
  · exact h0 q hq
  · rw [List.mem_singleton.mp hq]
    exact e
theorem filt_t {α : Type} {p : α → Bool} {l : List α} {i : Nat} {z : α} (hz : l[i]? = some z) (e : p z = true) : (l.take (i + 1)).filter p = (l.take i).filter p ++ [z] := by
  rw [take_snoc hz, List.filter_append]
  simp [e]
theorem filt_f {α : Type} {p : α → Bool} {l : List α} {i : Nat} {z : α} (hz : l[i]? = some z) (e : p z = false) : (l.take (i + 1)).filter p = (l.take i).filter p := by
  rw [take_snoc hz, List.filter_append]
  simp [e]
theorem okDs_wd (L : List W) : okDs (L.map wd) = true := okDs_all fun d hd => by
  obtain ⟨q, _, rfl⟩ := List.mem_map.mp hd
  exact ok_wd q
theorem none_back {H0 H : Hp} (h : Same H0 H) {o : Addr} (n : H o = none) : H0 o = none := by
  cases e : H0 o with
  | none => rfl
  | some u =>
    rw [h _ _ e] at n
    cases n
theorem map_inj_nodup {α β : Type} {f : α → β} : ∀ {l : List α}, (l.map f).Nodup → ∀ a ∈ l, ∀ b ∈ l, f a = f b → a = b
  | [], _, a, h, _, _, _ => nomatch h
  | x :: l, hn, a, ha, b, hb, e => by
    rw [List.map_cons] at hn
    obtain ⟨h1, h2⟩ := List.nodup_cons.mp hn
    rcases List.mem_cons.mp ha with ea | ha
    · rcases List.mem_cons.mp hb with eb | hb
      · rw [ea, eb]
      · exact absurd (List.mem_map.mpr ⟨b, hb, by rw [← e, ea]⟩) h1
    · rcases List.mem_cons.mp hb with eb | hb
      · exact absurd (List.mem_map.mpr ⟨a, ha, by rw [e, eb]⟩) h1
      · exact map_inj_nodup h2 a ha b hb e
theorem sw_trueD {key val : Expr} {gs : List Comprehension} {scope : Scope} {pos py : Pos} {y : Str} {l : Nat} {env : Env} (hk : env.scope.kind = .function) (hy : env.scope.names.lookup y = some .local) (hl : (py.line == pos.line) = true)
    (ha : (scope.names.any fun (n, k) => n == y && (k == .local || k == .cell)) = false) : swapsWith (.DictComp key val gs scope pos) (some (.Name y py)) l env = pure true :=
  (show swapsWith (.DictComp key val gs scope pos) (some (.Name y py)) l env = swapsWith (.ListComp key gs scope pos) (some (.Name y py)) l env from rfl).trans (sw_true hk hy hl ha)
theorem op_powB {X : Cx} : OpR X (binaryOp .Pow) (rI (fun i j => 0 ≤ j ∧ (Builtin.Int.intBits i : Int) * j ≤ 2 ^ 27) fun i j => .int (i ^ j.toNat)) := opI fun _ _ _ _ _ _ _ hc q => pow_int hc.1 hc.2 q
theorem b64 {i : Int} (h0 : 0 ≤ i) (h1 : i < 2147483647) : -(2 ^ 64) < i ∧ i < 2 ^ 64 := ⟨by omega, by omega⟩
/-- a purse: three numbers -/
def Pur (H : Hp) (p : Addr) (c : Int) : Prop := ∃ a b e : Int, H p = some (.lst [.int a, .int b, .int e]) ∧ 0 ≤ a ∧ 0 ≤ b ∧ b < 2147483647 ∧ 0 ≤ e ∧ e ≤ c
def subsR : W → List W
  | [] => [[]]
  | x :: r => subsR r ++ (subsR r).map fun t => t ++ [x]
def subs (ns : W) : List W := subsR ns.reverse
theorem mem_subsR : ∀ {r t : W}, t ∈ subsR r ↔ t.Sublist r.reverse
  | [], t => by
    rw [subsR, List.mem_singleton, List.reverse_nil, List.sublist_nil]
  | x :: r, t => by
    rw [subsR, List.mem_append, List.mem_map, List.reverse_cons, List.sublist_append_iff]
    constructor
    · rintro (h | ⟨s, hs, rfl⟩)
      · exact ⟨t, [], by simp, mem_subsR.mp h, by simp⟩
      · exact ⟨s, [x], rfl, mem_subsR.mp hs, List.Sublist.refl _⟩
    · rintro ⟨a, b, rfl, ha, hb⟩
      cases hb with
      | cons _ h =>
        left
        rw [List.sublist_nil.mp h, List.append_nil]
        exact mem_subsR.mpr ha
      | cons_cons _ h =>
        right
        exact ⟨a, mem_subsR.mpr ha, by rw [List.sublist_nil.mp h]⟩
theorem mem_subs {ns t : W} : t ∈ subs ns ↔ t.Sublist ns := by
  unfold subs
  rw [mem_subsR, List.reverse_reverse]
theorem subsR_nodup : ∀ {r : W}, r.Nodup → (subsR r).Nodup
  | [], _ => by simp [subsR]
  | x :: r, h => by
    obtain ⟨h1, h2⟩ := List.nodup_cons.mp h
    have ih := subsR_nodup h2
    rw [subsR]
    refine List.nodup_append.mpr ⟨ih, ?_, fun a ha b hb e => ?_⟩
    · exact List.Pairwise.map _ (fun a b (hab : a ≠ b) (e : a ++ [x] = b ++ [x]) => hab (List.append_cancel_right e)) ih
    · subst e
      obtain ⟨s, hs, rfl⟩ := List.mem_map.mp hb
      have z := (mem_subsR.mp ha).subset (List.mem_append_right s (List.mem_singleton.mpr rfl))
      exact h1 (List.mem_reverse.mp z)
theorem subs_nodup {ns : W} (h : ns.Nodup) : (subs ns).Nodup := subsR_nodup (List.pairwise_reverse.mpr (h.imp fun hne e => hne e.symm))
theorem subsR_len : ∀ r : W, (subsR r).length = 2 ^ r.length
  | [] => rfl
  | x :: r => by
    rw [subsR, List.length_append, List.length_map, subsR_len r, List.length_cons, Nat.pow_succ]
    omega
theorem subs_len (ns : W) : (subs ns).length = 2 ^ ns.length := by
  unfold subs
  rw [subsR_len, List.length_reverse]
theorem subs_snoc (ns : W) (x : Str) : subs (ns ++ [x]) = subs ns ++ (subs ns).map fun t => t ++ [x] := by
  unfold subs
  rw [List.reverse_append, List.reverse_singleton]
  rfl
theorem sub_mem {a b : W} (h : sub a b = true) : ∀ x ∈ a, x ∈ b := fun x hx => by
  unfold sub at h
  exact of_decide_eq_true (List.all_eq_true.mp h x hx)
theorem sub_of {a b : W} (h : ∀ x ∈ a, x ∈ b) : sub a b = true := by
  unfold sub
  exact List.all_eq_true.mpr fun x hx => decide_eq_true (h x hx)
/-- the parts of a world are the worlds within it -/
theorem parts_iff {ns t : W} (h : IsW ns) : t ∈ subs ns ↔ IsW t ∧ sub t ns = true := by
  rw [mem_subs]
  constructor
  · intro s
    exact ⟨⟨fun x hx => h.names x (s.subset hx), h.up.sublist s, Nat.le_trans s.length_le h.few⟩, sub_of fun x hx => s.subset hx⟩
  · rintro ⟨hw, hs⟩
    have e : ns.filter (fun x => decide (x ∈ t)) = t := upX_one (h.up.sublist List.filter_sublist) hw.up fun a => by
      rw [List.mem_filter, decide_eq_true_iff]
      exact ⟨fun z => z.2, fun z => ⟨sub_mem hs a z, z⟩⟩
    rw [← e]
    exact List.filter_sublist
/-- the list of worlds at l -/
def WL (K : PySem.W.Frag) (H : Hp) (l : Addr) (S : List W) : Prop := ∃ ys, H l = some (.lst ys) ∧ DpAll K H ys (S.map wd)
theorem WL.same {K : PySem.W.Frag} {H H' : Hp} {l : Addr} {R : List W} (h : WL K H l R) (e : Same H H') : WL K H' l R := by
  obtain ⟨xs, h1, h2⟩ := h
  exact ⟨xs, e _ _ h1, (Stay.same e).dpAll _ _ (okDs_wd R) h2⟩
theorem all_wd : ∀ {ds : List PyData}, (∀ d ∈ ds, ∃ p, d = wd p) → ∃ R : List W, ds = R.map wd
  | [], _ => ⟨[], rfl⟩
  | d :: ds, h => by
    obtain ⟨p, rfl⟩ := h d List.mem_cons_self
    obtain ⟨R, rfl⟩ := all_wd fun e he => h e (List.mem_cons_of_mem _ he)
    exact ⟨p :: R, rfl⟩
theorem perm_of_map {α β : Type} {f : α → β} (inj : ∀ a b, f a = f b → a = b) : ∀ {l m : List α}, (l.map f).Perm (m.map f) → l.Perm m := by
  intro l m h
  classical
  refine List.perm_iff_count.mpr fun a => ?_
  have z := List.perm_iff_count.mp h (f a)
  have c : ∀ k : List α, List.count (f a) (k.map f) = List.count a k := fun k => by
    induction k with
    | nil => rfl
    | cons x k ih =>
      rw [List.map_cons, List.count_cons, List.count_cons, ih]
      by_cases e : x = a
      · subst e
        simp
      · have e' : f x ≠ f a := fun z => e (inj _ _ z)
        simp [e, e']
  rw [c, c] at z
  exact z
theorem shaped_strs {ns : W} (h : ∀ x ∈ ns, nameB x = true) : SeqAt.shaped (.list (ns.map .str)) = true := by
  unfold SeqAt.shaped
  rw [PyData.canLay0, lay_strs h, PyData.depth, depth_str]
  rfl
theorem first_map {α β γ : Type} {f : β → Option γ} {g : α → β} : ∀ {l : List α}, (l.map g).findSome? f = l.findSome? fun a => f (g a)
  | [] => rfl
  | a :: l => by
    rw [List.map_cons, List.findSome?_cons, List.findSome?_cons, first_map (l := l)]
theorem first_filter {α γ : Type} {f : α → Option γ} {p : α → Bool} : ∀ {l : List α}, (l.filter p).findSome? f = l.findSome? fun a => if p a = true then f a else none
  | [] => rfl
  | a :: l => by
    rw [List.findSome?_cons, ← first_filter (l := l)]
    by_cases h : p a = true
    · rw [List.filter_cons_of_pos h, List.findSome?_cons, if_pos h]
    · rw [List.filter_cons_of_neg h, if_neg h]
theorem first_congr {α γ : Type} {f g : α → Option γ} {l : List α} (h : ∀ a ∈ l, f a = g a) : l.findSome? f = l.findSome? g := by
  induction l with
  | nil => rfl
  | cons a l ih =>
    rw [List.findSome?_cons, List.findSome?_cons, h a List.mem_cons_self, ih fun b hb => h b (List.mem_cons_of_mem _ hb)]
theorem sub_self (t : W) : sub t t = true := sub_of fun _ h => h
theorem sub_trans {a b c : W} (h : sub a b = true) (h2 : sub b c = true) : sub a c = true := sub_of fun x hx => sub_mem h2 x (sub_mem h x hx)
theorem room65 {k : Nat} {A : Around} (hr : Room k A) : A.units + 65 < cLine := by
  have := hr.un
  omega
theorem len_le {α : Type} [DecidableEq α] : ∀ {l m : List α}, l.Nodup → (∀ z ∈ l, z ∈ m) → l.length ≤ m.length
  | [], _, _, _ => Nat.zero_le _
  | x :: l, m, hn, hs => by
    obtain ⟨h1, h2⟩ := List.nodup_cons.mp hn
    have hx : x ∈ m := hs x List.mem_cons_self
    have ih := len_le (l := l) (m := m.erase x) h2 fun y hy => (List.mem_erase_of_ne (show y ≠ x from fun e => h1 (by rw [← e]; exact hy))).2 (hs y (List.mem_cons_of_mem _ hy))
    rw [List.length_erase_of_mem hx] at ih
    have := List.length_pos_of_mem hx
    rw [List.length_cons]
    omega
theorem prod_len {α β : Type} (m : List β) : ∀ l : List α, (l.flatMap fun a => m.map fun b => (a, b)).length = l.length * m.length
  | [] => by simp
  | a :: l => by
    rw [List.flatMap_cons, List.length_append, prod_len m l, List.length_map, List.length_cons, Nat.succ_mul]
    omega
theorem prod_mem {α β : Type} {l : List α} {m : List β} {a : α} {b : β} (ha : a ∈ l) (hb : b ∈ m) : (a, b) ∈ l.flatMap fun a => m.map fun b => (a, b) :=
  List.mem_flatMap.mpr ⟨a, ha, List.mem_map.mpr ⟨b, hb, rfl⟩⟩
def meet (ns ms : W) : W := ns.filter fun z => decide (z ∈ ms)
theorem isW_meet {a b : W} (h : IsW a) : IsW (meet a b) := ⟨fun x hx => h.names x (List.mem_filter.mp hx).1, h.up.sublist List.filter_sublist, Nat.le_trans (List.length_filter_le _ _) h.few⟩
theorem nodup_snoc {α : Type} {L : List α} {p : α} (n : L.Nodup) (h : p ∉ L) : (L ++ [p]).Nodup := List.nodup_append.mpr ⟨n, by simp, fun a ha b hb e => by
  rw [List.mem_singleton] at hb
  subst hb
  exact h (e ▸ ha)⟩
def Bar (p : Addr) (H H' : Hp) : Prop := ∀ b u, b ≠ p → H b = some u → H' b = some u
theorem Bar.same {p : Addr} {H H' : Hp} (h : Same H H') : Bar p H H' := fun b u _ e => h b u e
theorem Bar.trans {p : Addr} {H H1 H2 : Hp} (a : Bar p H H1) (b : Bar p H1 H2) : Bar p H H2 := fun c u n e => b c u n (a c u n e)
theorem Bar.draw {p : Addr} {H : Hp} {o : HO} : Bar p H (upd H p o) := fun b u n e => by
  rw [upd_ne n]
  exact e
theorem Bar.put {p l : Addr} {H H' : Hp} (h : Bar p H H') (n : H l = none) {o : HO} : Bar p H (upd H' l o) := fun b u nb e => by
  rw [upd_ne (ne_of_none e n)]
  exact h b u nb e
theorem Pur.mut {H : Hp} {p : Addr} {c : Int} (h : Pur H p c) : Mut (H p) := by
  obtain ⟨a, b, e, h, _⟩ := h
  rw [h]
  exact True.intro
theorem Pur.some {H : Hp} {p : Addr} {c : Int} (h : Pur H p c) {q : Addr} (n : H q = none) : q ≠ p := fun e => by
  obtain ⟨a, b, e', h, _⟩ := h
  rw [e, h] at n
  cases n
theorem Pur.same {H H' : Hp} {p : Addr} {c : Int} (h : Pur H p c) (e : Same H H') : Pur H' p c := by
  obtain ⟨a, b, e', h, g⟩ := h
  exact ⟨a, b, e', e _ _ h, g⟩
theorem Pur.put {H : Hp} {p l : Addr} {c : Int} (h : Pur H p c) (n : l ≠ p) {o : HO} : Pur (upd H l o) p c := by
  obtain ⟨a, b, e', h, g⟩ := h
  refine ⟨a, b, e', ?_, g⟩
  rw [upd_ne n.symm]
  exact h
theorem Pur.le {H : Hp} {p : Addr} {c d : Int} (h : Pur H p c) (l : c ≤ d) : Pur H p d := by
  obtain ⟨a, b, e', h, g1, g2, g3, g4, g5⟩ := h
  exact ⟨a, b, e', h, g1, g2, g3, g4, Int.le_trans g5 l⟩
theorem Bar.stay {p : Addr} {H H' : Hp} (h : Bar p H H') (m : Mut (H p)) : Stay H H' := fun b xs r => by
  have ne : b ≠ p := fun z => by
    subst z
    rcases r with r | ⟨u, r⟩
    · rw [r] at m; exact m
    · rw [r] at m; exact m
  rcases r with r | ⟨o, r⟩
  · exact .inl (h _ _ ne r)
  · exact .inr ⟨o, h _ _ ne r⟩
theorem idx_new' {α : Type} {ds : List α} (hn : ds.Nodup) {i : Nat} {d : α} (h : ds[i]? = some d) : d ∉ ds.take i := fun hm => by
  have z := take_snoc h
  have nd : (ds.take (i + 1)).Nodup := List.Nodup.sublist (List.take_sublist _ _) hn
  rw [z] at nd
  obtain ⟨_, _, h3⟩ := List.nodup_append.mp nd
  exact h3 d hm d (List.mem_singleton.mpr rfl) rfl
theorem evalArgs_kw0 {M : Model} {A : Around} {E : Value → Shared → Prop} {s : Shared} {f : Value} {kwl : List (Option Str × Sem Value)} {Q : Args → Shared → Prop} (hall : (kwl.all fun x => x.1.isSome) = true)
    (h : wpAny M A (evalAll (kwl.map fun x => x.2)) (fun ks s₂ => Q { pos := [], kw := (kwl.filterMap fun x => x.1).zip ks } s₂) E s) : wpAny M A (evalArgs f true [] kwl) Q E s := by
  unfold evalArgs
  refine wpAny_bind (Calls.spliced_nil ?_)
  refine wpAny_bind (wpAny_pure ?_)
  refine wpAny_holding ?_
  rw [if_pos hall]
  refine wpAny_bind (wpAny_mono h (fun ks s2 q => ?_) fun _ _ e => e)
  exact wpAny_bind (wpAny_pure (wpAny_pure q))
theorem pe_callK0 {X : Cx} {CX : CXT} {k : Nat} {f : Addr} {fd : FuncData} {ps ks : List Str} {sp : Sp} {E : XK} {x : Str} {p pos : Pos} {kws : List Keyword} {tk : TA} {g : List Value → List Value → List Value} {gV : List V → List V → List V}
    (F : FnOk X.prog X.w X.K X.mg X.base CX k f fd ps sp) (hr : Room k X.A) (hg : Gl X x) (hm : X.mg x = some (.ref f)) (hk : PySem.W.keepIn X.K (.ref f) = true) (hb : KBn X.K fd ps 0 ks g gV) (hx : Passes CX X E) (hkw : PK X kws tk)
    (hall : ((backToKw pos (keywordEach kws X.env)).all fun x => x.1.isSome) = true) (hks : (backToKw pos (keywordEach kws X.env)).filterMap (fun x => x.1) = ks) (hdb : (x == ("__debug__" : Str)) = false)
    (hpl : ((([] : List (Bool × Sem Value)).any fun x => x.1) || (backToKw pos (keywordEach kws X.env)).any fun x => x.1.isNone) = false) (hst : backTo pos (starEach [] X.env) = []) :
    PE X (.Call (.Name x p) [] kws pos) (fun σ H Q => tk σ H fun zs H1 => zs.length = ks.length ∧ sp (gV [] zs) H1 Q E) := by
  refine ⟨fun pins s σ H Q I h => wpAny_Call_Name_kw (ld_glob I hg hm ?_ hdb)⟩
  rw [hst]
  refine PySem.W.callWith_of hpl (PySem.W.keeps_K hk) (evalArgs_kw0 hall (thn (hkw.run pos pins s σ H (fun zs H1 => zs.length = ks.length ∧ sp (gV [] zs) H1 Q E) I h) fun ws s2 ⟨zs, H2, I2, rz, l2, q2⟩ => ⟨Inv.kIn I2, ?_⟩))
  rw [hks]
  exact run_fnN F hr hb hx I2 .nil rz rfl l2 q2
def tMid (t u : TS) : TS := fun D σ H => ∃ I : L2.St → Hp → Prop, t { nx := I, rt := D.rt, bk := D.bk, ct := D.ct } σ H ∧ ∀ σ' H', I σ' H' → u D σ' H'
/-- the first statement up to a mark of one's own, then the rest from it -/
theorem pss_mid {X : Cx} {st : Stmt} {rest : List Stmt} {t u : TS} (h1 : PS X st t) (h2 : PSs X rest u) : PSs X (st :: rest) (tMid t u) := by
  refine ⟨fun pins s σ H D I ⟨J, a, b⟩ => ?_⟩
  refine wpAny_execs_cons (thn (h1.run pins s σ H _ I a) fun f s1 q => ?_)
  cases f with
  | next =>
    obtain ⟨σ', H', I', q⟩ := q
    exact h2.run pins s1 σ' H' D I' (b σ' H' q)
  | brk => exact q
  | cont => exact q
  | ret v => exact q
/-- a def with defaults, called by names -/
theorem kbn_def {K : PySem.W.Frag} {x qual : Str} {params : Arguments} {body : List Stmt} {scope : Scope} {dvs : List V} {kws : List (Str × V)} {f : Addr} {fd : FuncData} {ps : List Str} (F : FunD K x qual params body scope dvs kws f fd) (hd : dvs ≠ []) (n : Nat) (ks : List Str) (g : List Value → List Value → List Value → List Value) (gV : List V → List V → List V)
    (h : ∀ (T : Addr) (kV doc pm : Value) (an : Option Addr) (cdv ct : Value) (us its ws : List Value), us.length = n → its.length = dvs.length → ws.length = ks.length → ∃ k, bindArgs (PySem.W.fnOf x qual params body scope (.ref T) kV doc pm an cdv ct) { pos := us, kw := ks.zip ws } = seqItems? (.ref T) >>= k ∧ k (some its.toArray) = pure (ps.zip (g us its ws)))
    (rel : ∀ {vs : List V} {us its : List Value} {zs : List V} {ws : List Value}, Vals vs us → Vals dvs its → Vals zs ws → Vals (gV vs zs) (g us its ws)) : ∃ its, Vals dvs its ∧ KBn K fd ps n ks (fun us ws => g us its ws) gV := by
  obtain ⟨oc, od, dV, kV, doc, pm, an, cdv, ct, osl, rfl, lk, hcd, hD, hK⟩ := F.ex
  rcases hD with ⟨e, _⟩ | ⟨_, T, o, its, m, rfl, lT, oT, rT⟩
  · exact absurd e hd
  · refine ⟨its, rT, ⟨fun s us ws X l1 l2 => ?_, fun a b => rel a rT b⟩⟩
    intro M A E Q q
    obtain ⟨k, e1, e2⟩ := h T kV doc pm an cdv ct us its ws l1 rT.length.symm l2
    rw [e1]
    refine wpAny_bind (wpAny_seqItems (X T o lT) oT ?_)
    rw [e2]
    exact wpAny_pure q
theorem shaped_of {d : PyData} (h : d.canLay0 = true) (n : d.depth ≤ 64) : SeqAt.shaped d = true := by
  unfold SeqAt.shaped
  rw [h, decide_eq_true n]
  rfl
theorem eqv_self {d : PyData} (h : SeqAt.shaped d = true) : PyData.eqv d d = true := by
  unfold SeqAt.shaped at h
  rw [Bool.and_eq_true] at h
  exact SeqAt.eqv_refl d h.1
theorem dpAll_drop {K : PySem.W.Frag} {H : Hp} : ∀ {xs : List V} {ds : List PyData} (n : Nat), DpAll K H xs ds → DpAll K H (xs.drop n) (ds.drop n)
  | _, _, 0, h => h
  | _, _, _ + 1, .nil => .nil
  | _, _, n + 1, .cons _ t => dpAll_drop n t
theorem dpAll_take {K : PySem.W.Frag} {H : Hp} : ∀ {xs : List V} {ds : List PyData} (n : Nat), DpAll K H xs ds → DpAll K H (xs.take n) (ds.take n)
  | _, _, 0, _ => by
    rw [List.take_zero, List.take_zero]
    exact .nil
  | _, _, _ + 1, .nil => .nil
  | _, _, n + 1, .cons h t => .cons h (dpAll_take n t)
theorem dpAll_rev {K : PySem.W.Frag} {H : Hp} : ∀ {xs : List V} {ds : List PyData}, DpAll K H xs ds → DpAll K H xs.reverse ds.reverse
  | _, _, .nil => .nil
  | _, _, .cons h t => by
    rw [List.reverse_cons, List.reverse_cons]
    exact dpAll_app (dpAll_rev t) (.cons h .nil)
theorem dpAll_erase {K : PySem.W.Frag} {H : Hp} : ∀ {xs : List V} {ds : List PyData} (n : Nat), DpAll K H xs ds → DpAll K H (xs.eraseIdx n) (ds.eraseIdx n)
  | _, _, 0, .cons _ t => t
  | _, _, _ + 1, .cons h t => .cons h (dpAll_erase _ t)
  | _, _, _, .nil => .nil
theorem map_erase {α β : Type} (f : α → β) : ∀ (l : List α) (n : Nat), (l.map f).eraseIdx n = (l.eraseIdx n).map f
  | [], _ => rfl
  | _ :: _, 0 => rfl
  | a :: l, n + 1 => congrArg (f a :: ·) (map_erase f l n)
theorem none_bar {p l : Addr} {H H' : Hp} {c : Int} (b : Bar p H H') (pu : Pur H' p c) (n : H' l = none) : H l = none := by
  have ne := pu.some n
  cases e : H l with
  | none => rfl
  | some u =>
    rw [b l u ne e] at n
    cases n
theorem vals_app : ∀ {xs ys : List V} {us ws : List Value}, Vals xs us → Vals ys ws → Vals (xs ++ ys) (us ++ ws)
  | _, _, _, _, .nil, h => h
  | _, _, _, _, .cons r t, h => .cons r (vals_app t h)
theorem fun_of {K : PySem.W.Frag} {x qual : Str} {st : Stmt} {f : Addr} {fd : FuncData} (F : FunD K x qual (defArgs st) (defBody st) (defScope st) [] [] f fd) : Fun K x qual st f fd := by
  obtain ⟨oc, od, dV, kV, doc, pm, an, cdv, ct, osl, e, lk, hcd, hD, hK⟩ := F.ex
  rcases hD with ⟨_, rfl⟩ | ⟨h, _⟩
  · exact ⟨⟨oc, od, kV, doc, pm, an, cdv, ct, osl, e, lk, hcd⟩, F.kp⟩
  · exact absurd rfl h
end Rw
namespace Rw
open PySem PySem.Spec PyProof.Rows L2
/-! ### enumerate of a tuple -/
theorem meets_enumT (l : Addr) (items : Array Value) : Meets (Builtin.«enumerate.__new__» { pos := [Value.type "enumerate", Value.ref l] }) fun _ R s =>
    s.heap.IsTuple l items ∧ R (Except.ok (Flow.ret (Value.ref (s.heap.push { cls := Value.type "tuple_iterator", data := Data.fields #[Value.ref l, Value.int 0 0] }).objs.size)))
        { heap := (s.heap.push { cls := Value.type "tuple_iterator", data := Data.fields #[Value.ref l, Value.int 0 0] }).push
              { cls := Value.type "enumerate", data := Data.fields #[Value.none, Value.bool false, Value.ref s.heap.objs.size, rawInt 0, Value.none, Value.none] },
          gens := s.gens, drawn := s.drawn, toks := s.toks, os := s.os } := by
  refine Meets.of_wp fun prog w A R s h => ?_
  obtain ⟨hl, h⟩ := h
  have hsub := sub_enumerate
  unfold Builtin.«enumerate.__new__»
  refine wpAny_bind ?_
  unfold Builtin.SmallTypes.newClass
  refine wpAny_bind (wpAny_pure (wpAny_ite_false rfl (wpAny_bind (wpAny_of_eq hsub (wpAny_ite_false rfl (wpAny_pure (wpAny_ite_true rfl (wpAny_bind ?_))))))))
  unfold Builtin.SmallTypes.calledThroughType
  refine wpAny_bind (wpAny_stack_any fun st => wpAny_pure ?_)
  have fin : wpAny (model prog w) A.in1 (do
      let it ← pyIter (.ref l)
      let r ← Builtin.SmallTypes.newRecord (.type "enumerate") (Builtin.SmallTypes.ownedTupleFields ++ [it, rawInt 0, Value.none, Value.none])
      ret r) (fun fin s' => ∃ v, fin = Fin.done (Flow.ret v) ∧ R (Except.ok (Flow.ret v)) s') (fun e s' => R (Except.error e) s') s := by
    refine wpAny_bind (wpAny_pyIter_tuple hl ?_)
    refine wpAny_bind ?_
    unfold Builtin.SmallTypes.newRecord
    refine wpAny_bind (wpAny_alloc ?_)
    refine wpAny_pure ?_
    exact wpAny_pure ⟨_, rfl, h⟩
  split
  · generalize (_ == Value.type "enumerate") = b
    cases b
    · refine wpAny_ite_false rfl (wpAny_bind (wpAny_of_eq (a := (Value.ref l, none)) rfl fin))
    · refine wpAny_ite_true rfl (wpAny_bind (wpAny_of_eq (a := (Value.ref l, none)) rfl fin))
  · refine wpAny_ite_false rfl (wpAny_bind (wpAny_of_eq (a := (Value.ref l, none)) rfl fin))
theorem call_enumT {prog : Program} {w : World} {A : Around} {E : Value → Shared → Prop} {s : Shared} {l : Addr} {items : Array Value} {Q : Value → Shared → Prop} (hT : s.heap.IsTuple l items)
    (h : ∀ h' : Heap, IsEnum h' (s.heap.objs.size + 1) s.heap.objs.size 0 Value.none → h'.IsTupleIter s.heap.objs.size l 0 → h'.objs.size = s.heap.objs.size + 2 → (∀ (b : Addr) (o : Obj), s.heap.get? b = some o → h'.get? b = some o) →
      Q (.ref (s.heap.objs.size + 1)) { heap := h', gens := s.gens, drawn := s.drawn, toks := s.toks, os := s.os }) : wpAny (model prog w) A (call (.type "enumerate") [.ref l]) Q E s := by
  refine callType_new F.called_enumerate (by decide) (F.typeCall_enumerate_1 (.ref l)) (F.newCall_enumerate_1 (.ref l)) (fun obj => F.args_object_init_2 obj (.ref l)) F.entry_enumerate_new (meets_enumT l items) ⟨hT, ?_⟩
  have hz := Heap.size_push s.heap { cls := .type "tuple_iterator", data := .fields #[.ref l, .int 0 0] }
  show _ ∧ _
  rw [hz]
  have he := Heap.get?_push_size (s.heap.push { cls := .type "tuple_iterator", data := .fields #[.ref l, .int 0 0] }) (o := { cls := .type "enumerate", data := .fields #[.none, .bool false, .ref s.heap.objs.size, rawInt 0, .none, .none] }) rfl
  rw [hz] at he
  refine ⟨⟨_, he, rfl⟩, h _ he ⟨_, Heap.get?_push_of_some _ (Heap.get?_push_size s.heap rfl), rfl, rfl⟩ ?_ fun b o e => Heap.get?_push_of_some _ (Heap.get?_push_of_some _ e)⟩
  rw [Heap.size_push, hz]
/-- enumerate of a tuple: what it gives -/
def Ietup (K : PySem.W.Frag) (a : Addr) : It where
  go := fun i H => ∃ xs x, SqT K H a xs ∧ xs[i]? = some x
  yld := fun i H v H' => ∃ T x, v = .ref T ∧ H T = none ∧ H' = upd H T (.tup [.int (i : Int), x]) ∧ ∀ xs, SqT K H a xs → xs[i]? = some x
  stop := fun i H => ∃ xs, SqT K H a xs ∧ xs.length = i
theorem tup_enum_ne {h : Heap} {a e it : Addr} {items : Array Value} {i : Int} {old : Value} (ht : h.IsTuple a items) (he : IsEnum h e it i old) : e ≠ a := fun z => by
  obtain ⟨o, h1, h2, _⟩ := ht
  rw [← z, he] at h1
  cases h1
  exact absurd (show Value.type "enumerate" = Value.type "tuple" from h2) (by decide)
theorem tup_iter_ne {h : Heap} {a it l : Addr} {items : Array Value} {i : Nat} (ht : h.IsTuple a items) (he : h.IsTupleIter it l i) : a ≠ it := fun z => by
  obtain ⟨o, h1, h2, _⟩ := ht
  obtain ⟨o', h3, h4, _⟩ := he
  rw [z, h3] at h1
  cases h1
  rw [h4] at h2
  exact absurd h2 (by decide)
theorem turn_enumT {P : Program} {w : World} {K : PySem.W.Frag} {elts : List Expr} {kk : Nat} {tpos : Pos} (a e it : Addr) : Turn P w K (.Tuple elts kk tpos) (Ietup K a) [e, it] e (fun i h => (∃ old, IsEnum h e it (i : Int) old) ∧ h.IsTupleIter it a i ∧ e ≠ it) := by
  refine ⟨by simp, fun i h st b hb => ?_, fun i h h' st k => ?_, fun X hP hw hK hc i pins s σ H E I hf st hg => ?_, fun X hP hw hK hc i pins s σ H E I hf st hg => ?_, fun A i s Q E st h => ?_⟩
  · obtain ⟨⟨old, he⟩, ⟨o, ho, hcl, hd⟩, _⟩ := st
    rcases List.mem_cons.mp hb with z | hb
    · subst z
      exact ⟨_, he, fun v q => nomatch q⟩
    · rw [List.mem_singleton.mp hb]
      refine ⟨o, ho, fun v q => ?_⟩
      rw [hd] at q
      cases q
  · obtain ⟨⟨old, he⟩, hi, hne⟩ := st
    exact ⟨⟨old, k e (by simp) _ he⟩, hi.at fun o q => k it (by simp) o q, hne⟩
  · subst hP hw hK
    obtain ⟨⟨old, he⟩, hit, hne⟩ := st
    obtain ⟨xs, x, hq, hx⟩ := hg
    obtain ⟨its, rv, p, hz⟩ := I.tuple hq
    have ht : s.heap.IsTuple a its.toArray := p
    have ea := tup_enum_ne ht he
    have ai := tup_iter_ne ht hit
    have hl := rv.length
    have hin : i < its.toArray.size := by
      rw [List.size_toArray, ← hl]
      exact (List.getElem?_eq_some_iff.mp hx).1
    refine wpAny_pyNext_enum_itemD (Draws.tuple (A := X.A.in1) (I.ok.hd hc) it a ai its.toArray) he ⟨hit, ht⟩ hin hne (by simp [hne, ea]) fun u h' tk hu ho st' hT hsz hk => ⟨.ref s.heap.objs.size, rfl, ?_⟩
    refine wpAny_letOwnedTupleGo_enum ho fun h'' he' sb => ?_
    have hel : e < s.heap.objs.size := Heap.lt_size he
    have hil : it < s.heap.objs.size := by
      obtain ⟨o, ho, _⟩ := hit
      exact Heap.lt_size ho
    have hT2 : h''.get? s.heap.objs.size = _ := (sb.2 s.heap.objs.size (Nat.ne_of_gt hel)).trans hT
    have hu' : its[i]? = some u := by simpa using hu
    obtain ⟨x', hx', ru⟩ := vals_at rv hu'
    have exx : x' = x := Option.some.inj (hx'.symm.trans hx)
    subst exx
    have new : ObjOk X.prog X.w (upd H s.heap.objs.size (.tup [.int (i : Int), x'])) h'' s.heap.objs.size (.tup [.int (i : Int), x']) :=
      ⟨by show 2 ≤ sizeLine; decide, [.int (i : Int) tk, u], .cons ⟨tk, rfl⟩ (.cons ru .nil), ⟨_, hT2, rfl, 0, rfl⟩⟩
    have kept : ∀ (b : Addr) (o : Obj), b ∉ [e, it] → s.heap.get? b = some o → h''.get? b = some o := fun b o hb q => by
      have n1 : b ≠ e := fun z => hb (by simp [z])
      have n2 : b ≠ it := fun z => hb (by simp [z])
      exact (sb.2 b n1).trans (hk b o n1 n2 q)
    have I1 := I.turnedNew (t' := tk + 1) kept hf (Nat.le_refl _) new
    refine ⟨.ref s.heap.objs.size, _, I1, rfl, ⟨s.heap.objs.size, x', rfl, I.hok.fresh (Nat.le_refl _), rfl, fun ys hy => ?_⟩, ⟨⟨u, ?_⟩, st'.1.at fun o q => (sb.2 it hne.symm).trans q, hne⟩, fun b hb => ?_⟩
    · obtain ⟨its2, rv2, p2, _⟩ := I.tuple hy
      have ht2 : s.heap.IsTuple a its2.toArray := p2
      have ei : its2.toArray = its.toArray := by
        obtain ⟨o, a1, a2, n, a3⟩ := ht
        obtain ⟨o', b1, b2, n', b3⟩ := ht2
        rw [a1] at b1
        cases b1
        rw [a3] at b3
        cases b3
        rfl
      have ei' : its2 = its := by
        have := congrArg Array.toList ei
        simpa using this
      subst ei'
      obtain ⟨y, hy1, ry⟩ := vals_at rv2 hu'
      rw [RelV.inj ru ry]
      exact hy1
    · have e1 : ((i : Int) + 1) = ((i + 1 : Nat) : Int) := rfl
      rw [← e1]
      exact he'
    · have hb' : b < s.heap.objs.size := by
        rcases List.mem_cons.mp hb with z | hb
        · rw [z]
          exact hel
        · rw [List.mem_singleton.mp hb]
          exact hil
      rw [upd_ne (Nat.ne_of_lt hb')]
      exact (hf b hb).1
  · subst hP hw hK
    obtain ⟨⟨old, he⟩, hit, hne⟩ := st
    obtain ⟨xs, hq, hx⟩ := hg
    obtain ⟨its, rv, p, hz⟩ := I.tuple hq
    have ht : s.heap.IsTuple a its.toArray := p
    have ai := tup_iter_ne ht hit
    obtain ⟨f0, f1, f2, f3, f4, f5⟩ := hf it (by simp)
    have sz : its.toArray.size = i := by rw [List.size_toArray, ← rv.length, hx]
    refine wpAny_pyNext_enum_endD (Draws.tuple (A := X.A.in1) (I.ok.hd hc) it a ai its.toArray) he ⟨by rw [sz]; exact hit, ht⟩ fun h' eb => ⟨rfl, I.turned (fun b o hb q => eb b o hb q) f0 f1 f3 f4 f5⟩
  · obtain ⟨⟨_, he⟩, _⟩ := st
    exact wpAny_pyIter_enum he h
def iEnumT (K : PySem.W.Frag) (ta : TA) : TI := fun σ H R => ta σ H fun vs H1 => ∃ a xs, vs = [.ref a] ∧ SqT K H1 a xs ∧ R (Ietup K a) H1
theorem pi_enumT {X : Cx} {e : Expr} {ta : TA} {p pos tpos : Pos} {elts : List Expr} {kk : Nat} (hg : Gl X "enumerate") (hm : X.mg "enumerate" = none) (ha : PA X [e] ta) (hs : starEach [e] X.env = [(false, eval e X.env)] := by rfl) : PI X (.Tuple elts kk tpos) (.Call (.Name "enumerate" p) [e] [] pos) (iEnumT X.K ta) := by
  refine ⟨fun pins s σ H R I h => Call_ (ld_blt I hg hm boot_enumerate (PyProof.Rows.callWith_type1 (thn (ha.run pos pins s σ H _ I h) fun us s1 ⟨vs, H1, I1, r1, a, xs, ex, hq, q⟩ => ?_) hs rfl) (by decide) (by decide)) rfl⟩
  subst ex
  rw [Vals.ref1 r1]
  obtain ⟨its, rv, p', hz⟩ := I1.tuple hq
  refine call_enumT p' fun h' he hit hsz hk => ?_
  refine wpAny_pyIter_enum he ?_
  have I2 := I1.kept (t' := s1.toks) hk
  refine ⟨s1.heap.objs.size + 1, [s1.heap.objs.size + 1, s1.heap.objs.size], _, Ietup X.K a, H1, rfl, I2, turn_enumT a (s1.heap.objs.size + 1) s1.heap.objs.size, ⟨⟨_, he⟩, hit, Nat.succ_ne_self _⟩, fun b hb => ?_, q⟩
  rcases List.mem_cons.mp hb with z | hb
  · subst z
    exact I1.fpOk (Nat.le_succ _) (I1.hok.fresh (Nat.le_succ _))
  · rw [List.mem_singleton.mp hb]
    exact I1.fpOk (Nat.le_refl _) (I1.hok.fresh (Nat.le_refl _))
end Rw
namespace Rw
open PySem PySem.Spec PyProof.Rows L2
/-! ### walks over enumerate(tuple); instances made of starred arguments -/
theorem for_enumT {K : PySem.W.Frag} {a : Addr} {xs : List V} {g : TG} {tb : TS} {D : Ends} {σ : L2.St} {H : Hp} (Pv : Nat → L2.St → Hp → Prop) (h0 : Pv 0 σ H) (hl : ∀ i σ H, i ≤ xs.length → Pv i σ H → SqT K H a xs)
    (hs : ∀ i x σ H T, xs[i]? = some x → Pv i σ H → H T = none → g (.ref T) σ (upd H T (.tup [.int (i : Int), x])) fun σ2 H2 => tb { nx := Pv (i + 1), rt := D.rt, bk := D.nx, ct := Pv (i + 1) } σ2 H2) (hd : ∀ σ H, Pv xs.length σ H → D.nx σ H) :
    ∃ W : Nat → Nat → L2.St → Hp → Prop, (∃ m, W 0 m σ H) ∧ ∀ i m σ H, W i m σ H → ((Ietup K a).stop i H ∧ D.nx σ H) ∨ ((Ietup K a).go i H ∧ ∃ N : L2.St → Hp → Prop, (∀ σ' H', N σ' H' → ∃ m', m' < m ∧ W (i + 1) m' σ' H') ∧
      ∀ x H', (Ietup K a).yld i H x H' → g x σ H' fun σ2 H2 => tb { nx := N, rt := D.rt, bk := D.nx, ct := N } σ2 H2) := by
  refine ⟨fun i m σ H => m = xs.length - i ∧ i ≤ xs.length ∧ Pv i σ H, ⟨xs.length, by simp, Nat.zero_le _, h0⟩, ?_⟩
  rintro i m σ H ⟨rfl, hi, p⟩
  have hS := hl i σ H hi p
  by_cases hlt : i < xs.length
  · refine .inr ⟨⟨xs, xs[i], hS, List.getElem?_eq_getElem hlt⟩, Pv (i + 1), fun σ' H' p' => ⟨xs.length - (i + 1), by omega, rfl, hlt, p'⟩, fun y H' yy => ?_⟩
    obtain ⟨T, x, rfl, hT, rfl, hx⟩ := yy
    exact hs i x σ H T (hx xs hS) p hT
  · have e : i = xs.length := by omega
    subst e
    exact .inl ⟨⟨xs, hS, rfl⟩, hd σ H p⟩
def tMakeS (K : PySem.W.Frag) (C : Addr) (sp : Sp) (E : XK) (te : TE) : TE := fun σ H Q => te σ H fun y H1 => ∃ a xs, y = V.ref a ∧ (SqT K H1 a xs ∨ SqL K H1 a xs) ∧ ∀ x dx, H1 x = none → H1 dx = none → dx ≠ x → sp (V.ref x :: xs) (upd (upd H1 dx (.own x)) x (.ins C dx [])) (fun v H2 => v = .non ∧ Q (.ref x) H2) E
/-- C(*e), C a class of the module -/
theorem pe_makeS {X : Cx} {CX : CXT} {k : Nat} {f C : Addr} {sp : Sp} {E : XK} {x : Str} {e : Expr} {te : TE} {p sp_ pos : Pos} (M : Mk X.K C f) (F : FnR X.prog X.w X.K X.mg X.base CX k f sp) (hr : Room (k + 1) X.A) (hg : Gl X x) (hm : X.mg x = some (.ref C)) (hx : Passes CX X E) (he : PE X e te)
    (hd : (x == ("__debug__" : Str)) = false := by rfl) (hst : starEach [e.Starred sp_] X.env = [(true, eval e X.env)] := by rfl) : PE X (.Call (.Name x p) [.Starred e sp_] [] pos) (tMakeS X.K C sp E te) :=
  ⟨fun pins s σ H Q I h => wpAny_Call_Name_kw (ld_glob I hg hm (PySem.W.callWith_S I.ok.mod.kin M.kp (thn (he.run pins s σ H _ I h) fun v s1 ⟨y, H1, I1, ry, a, xs, ey, hxs, q⟩ => by
    subst ey
    obtain rfl : v = Value.ref a := ry
    exact StX.star_any I1 hxs fun us s2 I2 rv => ⟨Inv.kIn I2, StX.run_makeR M F hr hx I2 rv q⟩) hst) hd)⟩
/-- cls(*e), cls a local name that holds the class -/
theorem pe_makeSL {X : Cx} {CX : CXT} {k i : Nat} {f C : Addr} {sp : Sp} {E : XK} {x : Str} {e : Expr} {te : TE} {p sp_ pos : Pos} (M : Mk X.K C f) (F : FnR X.prog X.w X.K X.mg X.base CX k f sp) (hr : Room (k + 1) X.A) (hN : X.N[i]? = some x) (hv : Vis X.env.scope x) (hx : Passes CX X E) (he : PE X e te)
    (hd : (x == ("__debug__" : Str)) = false := by rfl) (hcd : (x == ("__classdict__" : Str)) = false := by rfl) (hst : starEach [e.Starred sp_] X.env = [(true, eval e X.env)] := by rfl) :
    PE X (.Call (.Name x p) [.Starred e sp_] [] pos) (fun σ H Q => σ[i]? = some (some (.ref C)) ∧ tMakeS X.K C sp E te σ H Q) := by
  refine ⟨fun pins s σ H Q I ⟨hs, h⟩ => wpAny_Call_Name_kw (thn ((pe_var hN hv hd hcd).run pins s σ H (fun v H1 => v = V.ref C ∧ H1 = H) I ⟨.ref C, hs, rfl, rfl⟩) fun u s1 ⟨v, H0, I1, r1, ev, eH⟩ => ?_)⟩
  subst ev eH
  obtain rfl : u = Value.ref C := r1
  exact PySem.W.callWith_S I1.ok.mod.kin M.kp (thn (he.run pins s1 σ _ _ I1 h) fun v s1 ⟨y, H1, I1, ry, a, xs, ey, hxs, q⟩ => by
    subst ey
    obtain rfl : v = Value.ref a := ry
    exact StX.star_any I1 hxs fun us s2 I2 rv => ⟨Inv.kIn I2, StX.run_makeR M F hr hx I2 rv q⟩) hst
theorem fnr_of {P : Program} {w : World} {K : PySem.W.Frag} {mg : Str → Option Value} {base : Heap} {CX : CXT} {k : Nat} {f : Addr} {fd : FuncData} {ps : List Str} {sp : Sp} (F : FnOk P w K mg base CX k f fd ps sp) (b : Binds K fd ps []) : FnR P w K mg base CX k f sp := fun A outer s H us vs Q E hr e0 r h => by
  have hl := F.len vs H Q E h
  have ul : us.length = ps.length := by rw [← r.length, hl]
  have z := b s us (PySem.W.Frag.In.keeps e0.mod.kin fun b o e => (e0.bs b o e).1) (by rw [List.append_nil]; exact ul)
  rw [List.append_nil] at z
  exact F.run A outer s H _ us vs Q E hr e0 z r h
end Rw
namespace Rw
open PySem PySem.Spec PyProof.Rows L2
/-! ### rules: heads, denied, needs, bars -/
abbrev Rl := W × W × W × W
def parts (r : Rl) : List W := [r.1, r.2.1, r.2.2.1, r.2.2.2]
def rd (r : Rl) : PyData := .tuple ((parts r).map wd)
structure IsR (r : Rl) : Prop where
  h : IsW r.1
  d : IsW r.2.1
  n : IsW r.2.2.1
  b : IsW r.2.2.2
theorem IsR.all {r : Rl} (h : IsR r) : ∀ t ∈ parts r, IsW t := fun t ht => by
  unfold parts at ht
  simp only [List.mem_cons, List.mem_nil_iff, or_false] at ht
  rcases ht with e | e | e | e <;> subst e
  · exact h.h
  · exact h.d
  · exact h.n
  · exact h.b
theorem wds_inj : ∀ {a b : List W}, a.map wd = b.map wd → a = b
  | [], [], _ => rfl
  | [], _ :: _, h => by simp at h
  | _ :: _, [], h => by simp at h
  | x :: a, y :: b, h => by
    simp only [List.map_cons, List.cons.injEq] at h
    rw [wd_inj h.1, wds_inj h.2]
theorem rd_inj {p q : Rl} (h : rd p = rd q) : p = q := by
  unfold rd at h
  injection h with h
  have z := wds_inj h
  unfold parts at z
  simp only [List.cons.injEq, and_true] at z
  obtain ⟨h1, h2, h3, h4⟩ := z
  exact Prod.ext h1 (Prod.ext h2 (Prod.ext h3 h4))
theorem ok_rd (r : Rl) : okD (rd r) = true := by
  unfold rd
  rw [okD]
  exact okDs_wd _
theorem depthAll_wd : ∀ L : List W, PyData.depthAll (L.map wd) ≤ 1
  | [] => by simp [PyData.depthAll]
  | x :: L => by
    have := depthAll_wd L
    rw [List.map_cons, PyData.depthAll, depth_wd]
    omega
theorem depth_rd (r : Rl) : (rd r).depth ≤ 2 := by
  have := depthAll_wd (parts r)
  unfold rd
  rw [PyData.depth]
  omega
theorem good_rd (r : Rl) : Good (rd r) := ⟨ok_rd r, Nat.le_trans (depth_rd r) (by decide), ⟨_, rfl⟩⟩
theorem lay_wds : ∀ {L : List W}, (∀ t ∈ L, IsW t) → PyData.canLayAll0 (L.map wd) = true
  | [], _ => by simp [PyData.canLayAll0]
  | t :: L, h => by
    rw [List.map_cons, PyData.canLayAll0, lay_wds fun y hy => h y (List.mem_cons_of_mem _ hy), lay_wd (h t List.mem_cons_self).names]
    rfl
theorem lay_rd {r : Rl} (h : IsR r) : (rd r).canLay0 = true := by
  unfold rd
  rw [PyData.canLay0]
  exact lay_wds h.all
theorem shaped_rd {r : Rl} (h : IsR r) : SeqAt.shaped (rd r) = true := shaped_of (lay_rd h) (Nat.le_trans (depth_rd r) (by decide))
theorem alike_wds : ∀ a b : List W, PySem.W.alikeAll (a.map wd) (b.map wd) = true
  | [], _ => by simp [PySem.W.alikeAll]
  | _ :: _, [] => by simp [PySem.W.alikeAll]
  | x :: a, y :: b => by
    rw [List.map_cons, List.map_cons, PySem.W.alikeAll, alike_wds a b, alike_wd]
    rfl
theorem alike_rd (p q : Rl) : PySem.W.alike (rd p) (rd q) = true := by
  unfold rd
  rw [PySem.W.alike]
  exact alike_wds _ _
theorem eqv_wds : ∀ a b : List W, PyData.eqvAll (a.map wd) (b.map wd) = decide (a = b)
  | [], [] => by simp [PyData.eqvAll]
  | [], _ :: _ => by simp [PyData.eqvAll]
  | _ :: _, [] => by simp [PyData.eqvAll]
  | x :: a, y :: b => by
    rw [List.map_cons, List.map_cons, PyData.eqvAll, eqv_wds a b, eqv_wd]
    by_cases h : x = y
    · subst h
      by_cases h2 : a = b <;> simp [h2]
    · simp [h]
theorem eqv_rd (p q : Rl) : PyData.eqv (rd p) (rd q) = decide (p = q) := by
  have e : (p = q) ↔ (parts p = parts q) := ⟨fun h => by rw [h], fun h => rd_inj (by unfold rd; rw [h])⟩
  unfold rd
  rw [PyData.eqv, eqv_wds]
  by_cases h : parts p = parts q
  · rw [decide_eq_true h, decide_eq_true (e.mpr h)]
  · rw [decide_eq_false h, decide_eq_false fun z => h (e.mp z)]
theorem rules_one {R R' : List Rl} (r1 : Rising (R.map rd)) (r2 : Rising (R'.map rd)) (n1 : R.Nodup) (n2 : R'.Nodup) (h : ∀ p, p ∈ R ↔ p ∈ R') : R = R' :=
  rising_one alike_rd (fun p q e => by rw [eqv_rd] at e; exact of_decide_eq_true e) r1 r2 n1 n2 h
theorem okDs_rd (R : List Rl) : okDs (R.map rd) = true := okDs_all fun d hd => by
  obtain ⟨p, _, rfl⟩ := List.mem_map.mp hd
  exact ok_rd p
theorem all_rd : ∀ {ds : List PyData}, (∀ d ∈ ds, ∃ p, d = rd p) → ∃ R : List Rl, ds = R.map rd
  | [], _ => ⟨[], rfl⟩
  | d :: ds, h => by
    obtain ⟨p, rfl⟩ := h d List.mem_cons_self
    obtain ⟨R, rfl⟩ := all_rd fun e he => h e (List.mem_cons_of_mem _ he)
    exact ⟨p :: R, rfl⟩
theorem rd_mem {R : List Rl} {p : Rl} : rd p ∈ R.map rd ↔ p ∈ R :=
  ⟨fun h => by obtain ⟨q, hq, e⟩ := List.mem_map.mp h; rw [← rd_inj e]; exact hq, fun h => List.mem_map.mpr ⟨p, h, rfl⟩⟩
theorem Stay.rd {K : PySem.W.Frag} {H H' : Hp} {x : V} {r : Rl} (e : Stay H H') (h : Dp K H x (Rw.rd r)) : Dp K H' x (Rw.rd r) := e.dp _ _ (ok_rd r) h
theorem of_rd {K : PySem.W.Frag} {H : Hp} {x : V} {r : Rl} (h : Dp K H x (rd r)) : ∃ a v1 v2 v3 v4, x = .ref a ∧ SqT K H a [v1, v2, v3, v4] ∧ Dp K H v1 (wd r.1) ∧ Dp K H v2 (wd r.2.1) ∧ Dp K H v3 (wd r.2.2.1) ∧ Dp K H v4 (wd r.2.2.2) := by
  unfold rd parts at h
  cases h with
  | tup h1 h2 =>
    cases h2 with
    | cons a1 t =>
      cases t with
      | cons a2 t =>
        cases t with
        | cons a3 t =>
          cases t with
          | cons a4 t =>
            cases t
            exact ⟨_, _, _, _, _, rfl, h1, a1, a2, a3, a4⟩
theorem to_rd {K : PySem.W.Frag} {H : Hp} {a : Addr} {v1 v2 v3 v4 : V} {r : Rl} (h : SqT K H a [v1, v2, v3, v4]) (h1 : Dp K H v1 (wd r.1)) (h2 : Dp K H v2 (wd r.2.1)) (h3 : Dp K H v3 (wd r.2.2.1)) (h4 : Dp K H v4 (wd r.2.2.2)) : Dp K H (.ref a) (rd r) :=
  .tup h (.cons h1 (.cons h2 (.cons h3 (.cons h4 .nil))))
/-- a sorted list without repetition -/
structure Srt (S L : List Rl) : Prop where
  nd : S.Nodup
  ris : Rising (S.map rd)
  mem : ∀ p, p ∈ S ↔ p ∈ L
theorem Srt.one {S S' L L' : List Rl} (a : Srt S L) (b : Srt S' L') (h : ∀ p, p ∈ L ↔ p ∈ L') : S = S' := rules_one a.ris b.ris a.nd b.nd fun p => (a.mem p).trans ((h p).trans (b.mem p).symm)
/-! ### sorted(set(xs)) of rules -/
section
variable {X : Cx}
/-- set(xs), xs a list or a tuple of rules -/
def rSetR (K : PySem.W.Frag) (w : World) : List V → Hp → VK → Prop := fun vs H Q => ∃ (l : Addr) (xs : List V) (L : List Rl), vs = [.ref l] ∧ (SqL K H l xs ∨ SqT K H l xs) ∧ DpAll K H xs (L.map rd) ∧ L.length < 76 ∧
  ∀ a M, H a = none → (∀ p ∈ M, Good p.2 ∧ Dp K H (.ref p.1) p.2) → (∀ p ∈ M, ∃ r ∈ L, p.2 = rd r) → (∀ r ∈ L, rd r ∈ M.map (·.2)) → Q (.ref a) (upd H a (TSetO w a M))
theorem cr_setR (hc : X.calm = true) (hu : X.A.units + 64 < cLine) : CallR X (.type "set") (rSetR X.K X.w) := fun pins s σ H vs us Q I r ⟨l, xs, L, e, hl, hd, few, q⟩ =>
  cr_setT hc hu pins s σ H vs us Q I r ⟨l, xs, L.map rd, e, hl, hd, (fun d hd => by obtain ⟨p, _, rfl⟩ := List.mem_map.mp hd; exact good_rd p), by rw [List.length_map]; exact few, fun a M ha hM hall => by
    have isP : ∀ e ∈ M, ∃ p ∈ L, e.2 = rd p := fun e he => by
      obtain ⟨p, hp, ep⟩ := List.mem_map.mp (hM e he).1
      exact ⟨p, hp, ep.symm⟩
    refine q a M ha (fun e he => ?_) isP fun r hr => hall _ (List.mem_map.mpr ⟨r, hr, rfl⟩)
    obtain ⟨p, _, ep⟩ := isP e he
    exact ⟨by rw [ep]; exact good_rd p, (hM e he).2⟩⟩
/-- sorted(a set of rules) -/
def rSortR (K : PySem.W.Frag) (w : World) : List V → Hp → VK → Prop := fun vs H Q => ∃ (a : Addr) (M : List (Addr × PyData)) (L : List Rl), vs = [.ref a] ∧ H a = some (TSetO w a M) ∧ (∀ p ∈ M, Good p.2 ∧ Dp K H (.ref p.1) p.2) ∧ (∀ p ∈ M, ∃ r ∈ L, p.2 = rd r) ∧ (∀ r ∈ L, rd r ∈ M.map (·.2)) ∧
  ∀ (ys : List V) (S : List Rl) (p : Addr), Srt S L → S.length < 76 → DpAll K H ys (S.map rd) → H p = none → Q (.ref p) (upd H p (.lst ys))
theorem cr_sortR (hc : X.calm = true) (hu : X.A.units + 64 < cLine) : CallR X (.builtin "sorted") (rSortR X.K X.w) := fun pins s σ H vs us Q I r ⟨a, M, L, e, ha, hM, isP, hall, q⟩ =>
  cr_sortT hc hu pins s σ H vs us Q I r ⟨a, M, e, ha, hM, (fun d hd d' hd' => by
    obtain ⟨e, he, rfl⟩ := List.mem_map.mp hd
    obtain ⟨e', he', rfl⟩ := List.mem_map.mp hd'
    obtain ⟨p, _, ep⟩ := isP e he
    obtain ⟨p', _, ep'⟩ := isP e' he'
    rw [ep, ep']
    exact alike_rd p p'), fun ys ds p perm nd lt ris hys hp' => by
    obtain ⟨S, rfl⟩ := all_rd (ds := ds) fun d hd => by
      obtain ⟨e, he, rfl⟩ := List.mem_map.mp (perm.mem_iff.mp hd)
      obtain ⟨p, _, ep⟩ := isP e he
      exact ⟨p, ep⟩
    rw [List.length_map] at lt
    refine q ys S p ⟨nodup_of_map nd, ris, fun p => ?_⟩ lt hys hp'
    rw [← rd_mem, perm.mem_iff]
    constructor
    · intro hm
      obtain ⟨e, he, ee⟩ := List.mem_map.mp hm
      obtain ⟨p', hp', ep⟩ := isP e he
      rw [← rd_inj (ep.symm.trans ee)]
      exact hp'
    · intro hm
      exact hall _ hm⟩
end
end Rw
namespace Rw
open PySem PySem.Spec PyProof.Rows L2
/-! ### == and != of instances by their class's own __eq__ -/
section
variable {X : Cx}
def rEqP (C : Addr) (sp : Sp) (E : XK) : R2 := fun x y H Q => ∃ a dx fs b dy gs, x = .ref a ∧ y = .ref b ∧ H a = some (.ins C dx fs) ∧ H b = some (.ins C dy gs) ∧ sp [x, y] H Q E
theorem op_eqP {CX : CXT} {C g : Addr} {n : Nat} {sp : Sp} {E : XK} (hs : PySem.W.findIn X.K (.ref C) "__eq__" = some (some (.ref g))) (hf : PySem.W.isFn X.K (.ref g) = true) (F : FnR X.prog X.w X.K X.mg X.base CX n g sp) (hr : Room n X.A) (hx : Passes CX X E) : OpR X (compareOp .Eq) (rEqP C sp E) := by
  intro pins s σ H x y v u Q I rx ry h
  obtain ⟨a, dx, fs, b, dy, gs, rfl, rfl, ha, hb, q⟩ := h
  obtain rfl : v = Value.ref a := rx
  obtain rfl : u = Value.ref b := ry
  obtain ⟨mA, J, _⟩ := ins_get I.hok ha
  obtain ⟨mB, J', _⟩ := ins_get I.hok hb
  obtain ⟨od, J, _⟩ := J.look
  obtain ⟨od', J', _⟩ := J'.look
  obtain ⟨m, hF⟩ := I.fr
  show wpAny _ _ (richCompare .Eq (.ref a) (.ref b)) _ _ _
  refine PySem.W.cmp_K hr.units0 hF I.ok.mod.kin J J'.type (by simp [PySem.W.notFirst]) hs hf ?_
  refine wpAny_mono (wpAny_call (run_fnR F hr hx I (vs := [.ref a, .ref b]) (.cons rfl (.cons rfl .nil)) q)) (fun r s' h => ?_) fun e s' h => h
  obtain ⟨z, H', I', r, q⟩ := h
  exact SlX.cmpback r ⟨z, H', I', r, q⟩
/-- what the class is, for != -/
structure NeC (K : PySem.W.Frag) (C g : Addr) : Prop where
  cls : ∃ nm q N bs hd sn sub ab col dd k0 k1 k2 k3 k5 nid oN es ep, K.lookup C = some (excClassObj nm q C N bs [.type "object"] hd sn sub ab col dd k0 k1 k2 k3 k5 nid) ∧ K.lookup N = some oN ∧ oN.data = .dict es ep ∧ StrKeys es ∧ nsFind es "__eq__" = some (.ref g) ∧ nsFind es "__ne__" = none
  fn : ∃ og, K.lookup g = some og ∧ og.cls = .type "function"
def rNeP (C : Addr) (sp : Sp) (E : XK) : R2 := fun x y H Q => ∃ a dx fs b dy gs, x = .ref a ∧ y = .ref b ∧ H a = some (.ins C dx fs) ∧ H b = some (.ins C dy gs) ∧ sp [x, y] H (fun v H' => ∃ t, v = .bl t ∧ Q (.bl (!t)) H') E
theorem op_neP {CX : CXT} {C g : Addr} {n : Nat} {sp : Sp} {E : XK} (N : NeC X.K C g) (F : FnR X.prog X.w X.K X.mg X.base CX n g sp) (hr : Room (n + 1) X.A) (hx : Passes CX X E) : OpR X (compareOp .NotEq) (rNeP C sp E) := by
  intro pins s σ H x y v u Q I rx ry h
  obtain ⟨a, dx, fs, b, dy, gs, rfl, rfl, ha, hb, q⟩ := h
  obtain rfl : v = Value.ref a := rx
  obtain rfl : u = Value.ref b := ry
  obtain ⟨mA, J, _⟩ := ins_get I.hok ha
  obtain ⟨mB, J', _⟩ := ins_get I.hok hb
  obtain ⟨od, J, _⟩ := J.look
  obtain ⟨od', J', _⟩ := J'.look
  obtain ⟨nm, q1, NN, bs, hd, sn, sub, ab, col, dd, k0, k1, k2, k3, k5, nid, oN, es, ep, c1, c2, c3, c4, c5, c6⟩ := N.cls
  obtain ⟨og, g1, g2⟩ := N.fn
  have kin := I.kIn
  have own : s.heap.OwnEqNoNe a C g "object" [.type "object"] := ⟨_, og, nm, q1, NN, bs, hd, sn, sub, ab, col, dd, k0, k1, k2, k3, k5, nid, _, _, J.at_, J.cls, kin _ _ c1, ⟨oN, es, ep, kin _ _ c2, c3, c4, fun _ => rfl⟩, c5, kin _ _ g1, g2, PySem.F.cmp_object.mro, PySem.F.cmp_object.eq.lookup, c6⟩
  have un := hr.un
  refine compareOp_ne_ownEq PySem.F.cmp_object own J'.at_ J'.cls (by omega) ?_
  have e0 := I.env0
  have e1 : Env0 X.prog X.w X.K X.mg X.base X.A.in1 X.stack s H := ⟨e0.frames, e0.mod, e0.bs, e0.bsz, e0.funs, e0.frf, e0.hok, e0.bare⟩
  refine wpAny_call (codeAny_mono (F X.A.in1 X.stack s H [.ref a, .ref b] [.ref a, .ref b] _ E hr.in1 e1 (.cons rfl (.cons rfl .nil)) q) fun r s' h => ?_)
  cases r with
  | error e => exact hx pins σ H s e s' I h
  | ok f =>
    cases f with
    | ret v =>
      obtain ⟨z, H', I', r, t, rfl, q⟩ := I.after h
      obtain rfl : v = Value.bool t := r
      exact ⟨t, rfl, .bl (!t), H', I', rfl, q⟩
    | _ => exact h.elim
end
end Rw
namespace Rw
open PySem PySem.Spec PyProof.Rows L2
/-! ### an error that was caught and kept -/
/-- an error of the class cls at a, whose own dict is d -/
def ExH (cls : Value) (d : Option Addr) (a : Addr) : HO := .ext fun h => ∃ oe vs, h.get? a = some oe ∧ Zc cls d oe ∧ oe.data = .fields vs
def wKeep (K : PySem.W.Frag) (c : Value) (i j : Nat) (D : Ends) : WX := fun cls d σ H => PySem.W.exmOne K cls c = some true ∧ ∀ a, H a = none → D.nx (((σ.set i (some (.ref a))).set j (some (.ref a))).set i none) (upd H a (ExH cls d a))
/-- an error's object is tracked from now on -/
theorem keep_inv {X : Cx} {pins : List (Addr × Obj)} {σ : L2.St} {H : Hp} {s : Shared} {a : Addr} {oe : Obj} {cls : Value} {d : Option Addr} {vs : Array Value} (I : Inv X pins σ H s) (he : s.heap.get? a = some oe) (hz : Zc cls d oe) (hd : oe.data = .fields vs) (hH : H a = none) (nL : a ≠ X.env.locals)
    (h0 : X.s_0.heap.get? a = none) (hp : ∀ p ∈ X.pn ++ pins, p.1 ≠ a) : Inv X pins σ (upd H a (ExH cls d a)) s := by
  have cell : ∀ x c, X.env.cells.lookup x = some c → c ≠ a := fun x c e z => by
    obtain ⟨v, o, h1, h2⟩ := I.cell x c e
    rw [z, he] at h1
    cases h1
    rw [hd] at h2
    cases h2
  refine ⟨I.ok, I.os, I.bare, ?_, I.loc, I.cell, ?_, fun x c e => ?_, fun p hpm => ?_, fun b o hb => ?_, I.len⟩
  · have u := I.base
    refine ⟨u.keep, u.slot, fun b o e1 e2 e3 => ?_, u.there, fun b xs e => ?_, fun b o w' e => ?_, fun b ps e => ?_⟩
    · have nb : b ≠ a := fun z => by
        rw [z, h0] at e1
        cases e1
      rw [upd_ne nb]
      exact u.free b o e1 e2 e3
    · have z := u.tups b xs e
      rw [upd_ne (ne_of_none z hH)]
      exact z
    · have z := u.frzs b o w' e
      rw [upd_ne (ne_of_none z hH)]
      exact z
    · obtain ⟨more, z⟩ := u.tbls b ps e
      refine ⟨more, ?_⟩
      rw [upd_ne (ne_of_none z hH)]
      exact z
  · rw [upd_ne nL.symm]
    exact I.free
  · rw [upd_ne (cell x c e)]
    exact I.freeC x c e
  · obtain ⟨p1, p2, p3⟩ := I.pin p hpm
    refine ⟨p1, ?_, p3⟩
    rw [upd_ne (hp p hpm)]
    exact p2
  · have new : ObjOk X.prog X.w (upd H a (ExH cls d a)) s.heap a (ExH cls d a) := ⟨⟨oe, vs, he, hz, hd⟩, ⟨oe, he⟩, fun h1 h2 ⟨oe', vs', e1, e2⟩ kk => ⟨oe', vs', kk oe' e1, e2⟩⟩
    by_cases e : b = a
    · subst e
      rw [upd_same] at hb
      cases hb
      exact new
    · rw [upd_ne e] at hb
      have same : ∀ (b' : Addr) (u : HO), H b' = some u → (upd H a (ExH cls d a)) b' = some u := fun b' u h => by
        rw [upd_ne (ne_of_none h hH)]
        exact h
      exact (I.hok b o hb).stay (fun _ _ _ e => e) (fun b' h => same b' _ h) fun b' xs h => same b' _ h
/-- try: body except x as n: y = n (every error of the body is an x) -/
theorem ps_try_keep {X : Cx} {x n y : Str} {c : Value} {i j : Nat} {body : List Stmt} {np pos pos' p1 p2 p3 : Pos} {tb : WX → TS} (hs : X.stack = X.env :: X.outer) (hf : X.env.frame = some X.env.locals) (hN : X.N.Nodup) (hi : X.N[i]? = some n) (hln : X.env.kindOf n = some .local) (hc : Names X x c)
    (hj : X.N[j]? = some y) (hyl : X.env.scope.names.lookup y = some .local) (hnl : X.env.scope.names.lookup n = some .local) (hex : X.ex = []) (hdb : (n == ("__debug__" : Str)) = false) (hcd : (n == ("__classdict__" : Str)) = false) (hsw : swapsWith (.Name n p2) (some (.Name y p1)) p3.line X.env = pure false)
    (hb : ∀ (W : WX) (pn : List (Addr × Obj)) (xe : Value → Shared → Prop), Takes (X.tr pn xe) W → PassesOwn (model X.prog X.w) X.A X.env xe → PSs (X.tr pn xe) body (tb W)) :
    PS X (.Try body [.ExceptHandler (some (.Name x np)) (some n) [.Assign [.Name y p1] (.Name n p2) p3] pos'] [] [] pos) (fun D σ H => tb (wKeep X.K c i j D) D σ H) := by
  refine ⟨fun pins s σ H D I h => ?_⟩
  have ok := I.ok
  have hfr : X.A.frames = some (X.env :: X.outer) := by rw [ok.frames, hs]
  have hloc : L2.Loc X.env.scope n := Or.inl hln
  refine wpAny_Try_except (wpAny_mono ((hb (wKeep X.K c i j D) (X.pn ++ pins) (fun e s₁ => wpAny (model X.prog X.w) X.A (noteFrame e X.env) (fun _ s₂ => wpAny (model X.prog X.w) X.A (setFlight e none) (fun _ s₃ => wpAny (model X.prog X.w) X.A (handleBy e X.env [.ExceptHandler (some (.Name x np)) (some n) [.Assign [.Name y p1] (.Name n p2) p3] pos']) (SP X pins D) X.xe s₃) X.xe s₂) X.xe s₁) ?_ PassesOwn.looking).run [] s σ H D (I.toTry _) h) ?_ fun e s1 he => he)
  · rintro u s' ⟨a, B, sI, pins', σ', H', cls, d, rfl, J', nb, up, sky, na, os, ag, hb1, hyes⟩
    have J := J'.ofTry ok
    have sky' : Sky B (X.env :: X.outer) a (Zc cls d) X.env.locals s'.heap := by
      rw [← hs]
      exact sky
    refine Sky.land Zc.steady hfr hf sky' fun h3 fl3 up3 => ?_
    have J3 := J.landed (s' := { heap := h3, gens := s'.gens, drawn := s'.drawn, toks := s'.toks, os := s'.os }) nb fl3.left (up.trans up3) os ag
    obtain ⟨oe3, vs3, he3, hz3, hd3⟩ := fl3.there
    have notFr : ∀ {h : Heap} {o : Obj} {vs : Array Value}, h.FunFrames B (X.env :: X.outer) → h.get? a = some o → o.data = .fields vs → a ∉ frs (X.env :: X.outer) := fun ff e dd hm => by
      obtain ⟨_, o', e', hnf⟩ := ff.mem hm
      rw [e] at e'
      cases e'
      exact hnf _ dd
    have nfr := notFr fl3.2.2.1 he3 hd3
    have nL : a ≠ X.env.locals := fun z => nfr (List.mem_filterMap.mpr ⟨X.env, List.mem_cons_self, by rw [hf, z]⟩)
    have nF : a ∉ X.fs := fun hm => by
      obtain ⟨e, he, q⟩ := List.mem_filterMap.mp hm
      exact nfr (List.mem_filterMap.mpr ⟨e, List.mem_cons_of_mem _ he, q⟩)
    have Ba : B.get? a = none := fl3.2.1
    have nfr' : a ∉ frs X.stack := by
      rw [hs]
      exact nfr
    have sIa : sI.heap.get? a = none := by
      cases e : sI.heap.get? a with
      | none => rfl
      | some o =>
        rw [nb a o e nfr'] at Ba
        cases Ba
    have h0 : X.s_0.heap.get? a = none := by
      cases e : X.s_0.heap.get? a with
      | none => rfl
      | some o =>
        obtain ⟨o', e'⟩ := J.base.there a o e (by rw [hex]; exact List.not_mem_nil)
        rw [sIa] at e'
        cases e'
    have hp : ∀ p ∈ X.pn ++ pins, p.1 ≠ a := fun p hpm z => by
      have := (J.pin p hpm).1
      rw [z, sIa] at this
      cases this
    have S3 := J3.suite he3 hd3 na nL nF
    have LT : ∀ (A : Around) (Q : Value → Shared → Prop) (E : Value → Shared → Prop) (s : Shared), (∀ b o, h3.get? b = some o → s.heap.get? b = some o) → Q cls s → wpAny (model X.prog X.w) A (typeOf (.ref a)) Q E s := fun A Q E s k q => wpAny_typeOf_ref (k a oe3 he3) (by rw [hz3.1]; exact q)
    refine wpAny_handleBy_cons (codeAny_handlers_test ?_) (by intro z; cases z)
    have LM := PySem.W.exm_one J3.kIn LT hb1
    have test : ∀ {Q : Value → Shared → Prop} {E : Value → Shared → Prop}, Q c { heap := h3, gens := s'.gens, drawn := s'.drawn, toks := s'.toks, os := s'.os } → wpAny (model X.prog X.w) (X.A.mark (some (.ref a))) (eval (.Name x np) X.env) Q E { heap := h3, gens := s'.gens, drawn := s'.drawn, toks := s'.toks, os := s'.os } := fun {Q E} q => by
      obtain ⟨hg, hdbg, hm | ⟨hm, hv, hnn⟩⟩ := hc
      · exact ld_glob (X := X.suite a ((a, oe3) :: (X.pn ++ pins))) S3 hg hm q hdbg
      · exact ld_blt (X := X.suite a ((a, oe3) :: (X.pn ++ pins))) S3 hg hm hv q hnn hdbg
    refine test (PySem.W.Looks.here LM ?_)
    refine codeAny_handlers_suite_as (HandSPX.lands_againZ fl3 fun h4 fl4 up4 => ?_)
    have J4 := J.landed (s' := { heap := h4, gens := s'.gens, drawn := s'.drawn, toks := s'.toks, os := s'.os }) nb fl4.left ((up.trans up3).trans up4) os ag
    obtain ⟨oe4, vs4, he4, hz4, hd4⟩ := fl4.there
    have S4 := J4.suite he4 hd4 na nL nF
    refine store_ok (X := X.suite a ((a, oe4) :: (X.pn ++ pins))) (v := .ref a) S4 hN hi hloc rfl (fun s5 S5 => ?_) (.inr hnl)
    have suite : PSs (X.suite a ((a, oe4) :: (X.pn ++ pins))) [.Assign [.Name y p1] (.Name n p2) p3] _ := pss_one (ps_asg (pe_var (i := i) hi (.inl hnl) hdb hcd) (pg_name (i := j) hN hj (.inl hyl) (.inr hyl)) hsw)
    have il : i < σ'.length := by
      rw [J.len]
      exact (List.getElem?_eq_some_iff.mp hi).1
    refine wpAny_mono (suite.run [] s5 (σ'.set i (some (.ref a))) H' { nx := fun σ6 H6 => σ6 = (σ'.set i (some (.ref a))).set j (some (.ref a)) ∧ H6 = H', rt := fun _ _ => False } S5 ⟨.ref a, by rw [List.getElem?_set_self il], rfl, rfl⟩) (fun f s6 hsp => ?_) fun e s' z => z.elim
    cases f with
    | next =>
      obtain ⟨σ6, H6, S6, rfl, rfl⟩ := hsp
      have he6 := (S6.pin (a, oe4) (List.mem_append_left _ List.mem_cons_self)).1
      have K6 := keep_inv (Inv.unsuite S6 ok) he6 hz4 hd4 na nL h0 hp
      exact gone_ok K6 hN hi hln fun s7 J7 => ⟨_, _, J7, hyes a na⟩
    | brk =>
      obtain ⟨_, _, _, z⟩ := hsp
      exact z.elim
    | cont =>
      obtain ⟨_, _, _, z⟩ := hsp
      exact z.elim
    | ret v =>
      obtain ⟨_, _, _, _, _, z⟩ := hsp
      exact z.elim
  · intro f s1 hsp
    cases f with
    | next =>
      obtain ⟨σ', H', J', q⟩ := hsp
      exact wpAny_execs_nil ⟨σ', H', J'.ofTry ok, q⟩
    | brk =>
      obtain ⟨σ', H', J', q⟩ := hsp
      exact ⟨σ', H', J'.ofTry ok, q⟩
    | cont =>
      obtain ⟨σ', H', J', q⟩ := hsp
      exact ⟨σ', H', J'.ofTry ok, q⟩
    | ret v =>
      obtain ⟨v', σ', H', J', r, q⟩ := hsp
      exact ⟨v', σ', H', J'.ofTry ok, r, q⟩
end Rw
namespace Rw
open PySem PySem.Spec PyProof.Rows L2
/-! ### what is asked of a kept error -/
open PySem.W in
theorem kin_classD {prog : Program} {w : World} {A : Around} {E : Value → Shared → Prop} {s : Shared} {K : PySem.W.Frag} {x D : Addr} {ox od : Obj} {Q : Option Value → Shared → Prop} (hga : PySem.W.findIn K (.ref D) "__getattribute__" = some (some (.builtin "BaseException.__getattribute__"))) (hgt : PySem.W.findIn K (.ref D) "__getattr__" = some none)
    (hsub : PySem.W.subIn K (.ref D) (.type "BaseException") = some true) (hdct : PySem.W.hasDictIn K D = true) (ha : PySem.W.findIn K (.ref D) "__class__" = some (some (.builtin "object.__class__"))) (hn : PySem.W.specialIn K (.builtin "object.__class__") "__get__" = some (some (.builtin "getset_descriptor.__get__"))) (htk : PySem.W.takesIn K (.builtin "object.__class__") = some true) (hm : PySem.W.mroIn K D (.type "object") = some true)
    (X : K.In s.heap) (I : PySem.W.InstAt s.heap x ox D (some od)) (h : Q (some (.ref D)) { heap := s.heap, gens := s.gens, drawn := s.drawn, toks := s.toks + 1, os := s.os }) : wpAny (model prog w) A (getAttr? (.ref x) "__class__") Q E s := by
  have hf := PySem.W.findObj_data (K := K) (C := D) (od := od) (by obtain ⟨cd, hc, _⟩ := PySem.W.any_some hdct; rw [hc]; rfl) ha hn htk
  obtain ⟨hp, g, d, t, os⟩ := s
  have L0 := PySem.W.InstAt.type (M := model prog w) I
  have L1 := PySem.W.looks_findIn (M := model prog w) X hga
  have L2 := PySem.W.looks_findIn (M := model prog w) X hgt
  have L3 := PySem.W.looks_find (M := model prog w) X I hf
  have sub : PySem.W.Looks (model prog w) hp (typeOf (.ref x) >>= fun t => isSubtype t (.type "BaseException")) true := PySem.W.Looks.andThen L0 (PySem.W.looks_subIn X hsub)
  unfold getAttr?
  refine wpAny_bind (wpAny_mkText (wpAny_bind (wpAny_attempt (wpAny_holding ?_))))
  refine wpAny_bind (PySem.W.Looks.at L0 (wpAny_bind (PySem.W.Looks.at L1 ?_)))
  have c1 : (onTheHeap (Value.ref D) && (Value.builtin "BaseException.__getattribute__" == Value.builtin "object.__getattribute__")) = false := by
    rw [show (Value.builtin "BaseException.__getattribute__" == Value.builtin "object.__getattribute__") = false by decide]
    rfl
  show wpAny _ _ (if (onTheHeap (Value.ref D) && (Value.builtin "BaseException.__getattribute__" == Value.builtin "object.__getattribute__")) = true then _ else _) _ _ _
  rw [c1, if_neg Bool.false_ne_true]
  unfold getAttrByItsOwn
  refine wpAny_bind ?_
  unfold hookBefore
  rw [if_pos (show onTheHeap (Value.ref D) = true from rfl)]
  refine PySem.W.Looks.at L2 (wpAny_bind (wpAny_attempt (wpAny_holding ?_)))
  unfold callGetattribute
  rw [if_neg (show ¬ ((false && onTheHeap (Value.builtin "BaseException.__getattribute__")) = true) from Bool.false_ne_true)]
  unfold boundAndCalled
  rw [F.excAttr_ValueError.ga.bind (Value.ref x)]
  refine wpAny_bind (wpAny_pure ?_)
  show wpAny _ _ (call (Value.builtin "BaseException.__getattribute__") [.ref x, .str "__class__" t]) _ _ _
  refine wpAny_call ?_
  refine codeAny_call_builtin (id := "BaseException.__getattribute__") (b := Builtin.«object.__getattribute__») F.excAttr_ValueError.ga.plain F.entry_bexc_ga ?_
  refine PySem.W.check_slot (i := "BaseException.__getattribute__") (owner := "BaseException") (n := "__getattribute__") (self := .ref x) (rest := [.str "__class__" t]) (kw := []) PySem.W.kin_classE._proof_2 PySem.W.kin_classE._proof_3 sub (F.args_bexc_ga (.ref x) (.str "__class__" t)) ?_
  unfold Builtin.«object.__getattribute__»
  refine wpAny_bind ?_
  refine wpAny_of_eq (a := (Value.ref x, [Value.str "__class__" t])) rfl ?_
  refine wpAny_bind (wpAny_pure (wpAny_bind (PySem.W.Looks.at L0 (wpAny_bind (PySem.W.Looks.at L3 ?_)))))
  unfold Builtin.ObjectAttr.bindTo
  refine wpAny_bind (wpAny_holding (wpAny_call (PySem.W.class_get X I hm (wpAny_pure ?_))))
  show wpAny (model prog w) A (handedOut (.ref D)) _ _ _
  rw [PySem.W.handedOut_of rfl]
  exact wpAny_pure (wpAny_pure h)
theorem cls_at {K : PySem.W.Frag} {D : Addr} (h : PySem.W.hasDictIn K D = true) : ∃ o cd, K.lookup D = some o ∧ o.data = .cls cd := by
  obtain ⟨cd, hc, _⟩ := PySem.W.any_some h
  unfold PySem.W.clsIn at hc
  split at hc
  · rename_i heq
    exact ⟨_, _, heq, rfl⟩
  · cases hc
theorem kitx_excD {K : PySem.W.Frag} {x D : Addr} {ox od : Obj} (C : ExcC K D) : PySem.W.KitX K (.ref x) (.ref D) (fun h => PySem.W.InstAt h x ox D (some od)) := by
  obtain ⟨⟨cl, dc, da, sl⟩, cd, ho, hd⟩ := cls_at C.hd
  refine ⟨fun M h X I => PySem.W.InstAt.type I, fun M h X _ => ?_, fun h tp dd its n sl' X htp => ?_, fun X I k => kin_classD C.hg C.hk C.hs C.hd C.ha C.hn C.ht C.hm X I k⟩
  · subst hd
    intro A' Q' E' s' k q
    exact wpAny_bind (wpAny_loadPart (k D _ (X D _ ho)) (wpAny_pure q))
  · refine Bool.eq_false_iff.mpr fun q => ?_
    have e := Value.ref.inj (beq_iff_eq.mp q)
    subst e
    have z := (X D _ ho).symm.trans htp
    cases z
    cases hd
/-- isinstance(caught, C): None, or a kept error -/
def rIsH (K : PySem.W.Frag) : List V → Hp → VK → Prop := fun xs H Q => ∃ (x c : V) (u : Value), xs = [x, c] ∧ (∀ v, RelV c v → v = u) ∧
  ((x = .non ∧ ∃ b, PySem.W.kitOne K (.type "NoneType") u = some b ∧ Q (.bl b) H) ∨
   (∃ (a D dd : Addr) (fs : List (Str × V)) (b : Bool), x = .ref a ∧ H a = some (ExH (.ref D) (some dd) a) ∧ H dd = some (.xd fs) ∧ ExcC K D ∧ PySem.W.kitOne K (.ref D) u = some b ∧ Q (.bl b) H))
theorem call_isH {X : Cx} : CallR X (.builtin "isinstance") (rIsH X.K) := by
  intro pins s σ H xs us Q I r h
  obtain ⟨x, c, u, rfl, hu, h⟩ := h
  cases r with
  | cons r1 r2 =>
    cases r2 with
    | cons r2 r3 =>
      cases r3
      obtain rfl := hu _ r2
      rcases h with ⟨rfl, b, hk, q⟩ | ⟨a, D, dd, fs, b, rfl, ha, hd, C, hk, q⟩
      · cases r1
        exact PySem.W.kia_one PySem.W.kitx_none I.kIn trivial hk (fun z => nomatch z) fun tk => ⟨.bl b, H, I.tok _, rfl, q⟩
      · obtain ⟨oe, vs, hget, hz, hdat⟩ := (I.hok a _ ha).1
        obtain ⟨mA, hns, hr⟩ := I.hok dd _ hd
        obtain ⟨od, ho, hl⟩ := lookIn_ns hns
        have J : PySem.W.InstAt s.heap a oe D (some od) := ⟨hget, hz.1, by unfold PySem.W.notCls; rw [hdat] <;> rfl, by rw [hz.2]; exact ho⟩
        rw [show _ = Value.ref a from r1]
        exact PySem.W.kia_one (kitx_excD C) I.kIn J hk (fun z => nomatch z) fun tk => ⟨.bl b, H, I.tok _, rfl, q⟩
/-- caught.n -/
def tFldH (C : Addr) (n : Str) (te : TE) : TE := fun σ H Q => te σ H fun x H1 => ∃ (a dd : Addr) (fs : List (Str × V)) (v : V), x = .ref a ∧ H1 a = some (ExH (.ref C) (some dd) a) ∧ H1 dd = some (.xd fs) ∧ fs.lookup n = some v ∧ Q v H1
theorem pe_fldH {X : Cx} {C : Addr} {e : Expr} {te : TE} {pos : Pos} {n : Str} (T : XfC X.K C) (hno : PySem.W.findIn X.K (.ref C) n = some none) (he : PE X e te) (hb : attributeBase e n X.env (eval e X.env) = eval e X.env := by rfl) : PE X (.Attribute e n pos) (tFldH C n te) := by
  refine ⟨fun pins s σ H Q I h => attr_of hb (thn (he.run pins s σ H _ I h) fun u s1 ⟨x, H1, I1, rx, a, dd, fs, v, ex, ha, hdd, l, q⟩ => ?_)⟩
  subst ex
  obtain rfl : u = Value.ref a := rx
  obtain ⟨oe, vs, hget, hz, hdat⟩ := (I1.hok a _ ha).1
  obtain ⟨mA, hns, hr⟩ := I1.hok dd _ hdd
  obtain ⟨od, ho, hl⟩ := lookIn_ns hns
  obtain ⟨u, hu, ru⟩ := RelO.some_of (v := v) (o := mA n) (by rw [← l]; exact hr n)
  have J : PySem.W.InstAt s1.heap a oe C (some od) := ⟨hget, hz.1, by unfold PySem.W.notCls; rw [hdat] <;> rfl, by rw [hz.2]; exact ho⟩
  exact HandSPX.exc_get I1.kIn J T.ga T.gg T.exC (PySem.W.findObj_own T.hdC hno rfl (by rw [hl, hu])) (handed_of ru) ⟨v, H1, I1.tok _, ru, q⟩
end Rw
namespace Rw
open PySem PySem.Spec PyProof.Rows L2
/-! ### own errors with one field -/
/-- __init__(self, n): self.n = n -/
def spErr (C : Addr) (n : Str) : Sp := fun vs H Q _ => ∃ (a : Addr) (v : V), vs = [.ref a, v] ∧ H a = some (exo a C none) ∧ ∀ dx, H dx = none → dx ≠ a → Q .non (upd (upd H dx (exd dx [(n, v)])) a (exo a C (some dx)))
/-- C(v) made: what its making asks -/
theorem err_made {C : Addr} {n : Str} {v : V} {H1 : Hp} {Q : XK} (h : ∀ d, H1 d = none → Q (.ref C) (some d) (upd H1 d (.xd [(n, v)]))) : [v].length ≤ 1000 ∧ ∀ a : Addr, H1 a = none → spErr C n (.ref a :: ([v] ++ [])) (upd H1 a (exo a C none))
    (fun u H2 => u = .non ∧ ∃ d fs, H2 a = some (exo a C (some d)) ∧ H2 d = some (exd d fs) ∧ H1 d = none ∧ Q (.ref C) (some d) (upd (del H2 a) d (.xd fs))) (fun _ _ _ => False) := by
  refine ⟨by simp, fun a ha => ⟨a, v, rfl, upd_same, fun dx hdx ne => ?_⟩⟩
  have hd1 : H1 dx = none := by
    rw [upd_ne ne] at hdx
    exact hdx
  refine ⟨rfl, dx, [(n, v)], upd_same, ?_, hd1, ?_⟩
  · rw [upd_ne ne, upd_same]
  · have e : upd (del (upd (upd (upd H1 a (exo a C none)) dx (exd dx [(n, v)])) a (exo a C (some dx))) a) dx (.xd [(n, v)]) = upd H1 dx (.xd [(n, v)]) := by
      funext b
      by_cases h1 : b = dx
      · subst h1
        rw [upd_same, upd_same]
      · rw [upd_ne h1, upd_ne h1]
        by_cases h2 : b = a
        · subst h2
          unfold del
          rw [ha]
          simp
        · unfold del
          rw [if_neg h2, upd_ne h2, upd_ne h1, upd_ne h2]
    rw [e]
    exact h dx hd1
end Rw
namespace Rw
open PySem PySem.Spec PyProof.Rows L2
/-! ### a head that tells of defs anywhere, and more -/
/-! ### what a class is, as a test -/
theorem clsB_ok {K : PySem.W.Frag} {C : Addr} {f : List Value → Addr → Bool → Bool} {nid : String} (h : clsB K C f nid = true) : ∃ nm q N bs bm hd sn sub ab col dd k0 k1 k2 k3 k5, K.lookup C = some (excClassObj nm q C N bs bm hd sn sub ab col dd k0 k1 k2 k3 k5 nid) ∧ f bm N hd = true := by
  unfold clsB at h
  split at h
  · rename_i t dd cd sl e
    rw [Bool.and_eq_true, Bool.and_eq_true, Bool.and_eq_true] at h
    obtain ⟨h1, h2, h3, h4⟩ := h
    obtain ⟨h1, h0⟩ := of_decide_eq_true h1
    have h2 := of_decide_eq_true h2
    split at h4
    · rename_i k0 k1 k2 k3 i k5
      have h4 := of_decide_eq_true h4
      subst h1 h4
      obtain ⟨nm, bs, mro, ns, q, hd, sn, sub, ab, col, del⟩ := cd
      refine ⟨nm, q, ns, bs, mro.tail, hd, sn, sub, ab, col, dd, k0, k1, k2, k3, k5, ?_, h3⟩
      rw [e]
      have h2' : mro = .ref C :: mro.tail := h2
      have h0' : del = false := h0
      subst h0'
      unfold excClassObj
      rw [← h2']
    · exact nomatch h4
  · exact nomatch h
def strKeysB (es : Array DictEntry) : Bool := es.toList.all fun e => match e.key with | .str _ _ => true | _ => false
theorem strKeysB_ok {es : Array DictEntry} (h : strKeysB es = true) : StrKeys es := fun e he => by
  have z := List.all_eq_true.mp h e (Array.mem_toList_iff.mpr he)
  split at z
  · exact ⟨_, _, by assumption⟩
  · exact nomatch z
def nsB (K : PySem.W.Frag) (N g : Addr) : Bool :=
  match K.lookup N with
  | some ⟨_, _, .dict es _, _⟩ => strKeysB es && (decide (nsFind es "__eq__" = some (.ref g)) && decide (nsFind es "__ne__" = none))
  | _ => false
def fnB (K : PySem.W.Frag) (g : Addr) : Bool :=
  match K.lookup g with
  | some o => decide (o.cls = .type "function")
  | none => false
theorem neC_of {K : PySem.W.Frag} {C g : Addr} (h1 : clsB K C (fun bm N _ => decide (bm = [.type "object"]) && nsB K N g) "object.__new__" = true) (h2 : fnB K g = true) : NeC K C g := by
  obtain ⟨nm, q, N, bs, bm, hd, sn, sub, ab, col, dd, k0, k1, k2, k3, k5, e, hf⟩ := clsB_ok h1
  rw [Bool.and_eq_true] at hf
  obtain ⟨f1, f2⟩ := hf
  have f1 := of_decide_eq_true f1
  subst f1
  constructor
  · unfold nsB at f2
    split at f2
    · rename_i oc od es ep os eN
      rw [Bool.and_eq_true, Bool.and_eq_true] at f2
      obtain ⟨g1, g2, g3⟩ := f2
      exact ⟨nm, q, N, bs, hd, sn, sub, ab, col, dd, k0, k1, k2, k3, k5, "object.__new__", _, es, ep, e, eN, rfl, strKeysB_ok g1, of_decide_eq_true g2, of_decide_eq_true g3⟩
    · exact nomatch f2
  · unfold fnB at h2
    split at h2
    · exact ⟨_, by assumption, of_decide_eq_true h2⟩
    · exact nomatch h2
/-- an own error class, by tests -/
theorem oexB_ok {K : PySem.W.Frag} {C : Addr} (h : oexB K C = true) : OexC K C := by
  unfold oexB at h
  rw [Bool.and_eq_true, Bool.and_eq_true, Bool.and_eq_true, Bool.and_eq_true] at h
  obtain ⟨h1, h2, h3, h4, h5⟩ := h
  obtain ⟨nm, q, N, bs, bm, hd, sn, sub, ab, col, dd, k0, k1, k2, k3, k5, e, hf⟩ := clsB_ok h1
  rw [Bool.and_eq_true] at hf
  obtain ⟨f1, f2⟩ := hf
  subst f1
  exact ⟨⟨nm, q, N, bs, bm, sn, sub, ab, col, dd, k0, k1, k2, k3, k5, e, f2⟩, of_decide_eq_true h2, of_decide_eq_true h3, of_decide_eq_true h4, h5⟩
theorem excP_ok {K : PySem.W.Frag} {D : Addr} (h : excP K D) : ExcC K D := by
  obtain ⟨h1, h2, h3, h4, h5, h6, h7, h8⟩ := h
  exact ⟨h1, h2, h3, h4, h5, h6, h7, h8⟩
theorem propP_ok {K : PySem.W.Frag} {C : Addr} {f : Str} (h : propP K C f) (r : recB K (He.ma K C f) "property" = true) : PropOf K C f (He.ma K C f) (He5.wf K C "property" f) := by
  obtain ⟨h1, h2, h3⟩ := h
  refine ⟨h1, h2, h3, ?_⟩
  unfold recB at r
  unfold He5.wf
  split at r
  · rename_i a l e
    rw [e]
    exact ⟨_, rfl⟩
  · exact nomatch r
end Rw
namespace Rw
open PySem PySem.Spec PyProof.Rows L2
/-! ### the text -/
theorem scIsName : FnScope ["thing", "letter"] ["thing"] (defScope sIsName) := ⟨rfl, rfl, rfl, by decide +kernel, rfl, by decide +kernel, by decide +kernel⟩
theorem scIsWorld : FnScope ["thing"] ["thing"] (defScope sIsWorld) := ⟨rfl, rfl, rfl, by decide +kernel, rfl, by decide +kernel, by decide +kernel⟩
theorem scIsRule : FnScope ["thing", "part"] ["thing"] (defScope sIsRule) := ⟨rfl, rfl, rfl, by decide +kernel, rfl, by decide +kernel, by decide +kernel⟩
theorem scAreNames : FnScope ["thing", "item"] ["thing"] (defScope sAreNames) := ⟨rfl, rfl, rfl, by decide +kernel, rfl, by decide +kernel, by decide +kernel⟩
theorem scSetOf : FnScope ["names"] ["names"] (defScope sSetOf) := ⟨rfl, rfl, rfl, by decide +kernel, rfl, by decide +kernel, by decide +kernel⟩
theorem scInit : FnScope ["self", "rules", "place", "row"] ["self", "rules"] (defScope sInit) := ⟨rfl, rfl, rfl, by decide +kernel, rfl, by decide +kernel, by decide +kernel⟩
theorem scOf : FnScope ["cls", "rules"] ["cls", "rules"] (defScope sOf) := ⟨rfl, rfl, rfl, by decide +kernel, rfl, by decide +kernel, by decide +kernel⟩
theorem scRules : FnScope ["self"] ["self"] (defScope sRules) := ⟨rfl, rfl, rfl, by decide +kernel, rfl, by decide +kernel, by decide +kernel⟩
/-- the built-in names that the text does not bind -/
structure Bl (mg : Str → Option Value) : Prop where
  len : mg "len" = none
  isi : mg "isinstance" = none
  all : mg "all" = none
  any : mg "any" = none
  tuple : mg "tuple" = none
  list : mg "list" = none
  sorted : mg "sorted" = none
  set : mg "set" = none
  str : mg "str" = none
  int : mg "int" = none
  max : mg "max" = none
  min : mg "min" = none
  range : mg "range" = none
  enum : mg "enumerate" = none
/-! ### odd values -/
def nameD : PyData → Bool
  | .str x => nameB x
  | _ => false
def oddN : PyData → Prop
  | .str x => x.cps.size ≤ 10000
  | .bool _ => False
  | .dict _ => False
  | _ => True
def tyName : PyData → String
  | .none => "NoneType"
  | .bool _ => "bool"
  | .int _ => "int"
  | .str _ => "str"
  | .list _ => "list"
  | .tuple _ => "tuple"
  | .dict _ => "dict"
theorem tyx_dp {K : PySem.W.Frag} {H : Hp} {x : V} {d : PyData} (h : Dp K H x d) : TyX K H x (.type (tyName d)) := by
  cases h with
  | non => exact .base .non
  | bl b => exact .base (.bl b)
  | int i => exact .base (.int i)
  | str x => exact .base (.str x)
  | lst h1 _ =>
    rcases h1 with (h | ⟨o, h⟩) | ⟨o, its, n, h1, h2, _⟩
    · exact .base (.lst h)
    · exact .base (.frz h)
    · exact .kList h1 h2
  | tup h1 _ => exact tyx_tup h1
section
variable {K : PySem.W.Frag} {H H' : Hp}
mutual
theorem dp_same (e : Same H H') : ∀ (d : PyData) (x : V), Dp K H x d → Dp K H' x d
  | .none, _, h => by cases h; exact .non
  | .bool _, _, h => by cases h; exact .bl _
  | .int _, _, h => by cases h; exact .int _
  | .str _, _, h => by cases h; exact .str _
  | .list ds, _, h => by
    cases h with
    | lst h1 h2 => exact .lst (e.seq h1) (dpAll_same e ds _ h2)
  | .tuple ds, _, h => by
    cases h with
    | tup h1 h2 => exact .tup (same_tup e h1) (dpAll_same e ds _ h2)
  | .dict _, _, h => by cases h
theorem dpAll_same (e : Same H H') : ∀ (ds : List PyData) (xs : List V), DpAll K H xs ds → DpAll K H' xs ds
  | [], _, h => by cases h; exact .nil
  | d :: ds, _, h => by
    cases h with
    | cons h1 h2 => exact .cons (dp_same e d _ h1) (dpAll_same e ds _ h2)
end
end
theorem letter_in {c : Nat} : decide (c ∈ lettersS.cps.toList) = letter c := by
  cases h : letter c with
  | true => exact decide_eq_true (in_letters h)
  | false =>
    refine decide_eq_false fun m => ?_
    have all : (lettersS.cps.toList.all letter) = true := by decide +kernel
    rw [List.all_eq_true.mp all c m] at h
    exact nomatch h
section
variable {P : Program} {w : World} {K : PySem.W.Frag} {mg : Str → Option Value} {base : Heap} {f : Addr} {fd : FuncData} {k : Nat}
/-! ### is_name -/
def spIsName (K : PySem.W.Frag) : Sp := fun vs H Q _ => ∃ (x : V) (d : PyData), vs = [x] ∧ Dp K H x d ∧ oddN d ∧ ∀ H', Same H H' → Q (.bl (nameD d)) H'
theorem ok_isName (F : Fun K "is_name" "is_name" sIsName f fd) (T : Bl mg) (mL : ∃ t, mg "LETTERS" = some (.str lettersS t)) : FnOk P w K mg base CX0 (k + 1) f fd ["thing"] (spIsName K) := by
  refine F.ok scIsName (fun vs H Q E h => ?_) (fun cdv A outer s H vs Q E hr h => ?_)
  · obtain ⟨x, d, rfl, _⟩ := h
    rfl
  obtain ⟨x, d, rfl, hd, odd, q⟩ := h
  obtain ⟨tl, mL⟩ := mL
  refine ⟨_, pss_cons (ps_if (PW.pt (pw_or (pt_not (pt_val (pe_callB call_isi (by rfl) T.isi PyProof.Rows.boot_isinstance (pa_cons (pv 0) (pa_cons (pe_bltn (v := .ty "str") (by rfl) T.str (by decide +kernel) rfl) pa_nil)))))
      (pw_or1 (pt_cmpR op_eq (pv 0) pe_str (nomark _))))) (pss_one (ps_ret pe_bl)) pss_nil)
    (pss_one (ps_ret (pe_and (pe_chain op_le op_le pe_int (pe_callB call_len_str (by rfl) T.len PySem.boot_len (pa_cons (pv 0) pa_nil)) pe_int)
      (pe_one (pe_callB (cr_all rfl) (by rfl) T.all (by decide +kernel) (pa_cons (pe_lc (own := [("letter", 1)]) (g := gName 1) (by rfl) scIsName.nd (pi_str (pv 0)) (blkOk_by (N := ["thing", "letter"]) (sc := defScope sIsName) (by decide +kernel))
        (fun _ _ _ _ _ => pg_name (i := 1) scIsName.nd rfl (Or.inl rfl)) (fun _ _ _ _ _ => pts_nil) (fun _ _ _ _ _ => pe_cmpR op_in_sign (pv 1) (pe_glob (v := .str lettersS) (by rfl) mL ⟨_, rfl⟩) (by rfl))) pa_nil)))))), ?_⟩
  have cases' : (∃ t : String, TyX K H x (.type t) ∧ PySem.W.kitOne K (.type t) (.type "str") = some false ∧ nameD d = false) ∨ ∃ z, d = .str z := by
    have ty := tyx_dp hd
    cases d with
    | none => exact .inl ⟨"NoneType", ty, kit_ty (by decide +kernel), rfl⟩
    | bool _ => exact absurd odd id
    | dict _ => exact absurd odd id
    | int i => exact .inl ⟨"int", ty, kit_ty (by decide +kernel), rfl⟩
    | list ds => exact .inl ⟨"list", ty, kit_ty (by decide +kernel), rfl⟩
    | tuple ds => exact .inl ⟨"tuple", ty, kit_ty (by decide +kernel), rfl⟩
    | str z => exact .inr ⟨z, rfl⟩
  rcases cases' with ⟨t, h1, h2, h3⟩ | ⟨z, rfl⟩
  · refine ⟨x, rfl, x, .ty "str", .type t, .type "str", false, rfl, .ty "str", h1, h2, false, rfl, iteT ?_⟩
    have := q H fun _ _ e => e
    rw [h3] at this
    exact this
  · cases hd
    have few : z.cps.size ≤ 10000 := odd
    refine ⟨.str z, rfl, .str z, .ty "str", .type "str", .type "str", true, rfl, .ty "str", .base (.str z), kit_ty (by decide +kernel), true, rfl, ?_⟩
    refine ⟨.str z, rfl, rfl, _, rfl, ?_⟩
    refine ite2 (fun e => ?_) (fun e => ?_)
    · have ez : z = notS := V.str.inj (of_decide_eq_true e)
      have en : nameB z = false := by
        rw [ez]
        decide +kernel
      have := q H fun _ _ e => e
      rw [show nameD (.str z) = nameB z from rfl, en] at this
      exact this
    · have nz : z ≠ notS := fun h => e (decide_eq_true (by rw [h]; rfl))
      have val : nameB z = (decide (1 ≤ z.cps.size) && (decide (z.cps.size ≤ 8) && z.cps.toList.all letter)) := by
        unfold nameB
        rw [decide_eq_false nz]
        cases z.cps.toList.all letter <;> cases decide (1 ≤ z.cps.size) <;> cases decide (z.cps.size ≤ 8) <;> rfl
      have q' : ∀ H', Same H H' → Q (.bl (decide (1 ≤ z.cps.size) && (decide (z.cps.size ≤ 8) && z.cps.toList.all letter))) H' := fun H' s => by
        have := q H' s
        rw [show nameD (.str z) = nameB z from rfl, val] at this
        exact this
      refine ⟨.str z, rfl, z, rfl, small_line few, 1, z.length, rfl, rfl, decide ((1 : Int) ≤ (z.length : Int)), rfl, ite2 (fun e1 => ?_) (fun e1 => ?_)⟩
      · have h1 : decide (1 ≤ z.cps.size) = true := by
          have := of_decide_eq_true e1
          exact decide_eq_true (by have : (1 : Int) ≤ (z.cps.size : Int) := this; omega)
        rw [h1] at q'
        refine ⟨z.length, 8, rfl, rfl, decide ((z.length : Int) ≤ 8), rfl, ite2 (fun e2 => ?_) (fun e2 => ?_)⟩
        · have h2 : decide (z.cps.size ≤ 8) = true := by
            have := of_decide_eq_true e2
            exact decide_eq_true (by have : (z.cps.size : Int) ≤ 8 := this; omega)
          rw [h2] at q'
          refine ⟨.str z, rfl, z, rfl, fun D hD => ?_⟩
          have s1 : Same H (upd H D (.lst [])) := same_new hD _
          refine lc_sgn (x := z) (fun i H1 => Same H H1 ∧ H1 D = some (.lst ((z.cps.toList.take i).map fun c => V.bl (letter c)))) ⟨s1, upd_same⟩ (fun i c H1 hc hI => ?_) (fun H1 hI => ?_)
          · obtain ⟨sm, hd⟩ := hI
            have hc' : z.cps.toList[i]? = some c := by rw [Array.getElem?_toList]; exact hc
            have il : i < z.cps.size := (Array.getElem?_eq_some_iff.mp hc).1
            refine ⟨rfl, .str ⟨#[c]⟩, rfl, c, lettersS, rfl, rfl, ?_⟩
            rw [letter_in]
            refine ⟨_, hd, small_line' (by rw [List.length_map, List.length_take, Array.length_toList]; omega), same_put sm hD, ?_⟩
            rw [upd_same, take_snoc hc', List.map_append]
            rfl
          · obtain ⟨sm, hd⟩ := hI
            rw [show z.cps.size = z.cps.toList.length by rw [Array.length_toList], List.take_length] at hd
            refine ⟨D, z.cps.toList.map letter, rfl, SqL.of (by rw [List.map_map]; exact hd), ?_⟩
            have eq : (z.cps.toList.map letter).all id = z.cps.toList.all letter := by
              rw [List.all_map]
              rfl
            rw [eq]
            exact q' H1 sm
        · have h2 : decide (z.cps.size ≤ 8) = false := decide_eq_false fun h => e2 (decide_eq_true (by show (z.cps.size : Int) ≤ 8; omega))
          rw [h2] at q'
          exact q' H fun _ _ e => e
      · have h1 : decide (1 ≤ z.cps.size) = false := decide_eq_false fun h => e1 (decide_eq_true (by show (1 : Int) ≤ (z.cps.size : Int); omega))
        rw [h1] at q'
        exact ⟨false, rfl, iteF (q' H fun _ _ e => e)⟩
end
end Rw
namespace Rw
open PySem PySem.Spec PyProof.Rows L2
/-! ### worlds of odd values -/
def strOf : PyData → Str
  | .str x => x
  | _ => notS
theorem strs_of : ∀ {ds : List PyData}, ds.all nameD = true → ds = (ds.map strOf).map PyData.str ∧ ∀ x ∈ ds.map strOf, nameB x = true
  | [], _ => ⟨rfl, fun x hx => nomatch hx⟩
  | d :: ds, h => by
    rw [List.all_cons, Bool.and_eq_true] at h
    obtain ⟨h1, h2⟩ := h
    obtain ⟨e, hn⟩ := strs_of h2
    cases d with
    | str x =>
      refine ⟨by rw [List.map_cons, List.map_cons, ← e]; rfl, fun y hy => ?_⟩
      rw [List.map_cons] at hy
      rcases List.mem_cons.mp hy with z | hy
      · rw [z]
        exact h1
      · exact hn y hy
    | _ => exact absurd h1 (by simp [nameD])
instance (ns : W) : Decidable (UpX ns) := inferInstanceAs (Decidable (ns.Pairwise fun a b => a.cps.toList < b.cps.toList))
def worldD : PyData → Bool
  | .tuple ds => ds.all nameD && decide (UpX (ds.map strOf))
  | _ => false
def oddW : PyData → Prop
  | .tuple ds => (∀ d ∈ ds, oddN d) ∧ ds.length ≤ 40
  | .bool _ => False
  | .dict _ => False
  | _ => True
theorem worldD_wd {ns : W} (h : IsW ns) : worldD (wd ns) = true := by
  unfold worldD wd
  have e1 : ((ns.map PyData.str).all nameD) = true := by
    rw [List.all_map, List.all_eq_true]
    exact fun x hx => h.names x hx
  have e2 : (ns.map PyData.str).map strOf = ns := by
    rw [List.map_map]
    exact List.map_id' ns
  show ((ns.map PyData.str).all nameD && decide (UpX ((ns.map PyData.str).map strOf))) = true
  rw [e1, e2, decide_eq_true h.up]
  rfl
theorem worldD_of {d : PyData} (o : oddW d) (h : worldD d = true) : ∃ ns, IsW ns ∧ d = wd ns := by
  cases d with
  | tuple ds =>
    have h' : (ds.all nameD && decide (UpX (ds.map strOf))) = true := h
    rw [Bool.and_eq_true] at h'
    obtain ⟨h1, h2⟩ := h'
    obtain ⟨e, hn⟩ := strs_of h1
    refine ⟨ds.map strOf, ⟨hn, of_decide_eq_true h2, by rw [List.length_map]; exact o.2⟩, ?_⟩
    unfold wd
    rw [← e]
  | _ => exact nomatch h
theorem oddN_name {x : Str} (h : nameB x = true) : oddN (.str x) := by
  obtain ⟨_, _, h3, _⟩ := nameB_iff.mp h
  show x.cps.size ≤ 10000
  omega
theorem oddW_wd {ns : W} (h : IsW ns) : oddW (wd ns) := ⟨fun d hd => by
  obtain ⟨x, hx, rfl⟩ := List.mem_map.mp hd
  exact oddN_name (h.names x hx), by rw [List.length_map]; exact h.few⟩
theorem shaped_names {ns : W} (h : ∀ x ∈ ns, nameB x = true) : SeqAt.shaped (wd ns) = true := shaped_of (lay_wd h) (by rw [depth_wd]; decide)
section
variable {P : Program} {w : World} {K : PySem.W.Frag} {mg : Str → Option Value} {base : Heap} {f : Addr} {fd : FuncData} {k : Nat}
def spAreNames (K : PySem.W.Frag) : Sp := fun vs H Q _ => ∃ (a : Addr) (xs : List V) (ds : List PyData), vs = [.ref a] ∧ SqT K H a xs ∧ DpAll K H xs ds ∧ (∀ d ∈ ds, oddN d) ∧ ds.length ≤ 1000 ∧ ∀ H', Same H H' → Q (.bl (ds.all nameD)) H'
theorem ok_areNames {f1 : Addr} {fd1 : FuncData} (F : Fun K "_are_names" "_are_names" sAreNames f fd) (T : Bl mg) (G : FnOk P w K mg base CX0 k f1 fd1 ["thing"] (spIsName K)) (b1 : Binds K fd1 ["thing"] []) (k1 : PySem.W.keepIn K (.ref f1) = true) (m1 : mg "is_name" = some (.ref f1)) :
    FnOk P w K mg base CX0 (k + 1) f fd ["thing"] (spAreNames K) := by
  refine F.ok scAreNames (fun vs H Q E h => ?_) (fun cdv A outer s H vs Q E hr h => ?_)
  · obtain ⟨a, xs, ds, rfl, _⟩ := h
    rfl
  obtain ⟨a, xs, ds, rfl, hS, hx, odd, few, q⟩ := h
  have xl := dpAll_len hx
  refine ⟨_, pss_one (ps_ret (pe_and (pe_isiTL (pv 0) (by rfl) T.isi (pa_cons (pe_bltn (v := .ty "tuple") (by rfl) T.tuple (by decide +kernel) rfl) (pa_cons (pe_bltn (v := .ty "list") (by rfl) T.list (by decide +kernel) rfl) pa_nil)))
      (pe_one (pe_callB (cr_all rfl) (by rfl) T.all (by decide +kernel) (pa_cons (pe_lc (own := [("item", 1)]) (g := gName 1) (by rfl) scAreNames.nd (pi_tup (pv 0)) (blkOk_by (N := ["thing", "item"]) (sc := defScope sAreNames) (by decide +kernel))
        (fun _ _ _ _ _ => pg_name (i := 1) scAreNames.nd rfl (Or.inl rfl)) (fun _ _ _ _ _ => pts_nil) (fun _ _ _ _ _ => pe_call G hr (by rfl) m1 k1 b1 .nil pass0 (pa_cons (pv 1) pa_nil))) pa_nil))))), ?_⟩
  refine ⟨.ref a, rfl, ⟨a, _, rfl, hS⟩, fun T0 hT => ⟨true, rfl, iteT ?_⟩⟩
  have s0 : Same H (upd H T0 (.tup [.ty "tuple", .ty "list"])) := same_new hT _
  generalize upd H T0 (.tup [.ty "tuple", .ty "list"]) = H0 at s0 ⊢
  refine ⟨.ref a, rfl, a, rfl, ⟨_, same_tup s0 hS⟩, fun D hD => ?_⟩
  have s1 : Same H0 (upd H0 D (.lst [])) := same_new hD _
  refine lc_tup (xs := xs) (fun i H1 => Same H0 H1 ∧ H1 D = some (.lst ((ds.take i).map fun d => V.bl (nameD d)))) ⟨s1, upd_same⟩ (fun i H1 _ hI => same_tup (s0.trans hI.1) hS) (fun i x H1 hxi hI => ?_) (fun H1 hI => ?_)
  · obtain ⟨sm, hd⟩ := hI
    obtain ⟨d, hdi, hxd⟩ := dpAll_at' hx hxi
    have il : i < ds.length := (List.getElem?_eq_some_iff.mp hdi).1
    refine ⟨rfl, x, rfl, x, d, rfl, dp_same (s0.trans sm) _ _ hxd, odd d (List.mem_of_getElem? hdi), fun H2 sm2 => ⟨_, sm2 _ _ hd, small_line' (by rw [List.length_map, List.length_take]; omega), same_put (sm.trans sm2) hD, ?_⟩⟩
    rw [upd_same, take_snoc hdi, List.map_append]
    rfl
  · obtain ⟨sm, hd⟩ := hI
    rw [xl, List.take_length] at hd
    refine ⟨D, ds.map nameD, rfl, SqL.of (by rw [List.map_map]; exact hd), ?_⟩
    have z : (ds.map nameD).all id = ds.all nameD := by
      rw [List.all_map]
      rfl
    rw [z]
    exact q H1 (s0.trans sm)
/-! ### _set_of -/
def spSetOf (K : PySem.W.Frag) : Sp := fun vs H Q _ => ∃ (a : Addr) (ns : W), vs = [.ref a] ∧ (SqL K H a (ns.map V.str) ∨ SqT K H a (ns.map V.str)) ∧ ns.length < 1000 ∧ ∀ (H' : Hp) (p : Addr) (zs : W), Same H H' → H' p = some (.tup (zs.map V.str)) → UpX zs → (∀ z, z ∈ zs ↔ z ∈ ns) → Q (.ref p) H'
theorem ok_setOf (F : Fun K "_set_of" "_set_of" sSetOf f fd) (T : Bl mg) : FnOk P w K mg base CX0 (k + 1) f fd ["names"] (spSetOf K) := by
  refine F.ok scSetOf (fun vs H Q E h => ?_) (fun cdv A outer s H vs Q E hr h => ?_)
  · obtain ⟨a, ns, rfl, _⟩ := h
    rfl
  obtain ⟨a, ns, rfl, hS, few, q⟩ := h
  refine ⟨_, pss_one (ps_ret (pe_callTy call_tuple_of (by rfl) T.tuple (by decide +kernel) (pa_cons (pe_callB (cr_sortX rfl hr.units) (by rfl) T.sorted (by decide +kernel) (pa_cons (pe_callTy (cr_setX rfl hr.units) (by rfl) T.set (by decide +kernel) (pa_cons (pv 0) pa_nil)) pa_nil)) pa_nil))), ?_⟩
  refine ⟨.ref a, rfl, a, ns, rfl, hS, few, fun b ms hb nd hm hl => ?_⟩
  refine ⟨b, ms, rfl, upd_same, by omega, fun zs p hz nz hlz rz hp => ?_⟩
  refine ⟨p, zs.map V.str, rfl, .inl ⟨SqL.of upd_same, fun l hl2 => ?_⟩⟩
  exact q _ l zs ((same_new hb _).trans ((same_new hp _).trans (same_new hl2 _))) upd_same (upX_of rz nz) fun z => (hz z).trans (hm z)
/-! ### is_world -/
def spIsWorld (K : PySem.W.Frag) : Sp := fun vs H Q _ => ∃ (x : V) (d : PyData), vs = [x] ∧ Dp K H x d ∧ oddW d ∧ ∀ H', Same H H' → Q (.bl (worldD d)) H'
theorem ok_isWorld {f1 f2 : Addr} {fd1 fd2 : FuncData} (F : Fun K "is_world" "is_world" sIsWorld f fd) (T : Bl mg) (G1 : FnOk P w K mg base CX0 k f1 fd1 ["thing"] (spAreNames K)) (b1 : Binds K fd1 ["thing"] []) (k1 : PySem.W.keepIn K (.ref f1) = true) (m1 : mg "_are_names" = some (.ref f1))
    (G2 : FnOk P w K mg base CX0 k f2 fd2 ["names"] (spSetOf K)) (b2 : Binds K fd2 ["names"] []) (k2 : PySem.W.keepIn K (.ref f2) = true) (m2 : mg "_set_of" = some (.ref f2)) : FnOk P w K mg base CX0 (k + 1) f fd ["thing"] (spIsWorld K) := by
  refine F.ok scIsWorld (fun vs H Q E h => ?_) (fun cdv A outer s H vs Q E hr h => ?_)
  · obtain ⟨x, d, rfl, _⟩ := h
    rfl
  obtain ⟨x, d, rfl, hx, odd, q⟩ := h
  refine ⟨_, pss_one (ps_ret (pe_and (pe_callB call_isi (by rfl) T.isi PyProof.Rows.boot_isinstance (pa_cons (pv 0) (pa_cons (pe_bltn (v := .ty "tuple") (by rfl) T.tuple (by decide +kernel) rfl) pa_nil)))
    (pe_and (pe_call G1 hr (by rfl) m1 k1 b1 .nil pass0 (pa_cons (pv 0) pa_nil)) (pe_one (pe_cmpR (op_eqD hr.units) (pv 0) (pe_call G2 hr (by rfl) m2 k2 b2 .nil pass0 (pa_cons (pv 0) pa_nil)) (nomark _)))))), ?_⟩
  have cases' : (∃ t : String, TyX K H x (.type t) ∧ PySem.W.kitOne K (.type t) (.type "tuple") = some false ∧ worldD d = false) ∨ ∃ ds, d = .tuple ds := by
    have ty := tyx_dp hx
    cases d with
    | none => exact .inl ⟨"NoneType", ty, kit_ty (by decide +kernel), rfl⟩
    | bool _ => exact absurd odd id
    | dict _ => exact absurd odd id
    | int i => exact .inl ⟨"int", ty, kit_ty (by decide +kernel), rfl⟩
    | list ds => exact .inl ⟨"list", ty, kit_ty (by decide +kernel), rfl⟩
    | str z => exact .inl ⟨"str", ty, kit_ty (by decide +kernel), rfl⟩
    | tuple ds => exact .inr ⟨ds, rfl⟩
  rcases cases' with ⟨t, h1, h2, h3⟩ | ⟨ds, rfl⟩
  · refine ⟨x, rfl, x, .ty "tuple", .type t, .type "tuple", false, rfl, .ty "tuple", h1, h2, false, rfl, iteF ?_⟩
    have := q H fun _ _ e => e
    rw [h3] at this
    exact this
  obtain ⟨o1, o2⟩ := odd
  cases hx with
  | @tup a xs _ hS hxs =>
    refine ⟨.ref a, rfl, .ref a, .ty "tuple", .type "tuple", .type "tuple", true, rfl, .ty "tuple", tyx_tup hS, kit_ty (by decide +kernel), true, rfl, iteT ?_⟩
    refine ⟨.ref a, rfl, a, xs, ds, rfl, hS, hxs, o1, by omega, fun H1 s1 => ⟨_, rfl, ?_⟩⟩
    have val : ∀ b, ds.all nameD = b → worldD (.tuple ds) = (b && decide (UpX (ds.map strOf))) := fun b e => by
      rw [← e]
      rfl
    refine ite2 (fun c => ?_) (fun c => ?_)
    · rw [val _ c] at q
      obtain ⟨e, hn⟩ := strs_of c
      have ex : xs = (ds.map strOf).map V.str := dps_str (K := K) (H := H) (by rw [← e]; exact hxs)
      rw [ex] at hS
      refine ⟨.ref a, rfl, .ref a, rfl, a, ds.map strOf, rfl, .inr (same_tup s1 hS), by rw [List.length_map]; omega, fun H2 p zs s2 hp hu hm => ?_⟩
      have hz : ∀ x ∈ zs, nameB x = true := fun x hx => hn x ((hm x).mp hx)
      refine ⟨wd (ds.map strOf), wd zs, to_wd (same_tup (s1.trans s2) hS), to_wd (SqT.of hp), shaped_names hn, shaped_names hz, ?_⟩
      rw [eqv_wd]
      have ed : decide (ds.map strOf = zs) = decide (UpX (ds.map strOf)) := by
        by_cases u : UpX (ds.map strOf)
        · rw [decide_eq_true u, decide_eq_true (upX_one u hu fun z => (hm z).symm)]
        · rw [decide_eq_false u, decide_eq_false fun z => u (by rw [z]; exact hu)]
      rw [ed]
      exact q H2 (s1.trans s2)
    · rw [val false (by simpa using c)] at q
      exact q H1 s1
/-! ### is_rule -/
def spIsRule (K : PySem.W.Frag) : Sp := fun vs H Q _ => ∃ (x : V) (r : Rl), vs = [x] ∧ Dp K H x (rd r) ∧ IsR r ∧ ∀ H', Same H H' → Q (.bl true) H'
theorem ok_isRule {f1 : Addr} {fd1 : FuncData} (F : Fun K "is_rule" "is_rule" sIsRule f fd) (T : Bl mg) (G1 : FnOk P w K mg base CX0 k f1 fd1 ["thing"] (spIsWorld K)) (b1 : Binds K fd1 ["thing"] []) (k1 : PySem.W.keepIn K (.ref f1) = true) (m1 : mg "is_world" = some (.ref f1)) :
    FnOk P w K mg base CX0 (k + 1) f fd ["thing"] (spIsRule K) := by
  refine F.ok scIsRule (fun vs H Q E h => ?_) (fun cdv A outer s H vs Q E hr h => ?_)
  · obtain ⟨x, r, rfl, _⟩ := h
    rfl
  obtain ⟨x, r, rfl, hx, hr', q⟩ := h
  refine ⟨_, pss_one (ps_ret (pe_and (pe_callB call_isi (by rfl) T.isi PyProof.Rows.boot_isinstance (pa_cons (pv 0) (pa_cons (pe_bltn (v := .ty "tuple") (by rfl) T.tuple (by decide +kernel) rfl) pa_nil)))
    (pe_and (pe_cmpR op_eq (pe_callB call_len_seq (by rfl) T.len PySem.boot_len (pa_cons (pv 0) pa_nil)) pe_int (nomark _)) (pe_one (pe_callB (cr_all rfl) (by rfl) T.all (by decide +kernel) (pa_cons (pe_lc (own := [("part", 1)]) (g := gName 1) (by rfl) scIsRule.nd (pi_tup (pv 0)) (blkOk_by (N := ["thing", "part"]) (sc := defScope sIsRule) (by decide +kernel))
        (fun _ _ _ _ _ => pg_name (i := 1) scIsRule.nd rfl (Or.inl rfl)) (fun _ _ _ _ _ => pts_nil) (fun _ _ _ _ _ => pe_call G1 hr (by rfl) m1 k1 b1 .nil pass0 (pa_cons (pv 1) pa_nil))) pa_nil)))))), ?_⟩
  unfold rd at hx
  cases hx with
  | @tup a xs _ hS hxs =>
    have xl : xs.length = 4 := by
      rw [dpAll_len hxs, List.length_map]
      rfl
    refine ⟨.ref a, rfl, .ref a, .ty "tuple", .type "tuple", .type "tuple", true, rfl, .ty "tuple", tyx_tup hS, kit_ty (by decide +kernel), true, rfl, iteT ?_⟩
    refine ⟨.ref a, rfl, a, xs, rfl, .inr hS, rfl, true, congrArg V.bl (decide_eq_true (by rw [xl]; rfl)), iteT ?_⟩
    refine ⟨.ref a, rfl, a, rfl, ⟨_, hS⟩, fun D hD => ?_⟩
    refine lc_tup (xs := xs) (fun i H1 => Same H H1 ∧ H1 D = some (.lst (List.replicate i (V.bl true)))) ⟨same_new hD _, upd_same⟩ (fun i H1 _ hI => same_tup hI.1 hS) (fun i x H1 hxi hI => ?_) (fun H1 hI => ?_)
    · obtain ⟨sm, hd⟩ := hI
      obtain ⟨d, hdi, hxd⟩ := dpAll_at' hxs hxi
      obtain ⟨t, ht, rfl⟩ := map_at hdi
      have wt := hr'.all t (List.mem_of_getElem? ht)
      have il : i < (parts r).length := (List.getElem?_eq_some_iff.mp ht).1
      have il' : i < 4 := il
      refine ⟨rfl, x, rfl, x, wd t, rfl, (Stay.same sm).wd hxd, oddW_wd wt, fun H2 sm2 => ?_⟩
      rw [worldD_wd wt]
      refine ⟨_, sm2 _ _ hd, small_line' (by rw [List.length_replicate]; omega), same_put (sm.trans sm2) hD, ?_⟩
      rw [upd_same, show List.replicate (i + 1) (V.bl true) = List.replicate i (V.bl true) ++ [V.bl true] from List.replicate_succ']
    · obtain ⟨sm, hd⟩ := hI
      refine ⟨D, List.replicate xs.length true, rfl, SqL.of (by rw [List.map_replicate]; exact hd), ?_⟩
      have z : (List.replicate xs.length true).all id = true := by simp
      rw [z]
      exact q H1 sm
end
end Rw
namespace Rw
open PySem PySem.Spec PyProof.Rows L2
/-! ### programs -/
/-- an instance of the class at C whose rules are S -/
def PgAt (K : PySem.W.Frag) (C : Addr) (H : Hp) (v : V) (S : List Rl) : Prop := ∃ a dx t ys, v = .ref a ∧ H a = some (.ins C dx [(("_rules" : Str), .ref t)]) ∧ SqT K H t ys ∧ DpAll K H ys (S.map rd)
theorem PgAt.same {K : PySem.W.Frag} {C : Addr} {H H' : Hp} {v : V} {S : List Rl} (h : PgAt K C H v S) (e : Same H H') : PgAt K C H' v S := by
  obtain ⟨a, dx, t, ys, h1, h2, h3, h4⟩ := h
  exact ⟨a, dx, t, ys, h1, e _ _ h2, same_tup e h3, dpAll_same e _ _ h4⟩
theorem mut_ins {H : Hp} {p C dx : Addr} {fs : List (Str × V)} (h : H p = some (.ins C dx fs)) : Mut (H p) := by
  rw [h]
  exact True.intro
section
variable {P : Program} {w : World} {K : PySem.W.Frag} {mg : Str → Option Value} {base : Heap} {f : Addr} {fd : FuncData} {k : Nat}
/-- Program.__init__(self, *rules) -/
def spInit (K : PySem.W.Frag) (C : Addr) : Sp := fun vs H Q _ => ∃ (x dx : Addr) (xs : List V) (L : List Rl), vs = .ref x :: xs ∧ H x = some (.ins C dx []) ∧ DpAll K H xs (L.map rd) ∧ (∀ r ∈ L, IsR r) ∧ L.length < 76 ∧
  ∀ H' S, (∀ b u, b ≠ x → H b = some u → H' b = some u) → Srt S L → S.length < 76 → PgAt K C H' (.ref x) S → Q .non H'
theorem ok_init {C f1 : Addr} {fd1 : FuncData} {name qual : Str} {kV doc pm cdv ct oc : Value} {an od : Option Addr} {osl : Array (Option Value)}
    (lk : K.lookup f = some ⟨oc, od, .func (PySem.W.fnOf name qual (defArgs sInit) (defBody sInit) (defScope sInit) .none kV doc pm an cdv ct), osl⟩) (hcd : PySem.W.codeIn K cdv qual = true) (T : Bl mg) (c : Cls K C) (n : NoAttr K C "_rules")
    (G1 : FnOk P w K mg base CX0 k f1 fd1 ["thing"] (spIsRule K)) (b1 : Binds K fd1 ["thing"] []) (k1 : PySem.W.keepIn K (.ref f1) = true) (m1 : mg "is_rule" = some (.ref f1)) : FnR P w K mg base CX0 (k + 1) f (spInit K C) := by
  have main := StX.fn_star (CX := CX0) (P := P) (w := w) (mg := mg) (base := base) (k := k) (N := ["self", "rules", "place", "row"]) (ps := ["self"]) (pv := "rules") (sp := fun vs H Q E => ∃ (x p dx : Addr) (xs : List V) (L : List Rl), vs = [.ref x, .ref p] ∧ H x = some (.ins C dx []) ∧ SqT K H p xs ∧ DpAll K H xs (L.map rd) ∧ (∀ r ∈ L, IsR r) ∧ L.length < 76 ∧
      ∀ H' S, (∀ b u, b ≠ x → H b = some u → H' b = some u) → Srt S L → S.length < 76 → PgAt K C H' (.ref x) S → Q .non H') lk hcd scInit StX.cxUp_none (StX.bind_star1 (p1 := "self") (pv := "rules") (B := fun vs => bindArgs (PySem.W.fnOf name qual (defArgs sInit) (defBody sInit) (defScope sInit) .none kV doc pm an cdv ct) { pos := vs }) (fun _ => by first | rfl | with_unfolding_all rfl) (fun _ _ _ => by first | rfl | with_unfolding_all rfl)) (fun A outer s H vs Q E hr h => ?_)
  · intro A outer s H us vs Q E hr e0 r h
    refine main A outer s H us vs Q E hr e0 r ?_
    obtain ⟨x, dx, xs, L, rfl, hx, hxs, hL, few, q⟩ := h
    refine ⟨[.ref x], xs, rfl, rfl, small_line (by rw [dpAll_len hxs, List.length_map]; omega), fun p hp => ?_⟩
    have sp := same_new hp (.tup xs)
    exact ⟨x, p, dx, xs, L, rfl, sp _ _ hx, SqT.of upd_same, dpAll_same sp _ _ hxs, hL, few, fun H' S hb hs hl hg => q H' S (fun b u nb e => hb b u nb (sp _ _ e)) hs hl hg⟩
  obtain ⟨x, p, dx, xs, L, rfl, hx, hp, hxs, hL, few, q⟩ := h
  have xl : xs.length = L.length := by rw [dpAll_len hxs, List.length_map]
  refine ⟨_, PSs.nox (pss_cons (ps_for PassesOwn.never rfl (pi_enumT (by rfl) T.enum (pa_cons (pv 1) pa_nil)) (pg_tup (by rfl) (pgs_cons (pg_name (i := 2) scInit.nd rfl (.inl rfl)) (pgs_cons (pg_name (i := 3) scInit.nd rfl (.inl rfl)) pgs_nil)))
      (pss_one (ps_if (pt_not (pt_val (pe_call G1 hr (by rfl) m1 k1 b1 .nil pass0 (pa_cons (pv 3) pa_nil)))) pss_never pss_nil)))
    (pss_one (ps_fld (pv 0) (pe_callTy call_tuple_of (by rfl) T.tuple (by decide +kernel) (pa_cons (pe_callB (cr_sortR rfl hr.units) (by rfl) T.sorted (by decide +kernel) (pa_cons (pe_callTy (cr_setR rfl hr.units) (by rfl) T.set (by decide +kernel) (pa_cons (pv 1) pa_nil)) pa_nil)) pa_nil)) rfl))), ?_⟩
  refine ⟨.ref p, rfl, p, xs, rfl, hp, for_enumT (xs := xs) (fun i σ H1 => (∃ y2 y3, σ = [some (.ref x), some (.ref p), y2, y3]) ∧ Same H H1) ⟨⟨none, none, rfl⟩, fun _ _ e => e⟩ (fun i σ H1 _ hI => same_tup hI.2 hp) (fun i v σ H1 T0 hv hI hT => ?_) (fun σ H1 hI => ?_)⟩
  · obtain ⟨⟨y2, y3, rfl⟩, sm⟩ := hI
    obtain ⟨d, hd, hvd⟩ := dpAll_at' hxs hv
    obtain ⟨r, hr', rfl⟩ := map_at hd
    have st := same_new hT (.tup [.int (i : Int), v])
    refine ⟨T0, [.int (i : Int), v], rfl, SqT.of upd_same, rfl, .int (i : Int), [v], rfl, v, [], rfl, rfl, ?_⟩
    refine ⟨v, rfl, v, r, rfl, dp_same (sm.trans st) _ _ hvd, hL r (List.mem_of_getElem? hr'), fun H2 s2 => ⟨true, rfl, iteF ⟨⟨_, _, rfl⟩, sm.trans (st.trans s2)⟩⟩⟩
  · obtain ⟨⟨y2, y3, rfl⟩, sm⟩ := hI
    refine ⟨.ref p, rfl, p, xs, L, rfl, .inr (same_tup sm hp), dpAll_same sm _ _ hxs, few, fun a M ha hM isP hall => ?_⟩
    have sa := same_new ha (TSetO w a M)
    refine ⟨a, M, L, rfl, upd_same, (fun e he => ⟨(hM e he).1, (Stay.same sa).dp _ _ (hM e he).1.ok (hM e he).2⟩), isP, hall, fun ys S l hS hSl hys hl => ?_⟩
    have sl := same_new hl (.lst ys)
    refine ⟨l, ys, rfl, .inl ⟨SqL.of upd_same, fun t ht => ?_⟩⟩
    have st := same_new ht (.tup ys)
    have all := sm.trans (sa.trans (sl.trans st))
    refine ⟨.ref x, rfl, x, C, dx, _, rfl, all _ _ hx, c, n, by show 0 < 1000; decide, ?_⟩
    have hx' := all _ _ hx
    have stp := Stay.put (mut_ins hx') (.ins C dx [(("_rules" : Str), .ref t)])
    refine q _ S (fun b u nb e => ?_) hS hSl ⟨x, dx, t, ys, rfl, upd_same, stp.seq (SqT.of upd_same), (Stay.same st |>.trans stp).dpAll _ _ (okDs_rd S) ((Stay.same sl).dpAll _ _ (okDs_rd S) hys)⟩
    rw [upd_ne nb]
    exact all _ _ e
/-- a program made: where the class is called with the rules L -/
theorem made_ok {C : Addr} {H : Hp} {xs : List V} {L : List Rl} {Q : VK} {E : XK} (hx : DpAll K H xs (L.map rd)) (hL : ∀ r ∈ L, IsR r) (few : L.length < 76) (q : ∀ H' v S, Same H H' → Srt S L → S.length < 76 → PgAt K C H' v S → Q v H') :
    ∀ x dx, H x = none → H dx = none → dx ≠ x → spInit K C (.ref x :: xs) (upd (upd H dx (.own x)) x (.ins C dx [])) (fun v H2 => v = .non ∧ Q (.ref x) H2) E := fun x dx hx0 hd0 ne => by
  have s1 := same_new hd0 (.own x)
  have hx1 : (upd H dx (.own x)) x = none := by
    rw [upd_ne ne.symm]
    exact hx0
  have s2 := s1.trans (same_new hx1 (.ins C dx []))
  refine ⟨x, dx, xs, L, rfl, upd_same, (Stay.same s2).dpAll _ _ (okDs_rd L) hx, hL, few, fun H' S hb hS hl hg => ⟨rfl, q H' _ S (fun b u e => ?_) hS hl hg⟩⟩
  exact hb b u (ne_of_none e hx0) (s2 _ _ e)
/-- Program.of(cls, rules) -/
def spOf (K : PySem.W.Frag) (C : Addr) : Sp := fun vs H Q _ => ∃ (l : Addr) (xs : List V) (L : List Rl), vs = [.ref C, .ref l] ∧ (SqT K H l xs ∨ SqL K H l xs) ∧ DpAll K H xs (L.map rd) ∧ (∀ r ∈ L, IsR r) ∧ L.length < 76 ∧ ∀ H' v S, Same H H' → Srt S L → S.length < 76 → PgAt K C H' v S → Q v H'
theorem ok_of {C f1 : Addr} (F : Fun K "of" "Program.of" sOf f fd) (M : Mk K C f1) (G : FnR P w K mg base CX0 k f1 (spInit K C)) : FnOk P w K mg base CX0 (k + 2) f fd ["cls", "rules"] (spOf K C) := by
  refine F.ok scOf (fun vs H Q E h => ?_) (fun cdv A outer s H vs Q E hr h => ?_)
  · obtain ⟨l, xs, L, rfl, _⟩ := h
    rfl
  obtain ⟨l, xs, L, rfl, hS, hx, hL, few, q⟩ := h
  refine ⟨_, pss_one (ps_ret (pe_makeSL (i := 0) M G hr rfl (.inl rfl) pass0 (pv 1))), ?_⟩
  exact ⟨rfl, .ref l, rfl, l, xs, rfl, hS, made_ok hx hL few q⟩
/-- program.rules -/
def spRules (K : PySem.W.Frag) (C : Addr) : Sp := fun vs H Q _ => ∃ (v : V) (S : List Rl), vs = [v] ∧ PgAt K C H v S ∧ ∀ t ys, SqT K H t ys → DpAll K H ys (S.map rd) → Q (.ref t) H
theorem ok_rules {C : Addr} (F : Fun K "rules" "Program.rules" sRules f fd) (c : Cls K C) (n : NoAttr K C "_rules") : FnOk P w K mg base CX0 (k + 1) f fd ["self"] (spRules K C) := by
  refine F.ok scRules (fun vs H Q E h => ?_) (fun cdv A outer s H vs Q E hr h => ?_)
  · obtain ⟨v, S, rfl, _⟩ := h
    rfl
  obtain ⟨v, S, rfl, ⟨a, dx, t, ys, rfl, h1, h2, h3⟩, q⟩ := h
  refine ⟨_, pss_one (ps_ret (pe_fld (pv 0) rfl)), ?_⟩
  exact ⟨.ref a, rfl, a, C, dx, _, .ref t, rfl, h1, c, n, rfl, q t ys h2 h3⟩
end
end Rw
namespace Rw
open PySem PySem.Spec PyProof.Rows L2
/-! ### names in and out -/
theorem scHasAll : FnScope ["names", "wanted", "name"] ["names", "wanted"] (defScope sHasAll) := ⟨rfl, rfl, rfl, by decide +kernel, rfl, by decide +kernel, by decide +kernel⟩
theorem scMeet : FnScope ["one", "other", "name"] ["one", "other"] (defScope sMeet) := ⟨rfl, rfl, rfl, by decide +kernel, rfl, by decide +kernel, by decide +kernel⟩
theorem scWithout : FnScope ["names", "left_out", "name"] ["names", "left_out"] (defScope sWithout) := ⟨rfl, rfl, rfl, by decide +kernel, rfl, by decide +kernel, by decide +kernel⟩
theorem scNamesIn : FnScope ["row", "part", "name"] ["row"] (defScope sNamesIn) := ⟨rfl, rfl, rfl, by decide +kernel, rfl, by decide +kernel, by decide +kernel⟩
theorem scRowWithout : FnScope ["row", "names", "part"] ["row", "names"] (defScope sRowWithout) := ⟨rfl, rfl, rfl, by decide +kernel, rfl, by decide +kernel, by decide +kernel⟩
/-- a list or a tuple of names -/
def Ws (K : PySem.W.Frag) (H : Hp) (v : V) (ns : W) : Prop := ∃ a, v = .ref a ∧ (SqL K H a (ns.map V.str) ∨ SqT K H a (ns.map V.str))
theorem Ws.same {K : PySem.W.Frag} {H H' : Hp} {v : V} {ns : W} (h : Ws K H v ns) (e : Same H H') : Ws K H' v ns := by
  obtain ⟨a, rfl, h⟩ := h
  exact ⟨a, rfl, h.elim (fun z => .inl (e.seq z)) (fun z => .inr (same_tup e z))⟩
theorem Ws.wd {K : PySem.W.Frag} {H : Hp} {v : V} {ns : W} (h : Dp K H v (Rw.wd ns)) : Ws K H v ns := by
  obtain ⟨a, rfl, h'⟩ := of_wd h
  exact ⟨a, rfl, .inr h'⟩
def meets (ns ms : W) : Bool := ns.any fun z => decide (z ∈ ms)
def minus (ns ms : W) : W := ns.filter fun z => !decide (z ∈ ms)
section
variable {P : Program} {w : World} {K : PySem.W.Frag} {mg : Str → Option Value} {base : Heap} {f : Addr} {fd : FuncData} {k : Nat}
def spHasAll (K : PySem.W.Frag) : Sp := fun vs H Q _ => ∃ (x y : V) (ns ms : W), vs = [x, y] ∧ Ws K H x ns ∧ Ws K H y ms ∧ ms.length ≤ 1000 ∧ ∀ H', Same H H' → Q (.bl (sub ms ns)) H'
theorem ok_hasAll (F : Fun K "has_all" "has_all" sHasAll f fd) (T : Bl mg) : FnOk P w K mg base CX0 (k + 1) f fd ["names", "wanted"] (spHasAll K) := by
  refine F.ok scHasAll (fun vs H Q E h => ?_) (fun cdv A outer s H vs Q E hr h => ?_)
  · obtain ⟨x, y, ns, ms, rfl, _⟩ := h
    rfl
  obtain ⟨x, y, ns, ms, rfl, ⟨a, rfl, hS⟩, ⟨b, rfl, hT⟩, few, q⟩ := h
  have turn : ∀ (D : Addr) (i : Nat) (z : Str) (H1 : Hp), ms[i]? = some z → H D = none → Same H H1 ∧ H1 D = some (.lst ((ms.take i).map fun z => V.bl (decide (z ∈ ns)))) → SqL K H1 a (ns.map V.str) ∨ SqT K H1 a (ns.map V.str) := fun D i z H1 _ _ ⟨sm, _⟩ => hS.elim (fun z => .inl (sm.seq z)) (fun z => .inr (same_tup sm z))
  have step : ∀ (D : Addr) (i : Nat) (z : Str) (H1 : Hp), ms[i]? = some z → H D = none → Same H H1 ∧ H1 D = some (.lst ((ms.take i).map fun z => V.bl (decide (z ∈ ns)))) → ∃ acc, H1 D = some (.lst acc) ∧ acc.length < sizeLine ∧ (Same H (upd H1 D (.lst (acc ++ [V.bl (inV (.str z) (ns.map V.str))]))) ∧ (upd H1 D (.lst (acc ++ [V.bl (inV (.str z) (ns.map V.str))]))) D = some (.lst ((ms.take (i + 1)).map fun z => V.bl (decide (z ∈ ns))))) := fun D i z H1 hz hD ⟨sm, hd⟩ => by
    refine ⟨_, hd, small_line' (by rw [List.length_map, List.length_take]; omega), same_put sm hD, ?_⟩
    rw [upd_same, take_snoc hz, List.map_append, inV_str]
    rfl
  have fin : ∀ (D : Addr) (H1 : Hp), Same H H1 → H1 D = some (.lst ((ms.take ms.length).map fun z => V.bl (decide (z ∈ ns)))) → ∃ (a : Addr) (bs : List Bool), [V.ref D] = [V.ref a] ∧ SqL K H1 a (bs.map V.bl) ∧ Q (.bl (bs.all id)) H1 := fun D H1 sm hd => by
    rw [List.take_length] at hd
    refine ⟨D, ms.map fun z => decide (z ∈ ns), rfl, SqL.of (by rw [List.map_map]; exact hd), ?_⟩
    have z : (ms.map fun z => decide (z ∈ ns)).all id = sub ms ns := by
      unfold sub
      rw [List.all_map]
      rfl
    rw [z]
    exact q H1 sm
  rcases hT with hT | hT
  · refine ⟨_, pss_one (ps_ret (pe_callB (cr_all rfl) (by rfl) T.all (by decide +kernel) (pa_cons (pe_lc (own := [("name", 2)]) (g := gName 2) (by rfl) scHasAll.nd (pi_list (pv 1)) (blkOk_by (N := ["names", "wanted", "name"]) (sc := defScope sHasAll) (by decide +kernel))
        (fun _ _ _ _ _ => pg_name (i := 2) scHasAll.nd rfl (Or.inl rfl)) (fun _ _ _ _ _ => pts_nil) (fun _ _ _ _ _ => pe_cmpR (r := rIn K false) op_in_seq (pv 2) (pv 0) (by rfl))) pa_nil))), ?_⟩
    refine ⟨.ref b, rfl, b, rfl, ⟨_, hT⟩, fun D hD => ?_⟩
    refine lc_list (xs := ms.map V.str) (fun i H1 => Same H H1 ∧ H1 D = some (.lst ((ms.take i).map fun z => V.bl (decide (z ∈ ns))))) ⟨same_new hD _, upd_same⟩ (fun i H1 _ hI => hI.1.seq hT) (fun i x H1 hx hI => ?_) (fun H1 hI => ?_)
    · obtain ⟨z, hz, rfl⟩ := map_at hx
      exact ⟨rfl, .str z, rfl, .ref a, rfl, a, ns.map V.str, rfl, turn D i z H1 hz hD hI, rfl, flat_strs ns, step D i z H1 hz hD hI⟩
    · obtain ⟨sm, hd⟩ := hI
      rw [List.length_map] at hd
      exact fin D H1 sm hd
  · refine ⟨_, pss_one (ps_ret (pe_callB (cr_all rfl) (by rfl) T.all (by decide +kernel) (pa_cons (pe_lc (own := [("name", 2)]) (g := gName 2) (by rfl) scHasAll.nd (pi_tup (pv 1)) (blkOk_by (N := ["names", "wanted", "name"]) (sc := defScope sHasAll) (by decide +kernel))
        (fun _ _ _ _ _ => pg_name (i := 2) scHasAll.nd rfl (Or.inl rfl)) (fun _ _ _ _ _ => pts_nil) (fun _ _ _ _ _ => pe_cmpR (r := rIn K false) op_in_seq (pv 2) (pv 0) (by rfl))) pa_nil))), ?_⟩
    refine ⟨.ref b, rfl, b, rfl, ⟨_, hT⟩, fun D hD => ?_⟩
    refine lc_tup (xs := ms.map V.str) (fun i H1 => Same H H1 ∧ H1 D = some (.lst ((ms.take i).map fun z => V.bl (decide (z ∈ ns))))) ⟨same_new hD _, upd_same⟩ (fun i H1 _ hI => same_tup hI.1 hT) (fun i x H1 hx hI => ?_) (fun H1 hI => ?_)
    · obtain ⟨z, hz, rfl⟩ := map_at hx
      exact ⟨rfl, .str z, rfl, .ref a, rfl, a, ns.map V.str, rfl, turn D i z H1 hz hD hI, rfl, flat_strs ns, step D i z H1 hz hD hI⟩
    · obtain ⟨sm, hd⟩ := hI
      rw [List.length_map] at hd
      exact fin D H1 sm hd
def spMeet (K : PySem.W.Frag) : Sp := fun vs H Q _ => ∃ (x y : V) (ns ms : W), vs = [x, y] ∧ Dp K H x (wd ns) ∧ Ws K H y ms ∧ ns.length ≤ 1000 ∧ ∀ H', Same H H' → Q (.bl (meets ns ms)) H'
theorem ok_meet (F : Fun K "meet" "meet" sMeet f fd) (T : Bl mg) : FnOk P w K mg base CX0 (k + 1) f fd ["one", "other"] (spMeet K) := by
  refine F.ok scMeet (fun vs H Q E h => ?_) (fun cdv A outer s H vs Q E hr h => ?_)
  · obtain ⟨x, y, ns, ms, rfl, _⟩ := h
    rfl
  obtain ⟨x, y, ns, ms, rfl, hx, ⟨b, rfl, hT⟩, few, q⟩ := h
  obtain ⟨a, rfl, hS⟩ := of_wd hx
  refine ⟨_, pss_one (ps_ret (pe_callB (cr_any rfl) (by rfl) T.any (by decide +kernel) (pa_cons (pe_lc (own := [("name", 2)]) (g := gName 2) (by rfl) scMeet.nd (pi_tup (pv 0)) (blkOk_by (N := ["one", "other", "name"]) (sc := defScope sMeet) (by decide +kernel))
        (fun _ _ _ _ _ => pg_name (i := 2) scMeet.nd rfl (Or.inl rfl)) (fun _ _ _ _ _ => pts_nil) (fun _ _ _ _ _ => pe_cmpR (r := rIn K false) op_in_seq (pv 2) (pv 1) (by rfl))) pa_nil))), ?_⟩
  refine ⟨.ref a, rfl, a, rfl, ⟨_, hS⟩, fun D hD => ?_⟩
  refine lc_tup (xs := ns.map V.str) (fun i H1 => Same H H1 ∧ H1 D = some (.lst ((ns.take i).map fun z => V.bl (decide (z ∈ ms))))) ⟨same_new hD _, upd_same⟩ (fun i H1 _ hI => same_tup hI.1 hS) (fun i x H1 hx hI => ?_) (fun H1 hI => ?_)
  · obtain ⟨sm, hd⟩ := hI
    obtain ⟨z, hz, rfl⟩ := map_at hx
    refine ⟨rfl, .str z, rfl, .ref b, rfl, b, ms.map V.str, rfl, hT.elim (fun z => .inl (sm.seq z)) (fun z => .inr (same_tup sm z)), rfl, flat_strs ms, ?_⟩
    refine ⟨_, hd, small_line' (by rw [List.length_map, List.length_take]; omega), same_put sm hD, ?_⟩
    rw [upd_same, take_snoc hz, List.map_append]
    show some (HO.lst (_ ++ [V.bl (inV (.str z) (ms.map V.str))])) = _
    rw [inV_str]
    rfl
  · obtain ⟨sm, hd⟩ := hI
    rw [List.length_map, List.take_length] at hd
    refine ⟨D, ns.map fun z => decide (z ∈ ms), rfl, SqL.of (by rw [List.map_map]; exact hd), ?_⟩
    have z : (ns.map fun z => decide (z ∈ ms)).any id = meets ns ms := by
      unfold meets
      rw [List.any_map]
      rfl
    rw [z]
    exact q H1 sm
def spWithout (K : PySem.W.Frag) : Sp := fun vs H Q _ => ∃ (x y : V) (ns ms : W), vs = [x, y] ∧ Dp K H x (wd ns) ∧ Ws K H y ms ∧ ns.length ≤ 1000 ∧ ∀ H' v, Same H H' → Dp K H' v (wd (minus ns ms)) → Q v H'
theorem ok_without (F : Fun K "without" "without" sWithout f fd) (T : Bl mg) : FnOk P w K mg base CX0 (k + 1) f fd ["names", "left_out"] (spWithout K) := by
  refine F.ok scWithout (fun vs H Q E h => ?_) (fun cdv A outer s H vs Q E hr h => ?_)
  · obtain ⟨x, y, ns, ms, rfl, _⟩ := h
    rfl
  obtain ⟨x, y, ns, ms, rfl, hx, ⟨b, rfl, hT⟩, few, q⟩ := h
  obtain ⟨a, rfl, hS⟩ := of_wd hx
  refine ⟨_, pss_one (ps_ret (pe_callTy call_tuple_of (by rfl) T.tuple (by decide +kernel) (pa_cons (pe_lc (own := [("name", 2)]) (g := gName 2) (by rfl) scWithout.nd (pi_tup (pv 0)) (blkOk_by (N := ["names", "left_out", "name"]) (sc := defScope sWithout) (by decide +kernel))
        (fun _ _ _ _ _ => pg_name (i := 2) scWithout.nd rfl (Or.inl rfl)) (fun _ _ _ _ _ => pts_one (pt_cmpR (r := rIn K true) op_notIn_seq (pv 2) (pv 1) (by rfl))) (fun _ _ _ _ _ => pv 2)) pa_nil))), ?_⟩
  refine ⟨.ref a, rfl, a, rfl, ⟨_, hS⟩, fun D hD => ?_⟩
  refine lc_tup (xs := ns.map V.str) (fun i H1 => Same H H1 ∧ H1 D = some (.lst (((ns.take i).filter fun z => !decide (z ∈ ms)).map V.str))) ⟨same_new hD _, upd_same⟩ (fun i H1 _ hI => same_tup hI.1 hS) (fun i x H1 hx hI => ?_) (fun H1 hI => ?_)
  · obtain ⟨sm, hd⟩ := hI
    obtain ⟨z, hz, rfl⟩ := map_at hx
    refine ⟨rfl, .str z, rfl, .ref b, rfl, b, ms.map V.str, rfl, hT.elim (fun z => .inl (sm.seq z)) (fun z => .inr (same_tup sm z)), rfl, flat_strs ms, _, rfl, ?_⟩
    rw [inV_str]
    refine ite2 (fun e => ?_) (fun e => ?_)
    · refine ⟨.str z, rfl, _, hd, small_line' ?_, same_put sm hD, ?_⟩
      · rw [List.length_map]
        have := List.length_filter_le (fun z => !decide (z ∈ ms)) (ns.take i)
        rw [List.length_take] at this
        omega
      · rw [upd_same, filt_t hz (show (!decide (z ∈ ms)) = true by simpa using e), List.map_append]
        rfl
    · refine ⟨sm, ?_⟩
      rw [filt_f hz (show (!decide (z ∈ ms)) = false by simpa using e)]
      exact hd
  · obtain ⟨sm, hd⟩ := hI
    rw [List.length_map, List.take_length] at hd
    refine ⟨D, _, rfl, .inl ⟨SqL.of hd, fun l hl => ?_⟩⟩
    exact q _ _ (sm.trans (same_new hl _)) (to_wd (SqT.of upd_same))
end
end Rw
namespace Rw
open PySem PySem.Spec PyProof.Rows L2
/-- a walk over a tuple, whatever each turn does -/
theorem walk_tup {K : PySem.W.Frag} {a : Addr} {xs : List V} {H0 : Hp} {Qd : Hp → Prop} {B : V → Hp → (Hp → Prop) → Prop} (Pv : Nat → Hp → Prop) (h0 : Pv 0 H0) (hl : ∀ i H, i ≤ xs.length → Pv i H → SqT K H a xs) (hs : ∀ i x H, xs[i]? = some x → Pv i H → B x H (Pv (i + 1))) (hd : ∀ H, Pv xs.length H → Qd H) :
    ∃ W : Nat → Nat → Hp → Prop, (∃ m, W 0 m H0) ∧ ∀ i m H, W i m H → ((Itt K a).stop i H ∧ Qd H) ∨ ((Itt K a).go i H ∧ ∃ Nx : Hp → Prop, (∀ H', Nx H' → ∃ m', m' < m ∧ W (i + 1) m' H') ∧ ∀ x H', (Itt K a).yld i H x H' → B x H' Nx) := by
  refine ⟨fun i m H => m = xs.length - i ∧ i ≤ xs.length ∧ Pv i H, ⟨xs.length, by simp, Nat.zero_le _, h0⟩, ?_⟩
  rintro i m H ⟨rfl, hi, p⟩
  have hS := hl i H hi p
  by_cases hlt : i < xs.length
  · refine .inr ⟨⟨xs, xs[i], hS, List.getElem?_eq_getElem hlt⟩, Pv (i + 1), fun H' p' => ⟨xs.length - (i + 1), by omega, rfl, hlt, p'⟩, fun y H' yy => ?_⟩
    obtain ⟨rfl, fv⟩ := yy
    exact hs i y _ (fv xs hS) p
  · have e : i = xs.length := by omega
    subst e
    exact .inl ⟨⟨xs, hS, Nat.le_refl _⟩, hd H p⟩
/-- the list itself -/
def Wl (K : PySem.W.Frag) (H : Hp) (v : V) (ns : W) : Prop := ∃ a, v = .ref a ∧ H a = some (.lst (ns.map V.str))
theorem Wl.ws {K : PySem.W.Frag} {H : Hp} {v : V} {ns : W} (h : Wl K H v ns) : Ws K H v ns := by
  obtain ⟨a, rfl, h⟩ := h
  exact ⟨a, rfl, .inl (SqL.of h)⟩
/-- all names of a rule, in order, with repetition -/
def own (r : Rl) : W := (parts r).flatMap id
theorem own_mem {r : Rl} {z : Str} : z ∈ own r ↔ ∃ t ∈ parts r, z ∈ t := by
  unfold own
  rw [List.mem_flatMap]
  rfl
theorem own_len {r : Rl} (h : IsR r) : (own r).length ≤ 160 := by
  unfold own parts
  simp only [List.flatMap_cons, List.flatMap_nil, List.length_append, List.length_nil, id]
  have := h.h.few
  have := h.d.few
  have := h.n.few
  have := h.b.few
  omega
section
variable {P : Program} {w : World} {K : PySem.W.Frag} {mg : Str → Option Value} {base : Heap} {f : Addr} {fd : FuncData} {k : Nat}
def spNamesIn (K : PySem.W.Frag) : Sp := fun vs H Q _ => ∃ (x : V) (r : Rl), vs = [x] ∧ Dp K H x (rd r) ∧ IsR r ∧ ∀ H' v, Same H H' → Wl K H' v (own r) → Q v H'
theorem ok_namesIn (F : Fun K "_names_in" "_names_in" sNamesIn f fd) : FnOk P w K mg base CX0 (k + 1) f fd ["row"] (spNamesIn K) := by
  refine F.ok scNamesIn (fun vs H Q E h => ?_) (fun cdv A outer s H vs Q E hr h => ?_)
  · obtain ⟨x, r, rfl, _⟩ := h
    rfl
  obtain ⟨x, r, rfl, hx, hr', q⟩ := h
  refine ⟨_, pss_one (ps_ret (pe_lc2 (own := [("part", 1), ("name", 2)]) (vs1 := [2]) (g := gName 1) (g1 := gName 2) (wi1 := iTup K (tVar 1)) (te := tVar 2) (by rfl) scNamesIn.nd (pi_tup (pv 0)) (blkOk_by (N := ["row", "part", "name"]) (sc := defScope sNamesIn) (by decide +kernel)) (by decide)
    (fun _ _ _ _ _ => pg_name (i := 1) scNamesIn.nd rfl (Or.inl rfl)) (fun _ _ _ _ _ => pts_nil) (fun _ _ _ _ _ => pi_tup (pv 1)) (fun _ _ _ _ _ => pg_name (i := 2) scNamesIn.nd rfl (Or.inl rfl)) (fun _ _ _ _ _ => pts_nil) (fun _ _ _ _ _ => pv 2))), ?_⟩
  have lim := own_len hr'
  unfold rd at hx
  cases hx with
  | @tup a xs _ hS hxs =>
    have xl : xs.length = (parts r).length := by rw [dpAll_len hxs, List.length_map]
    refine ⟨.ref a, rfl, a, rfl, ⟨_, hS⟩, fun D hD => ?_⟩
    refine walk_tup (xs := xs) (fun i H1 => Same H H1 ∧ H1 D = some (.lst ((((parts r).take i).flatMap id).map V.str))) ⟨same_new hD _, upd_same⟩ (fun i H1 _ hI => same_tup hI.1 hS) (fun i x H1 hxi hI => ?_) (fun H1 hI => ?_)
    · obtain ⟨sm, hd⟩ := hI
      obtain ⟨d, hdi, hxd⟩ := dpAll_at' hxs hxi
      obtain ⟨t, ht, rfl⟩ := map_at hdi
      obtain ⟨b, rfl, hb⟩ := of_wd hxd
      refine ⟨rfl, .ref b, rfl, b, rfl, ⟨_, same_tup sm hb⟩, ?_⟩
      refine walk_tup (xs := t.map V.str) (fun j H2 => Same H H2 ∧ H2 D = some (.lst ((((parts r).take i).flatMap id ++ t.take j).map V.str))) ⟨sm, by rw [List.take_zero, List.append_nil]; exact hd⟩ (fun j H2 _ hI => same_tup hI.1 hb) (fun j y H2 hy hI => ?_) (fun H2 hI => ?_)
      · obtain ⟨sm2, hd2⟩ := hI
        obtain ⟨z, hz, rfl⟩ := map_at hy
        refine ⟨rfl, .str z, rfl, _, hd2, small_line' ?_, same_put sm2 hD, ?_⟩
        · have e1 : (((parts r).take i).flatMap id).length + t.length ≤ (own r).length := by
            have e2 : own r = ((parts r).take i).flatMap id ++ ((parts r).drop i).flatMap id := by
              unfold own
              rw [← List.flatMap_append, List.take_append_drop]
            have e3 : (parts r).drop i = t :: (parts r).drop (i + 1) := by
              obtain ⟨hi, ei⟩ := List.getElem?_eq_some_iff.mp ht
              rw [← ei]
              exact List.drop_eq_getElem_cons hi
            rw [e2, e3, List.flatMap_cons, List.length_append, List.length_append]
            show _ + t.length ≤ _ + (t.length + _)
            omega
          rw [List.length_map, List.length_append, List.length_take]
          omega
        · rw [upd_same, take_snoc hz, ← List.append_assoc, List.map_append (f := V.str) (l₂ := [z])]
          rfl
      · obtain ⟨sm2, hd2⟩ := hI
        refine ⟨sm2, ?_⟩
        rw [List.length_map, List.take_length] at hd2
        rw [take_snoc ht, List.flatMap_append]
        have e : List.flatMap id [t] = t := by simp
        rw [e]
        exact hd2
    · obtain ⟨sm, hd⟩ := hI
      rw [xl, List.take_length] at hd
      exact q H1 _ sm ⟨D, rfl, hd⟩
def spNamesInW (K : PySem.W.Frag) : Sp := fun vs H Q _ => ∃ (x : V) (r : Rl), vs = [x] ∧ Dp K H x (rd r) ∧ IsR r ∧ ∀ H' v, Same H H' → Ws K H' v (own r) → Q v H'
theorem ok_namesInW (G : FnOk P w K mg base CX0 k f fd ["row"] (spNamesIn K)) : FnOk P w K mg base CX0 k f fd ["row"] (spNamesInW K) := G.imp fun vs H Q E ⟨x, r, e, hx, hr, q⟩ => ⟨x, r, e, hx, hr, fun H' v s h => q H' v s h.ws⟩
/-! ### _row_without -/
def lessR (r : Rl) (ms : W) : Rl := (minus r.1 ms, minus r.2.1 ms, minus r.2.2.1 ms, minus r.2.2.2 ms)
theorem parts_less (r : Rl) (ms : W) : parts (lessR r ms) = (parts r).map fun t => minus t ms := rfl
def spRowWithout (K : PySem.W.Frag) : Sp := fun vs H Q _ => ∃ (x y : V) (r : Rl) (ms : W), vs = [x, y] ∧ Dp K H x (rd r) ∧ IsR r ∧ Ws K H y ms ∧ ∀ H' v, Same H H' → Dp K H' v (rd (lessR r ms)) → Q v H'
theorem ok_rowWithout {f1 : Addr} {fd1 : FuncData} (F : Fun K "_row_without" "_row_without" sRowWithout f fd) (T : Bl mg) (G1 : FnOk P w K mg base CX0 k f1 fd1 ["names", "left_out"] (spWithout K)) (b1 : Binds K fd1 ["names", "left_out"] []) (k1 : PySem.W.keepIn K (.ref f1) = true) (m1 : mg "without" = some (.ref f1)) :
    FnOk P w K mg base CX0 (k + 1) f fd ["row", "names"] (spRowWithout K) := by
  refine F.ok scRowWithout (fun vs H Q E h => ?_) (fun cdv A outer s H vs Q E hr h => ?_)
  · obtain ⟨x, y, r, ms, rfl, _⟩ := h
    rfl
  obtain ⟨x, y, r, ms, rfl, hx, hr', hy, q⟩ := h
  refine ⟨_, pss_one (ps_ret (pe_callTy call_tuple_of (by rfl) T.tuple (by decide +kernel) (pa_cons (pe_lc (own := [("part", 2)]) (g := gName 2) (by rfl) scRowWithout.nd (pi_tup (pv 0)) (blkOk_by (N := ["row", "names", "part"]) (sc := defScope sRowWithout) (by decide +kernel))
        (fun _ _ _ _ _ => pg_name (i := 2) scRowWithout.nd rfl (Or.inl rfl)) (fun _ _ _ _ _ => pts_nil) (fun _ _ _ _ _ => pe_call G1 hr (by rfl) m1 k1 b1 .nil pass0 (pa_cons (pv 2) (pa_cons (pv 1) pa_nil)))) pa_nil))), ?_⟩
  unfold rd at hx
  cases hx with
  | @tup a xs _ hS hxs =>
    have xl : xs.length = (parts r).length := by rw [dpAll_len hxs, List.length_map]
    refine ⟨.ref a, rfl, a, rfl, ⟨_, hS⟩, fun D hD => ?_⟩
    refine lc_tup (xs := xs) (fun i H1 => Same H H1 ∧ ∃ zs, H1 D = some (.lst zs) ∧ DpAll K H1 zs ((((parts r).take i).map fun t => minus t ms).map wd)) ⟨same_new hD _, [], upd_same, .nil⟩ (fun i H1 _ hI => same_tup hI.1 hS) (fun i x H1 hxi hI => ?_) (fun H1 hI => ?_)
    · obtain ⟨sm, zs, hd, hzs⟩ := hI
      obtain ⟨d, hdi, hxd⟩ := dpAll_at' hxs hxi
      obtain ⟨t, ht, rfl⟩ := map_at hdi
      have wt := (hr'.all t (List.mem_of_getElem? ht)).few
      have il : i < 4 := (List.getElem?_eq_some_iff.mp ht).1
      refine ⟨rfl, x, rfl, y, rfl, x, y, t, ms, rfl, (Stay.same sm).wd hxd, hy.same sm, by omega, fun H2 v s2 hv => ?_⟩
      have hd2 := s2 _ _ hd
      have st : Stay H2 (upd H2 D (.lst (zs ++ [v]))) := .put (by rw [hd2]; exact True.intro) _
      refine ⟨zs, hd2, small_line' (by rw [dpAll_len hzs, List.length_map, List.length_map, List.length_take]; omega), same_put (sm.trans s2) hD, _, upd_same, ?_⟩
      rw [take_snoc ht, List.map_append, List.map_append]
      exact dpAll_app (((Stay.same s2).trans st).dpAll _ _ (okDs_wd _) hzs) (.cons (st.wd hv) .nil)
    · obtain ⟨sm, zs, hd, hzs⟩ := hI
      rw [xl, List.take_length, ← parts_less] at hzs
      refine ⟨D, zs, rfl, .inl ⟨SqL.of hd, fun l hl => ?_⟩⟩
      have sl := same_new hl (.tup zs)
      exact q _ _ (sm.trans sl) (.tup (SqT.of upd_same) ((Stay.same sl).dpAll _ _ (okDs_wd _) hzs))
end
end Rw
namespace Rw
open PySem PySem.Spec PyProof.Rows L2
theorem scAsked : FnScope ["row", "names", "_", "denied", "needs", "bars", "wanted", "name"] ["row", "names"] (defScope sAsked) := ⟨rfl, rfl, rfl, by decide +kernel, rfl, by decide +kernel, by decide +kernel⟩
theorem scIsAskedFor : FnScope ["asked", "world", "wanted", "unwanted"] ["asked", "world"] (defScope sIsAskedFor) := ⟨rfl, rfl, rfl, by decide +kernel, rfl, by decide +kernel, by decide +kernel⟩
theorem scENotProg : FnScope ["self", "thing"] ["self", "thing"] (defScope sENotProg) := ⟨rfl, rfl, rfl, by decide +kernel, rfl, by decide +kernel, by decide +kernel⟩
theorem scEWorld : FnScope ["self", "thing"] ["self", "thing"] (defScope sEWorld) := ⟨rfl, rfl, rfl, by decide +kernel, rfl, by decide +kernel, by decide +kernel⟩
theorem scESplit : FnScope ["self", "thing"] ["self", "thing"] (defScope sESplit) := ⟨rfl, rfl, rfl, by decide +kernel, rfl, by decide +kernel, by decide +kernel⟩
def inn (ns ms : W) : W := ns.filter fun z => decide (z ∈ ms)
theorem catA_w {K : PySem.W.Frag} {H : Hp} {a b : Addr} {xs ys : List V} {Q : VK} (ha : SqT K H a xs) (hb : SqT K H b ys) (hz : xs.length + ys.length ≤ sizeLine) (q : ∀ c H0, Same H H0 → SqT K H0 c (xs ++ ys) → Q (.ref c) H0) : rCatA K (.ref a) (.ref b) H Q := by
  refine ⟨a, b, xs, ys, rfl, rfl, ha, hb, hz, fun e => ?_, fun _ e => ?_, fun _ _ p hp => ?_⟩
  · subst e
    exact q b H (fun _ _ e => e) hb
  · subst e
    exact q a H (fun _ _ e => e) (by rw [List.append_nil]; exact ha)
  · exact q p _ (same_new hp _) (SqT.of upd_same)
section
variable {P : Program} {w : World} {K : PySem.W.Frag} {mg : Str → Option Value} {base : Heap} {f : Addr} {fd : FuncData} {k : Nat}
/-! ### _asked, _is_asked_for -/
def spAsked (K : PySem.W.Frag) : Sp := fun vs H Q _ => ∃ (x y : V) (r : Rl) (ms : W), vs = [x, y] ∧ Dp K H x (rd r) ∧ IsR r ∧ Ws K H y ms ∧ ∀ H' a v1 v2, Same H H' → SqT K H' a [v1, v2] → Dp K H' v1 (wd (inn (r.2.1 ++ r.2.2.1) ms)) → Dp K H' v2 (wd (inn r.2.2.2 ms)) → Q (.ref a) H'
theorem ok_asked (F : Fun K "_asked" "_asked" sAsked f fd) (T : Bl mg) : FnOk P w K mg base CX0 (k + 1) f fd ["row", "names"] (spAsked K) := by
  refine F.ok scAsked (fun vs H Q E h => ?_) (fun cdv A outer s H vs Q E hr h => ?_)
  · obtain ⟨x, y, r, ms, rfl, _⟩ := h
    rfl
  obtain ⟨x, y, r, ms, rfl, hx, hr', ⟨b, rfl, hT⟩, q⟩ := h
  obtain ⟨a, v1, v2, v3, v4, rfl, hS, h1, h2, h3, h4⟩ := of_rd hx
  refine ⟨_, pss_cons (ps_asg (pv 0) (pg_tup (by rfl) (pgs_cons (pg_name (i := 2) scAsked.nd rfl (.inl rfl)) (pgs_cons (pg_name (i := 3) scAsked.nd rfl (.inl rfl)) (pgs_cons (pg_name (i := 4) scAsked.nd rfl (.inl rfl)) (pgs_cons (pg_name (i := 5) scAsked.nd rfl (.inl rfl)) pgs_nil))))))
    (pss_cons (ps_setLc (i := 6) (own := [("name", 7)]) (g := gName 7) (by rfl) scAsked.nd rfl rfl (sw_true rfl rfl rfl (by decide +kernel)) (pi_tup (pe_op op_catA (pv 3) (pv 4))) (blkOk_by (N := ["row", "names", "_", "denied", "needs", "bars", "wanted", "name"]) (sc := defScope sAsked) (by decide +kernel))
        (fun _ _ _ _ _ => pg_name (i := 7) scAsked.nd rfl (Or.inl rfl)) (fun _ _ _ _ _ => pts_one (pt_cmpR (r := rIn K false) op_in_seq (pv 7) (pv 1) (by rfl))) (fun _ _ _ _ _ => pv 7))
    (pss_one (ps_ret (pe_tup (pa_cons (pe_callTy call_tuple_of (by rfl) T.tuple (by decide +kernel) (pa_cons (pv 6) pa_nil)) (pa_cons (pe_callTy call_tuple_of (by rfl) T.tuple (by decide +kernel) (pa_cons (pe_lc (own := [("name", 7)]) (g := gName 7) (by rfl) scAsked.nd (pi_tup (pv 5)) (blkOk_by (N := ["row", "names", "_", "denied", "needs", "bars", "wanted", "name"]) (sc := defScope sAsked) (by decide +kernel))
        (fun _ _ _ _ _ => pg_name (i := 7) scAsked.nd rfl (Or.inl rfl)) (fun _ _ _ _ _ => pts_one (pt_cmpR (r := rIn K false) op_in_seq (pv 7) (pv 1) (by rfl))) (fun _ _ _ _ _ => pv 7)) pa_nil)) pa_nil)))))), ?_⟩
  obtain ⟨a2, rfl, t2⟩ := of_wd h2
  obtain ⟨a3, rfl, t3⟩ := of_wd h3
  obtain ⟨a4, rfl, t4⟩ := of_wd h4
  have f2 := hr'.d.few
  have f3 := hr'.n.few
  have f4 := hr'.b.few
  refine ⟨.ref a, rfl, a, [v1, .ref a2, .ref a3, .ref a4], rfl, hS, rfl, v1, _, rfl, .ref a2, _, rfl, .ref a3, _, rfl, .ref a4, [], rfl, rfl, ?_⟩
  refine ⟨.ref a2, rfl, .ref a3, rfl, catA_w t2 t3 (small_line (by rw [List.length_map, List.length_map]; omega)) fun c H0 s0 hc0 => ?_⟩
  · have hc : SqT K H0 c ((r.2.1 ++ r.2.2.1).map V.str) := by
      rw [List.map_append]
      exact hc0
    refine ⟨c, rfl, ⟨_, hc⟩, fun D hD => ?_⟩
    refine lc_tup (xs := (r.2.1 ++ r.2.2.1).map V.str) (fun i H1 => Same H0 H1 ∧ H1 D = some (.lst (((((r.2.1 ++ r.2.2.1).take i).filter fun z => decide (z ∈ ms))).map V.str))) ⟨same_new hD _, upd_same⟩ (fun i H1 _ hI => same_tup hI.1 hc) (fun i x H1 hxi hI => ?_) (fun H1 hI => ?_)
    · obtain ⟨sm, hd⟩ := hI
      obtain ⟨z, hz, rfl⟩ := map_at hxi
      have sa := s0.trans sm
      refine ⟨rfl, .str z, rfl, .ref b, rfl, b, ms.map V.str, rfl, hT.elim (fun z => .inl (sa.seq z)) (fun z => .inr (same_tup sa z)), rfl, flat_strs ms, _, rfl, ?_⟩
      rw [inV_str]
      refine ite2 (fun e => ?_) (fun e => ?_)
      · refine ⟨.str z, rfl, _, hd, small_line' ?_, same_put sm hD, ?_⟩
        · rw [List.length_map]
          have := List.length_filter_le (fun z => decide (z ∈ ms)) ((r.2.1 ++ r.2.2.1).take i)
          rw [List.length_take, List.length_append] at this
          omega
        · rw [upd_same, filt_t hz (show decide (z ∈ ms) = true by simpa using e), List.map_append]
          rfl
      · refine ⟨sm, ?_⟩
        rw [filt_f hz (show decide (z ∈ ms) = false by simpa using e)]
        exact hd
    · obtain ⟨sm, hd⟩ := hI
      rw [List.length_map, List.take_length] at hd
      have sa := s0.trans sm
      -- tuple(wanted)
      refine ⟨.ref D, rfl, D, _, rfl, .inl ⟨SqL.of hd, fun t ht => ?_⟩⟩
      have st := same_new ht (.tup ((inn (r.2.1 ++ r.2.2.1) ms).map V.str))
      have sb := sa.trans st
      refine ⟨.ref a4, rfl, a4, rfl, ⟨_, same_tup sb t4⟩, fun D2 hD2 => ?_⟩
      refine lc_tup (xs := r.2.2.2.map V.str) (fun i H2 => Same _ H2 ∧ H2 D2 = some (.lst (((r.2.2.2.take i).filter fun z => decide (z ∈ ms)).map V.str))) ⟨same_new hD2 _, upd_same⟩ (fun i H2 _ hI => same_tup (sb.trans hI.1) t4) (fun i x H2 hxi hI => ?_) (fun H2 hI => ?_)
      · obtain ⟨sm2, hd2⟩ := hI
        obtain ⟨z, hz, rfl⟩ := map_at hxi
        have sc := sb.trans sm2
        refine ⟨rfl, .str z, rfl, .ref b, rfl, b, ms.map V.str, rfl, hT.elim (fun z => .inl (sc.seq z)) (fun z => .inr (same_tup sc z)), rfl, flat_strs ms, _, rfl, ?_⟩
        rw [inV_str]
        refine ite2 (fun e => ?_) (fun e => ?_)
        · refine ⟨.str z, rfl, _, hd2, small_line' ?_, same_put sm2 hD2, ?_⟩
          · rw [List.length_map]
            have := List.length_filter_le (fun z => decide (z ∈ ms)) (r.2.2.2.take i)
            rw [List.length_take] at this
            omega
          · rw [upd_same, filt_t hz (show decide (z ∈ ms) = true by simpa using e), List.map_append]
            rfl
        · refine ⟨sm2, ?_⟩
          rw [filt_f hz (show decide (z ∈ ms) = false by simpa using e)]
          exact hd2
      · obtain ⟨sm2, hd2⟩ := hI
        rw [List.length_map, List.take_length] at hd2
        refine ⟨D2, _, rfl, .inl ⟨SqL.of hd2, fun t2' ht2 => ?_⟩⟩
        have s3 := same_new ht2 (.tup ((inn r.2.2.2 ms).map V.str))
        refine ⟨by show 2 ≤ sizeLine; decide, fun t5 ht5 => ?_⟩
        have s4 := same_new ht5 (.tup [.ref t, .ref t2'])
        exact q _ t5 _ _ (sb.trans (sm2.trans (s3.trans s4))) (SqT.of upd_same) (to_wd (SqT.of ((sm2.trans (s3.trans s4)) _ _ upd_same))) (to_wd (SqT.of (s4 _ _ upd_same)))
def askedFor (r : Rl) (ms st : W) : Bool := sub (inn (r.2.1 ++ r.2.2.1) ms) st && !meets (inn r.2.2.2 ms) st
def spIsAskedFor (K : PySem.W.Frag) : Sp := fun vs H Q _ => ∃ (a : Addr) (v1 v2 y : V) (as bs st : W), vs = [.ref a, y] ∧ SqT K H a [v1, v2] ∧ Dp K H v1 (wd as) ∧ Dp K H v2 (wd bs) ∧ Ws K H y st ∧ as.length ≤ 1000 ∧ bs.length ≤ 1000 ∧ ∀ H', Same H H' → Q (.bl (sub as st && !meets bs st)) H'
theorem ok_isAskedFor {f1 f2 : Addr} {fd1 fd2 : FuncData} (F : Fun K "_is_asked_for" "_is_asked_for" sIsAskedFor f fd) (G1 : FnOk P w K mg base CX0 k f1 fd1 ["names", "wanted"] (spHasAll K)) (b1 : Binds K fd1 ["names", "wanted"] []) (k1 : PySem.W.keepIn K (.ref f1) = true) (m1 : mg "has_all" = some (.ref f1))
    (G2 : FnOk P w K mg base CX0 k f2 fd2 ["one", "other"] (spMeet K)) (b2 : Binds K fd2 ["one", "other"] []) (k2 : PySem.W.keepIn K (.ref f2) = true) (m2 : mg "meet" = some (.ref f2)) : FnOk P w K mg base CX0 (k + 1) f fd ["asked", "world"] (spIsAskedFor K) := by
  refine F.ok scIsAskedFor (fun vs H Q E h => ?_) (fun cdv A outer s H vs Q E hr h => ?_)
  · obtain ⟨a, v1, v2, y, as, bs, st, rfl, _⟩ := h
    rfl
  obtain ⟨a, v1, v2, y, as, bs, st, rfl, hS, h1, h2, hy, l1, l2, q⟩ := h
  refine ⟨_, pss_cons (ps_asg (pv 0) (pg_tup (by rfl) (pgs_cons (pg_name (i := 2) scIsAskedFor.nd rfl (.inl rfl)) (pgs_cons (pg_name (i := 3) scIsAskedFor.nd rfl (.inl rfl)) pgs_nil))))
    (pss_one (ps_ret (pe_and (pe_call G1 hr (by rfl) m1 k1 b1 .nil pass0 (pa_cons (pv 1) (pa_cons (pv 2) pa_nil))) (pe_one (pe_not (pe_call G2 hr (by rfl) m2 k2 b2 .nil pass0 (pa_cons (pv 3) (pa_cons (pv 1) pa_nil)))))))), ?_⟩
  refine ⟨.ref a, rfl, a, [v1, v2], rfl, hS, rfl, v1, [v2], rfl, v2, [], rfl, rfl, ?_⟩
  refine ⟨y, rfl, v1, rfl, y, v1, st, as, rfl, hy, .wd h1, l1, fun H1 s1 => ⟨_, rfl, ite2 (fun e => ?_) (fun e => ?_)⟩⟩
  · rw [e] at q
    exact ⟨v2, rfl, y, rfl, v2, y, bs, st, rfl, (Stay.same s1).wd h2, hy.same s1, l2, fun H2 s2 => ⟨_, rfl, q H2 (s1.trans s2)⟩⟩
  · have e' : sub as st = false := by simpa using e
    rw [e'] at q
    exact q H1 s1
/-! ### the errors -/
theorem ok_eNotProg {C : Addr} (F : FunD K "__init__" "NotAProgram.__init__" (defArgs sENotProg) (defBody sENotProg) (defScope sENotProg) [.non] [] f fd) (O : OexC K C) (no : PySem.W.findIn K (.ref C) "thing" = some none) : FnOk P w K mg base CX0 (k + 1) f fd ["self", "thing"] (spErr C "thing") := by
  refine F.ok scENotProg (fun vs H Q E h => ?_) (fun cdv A outer s H vs Q E hr h => ?_)
  · obtain ⟨a, v, rfl, _⟩ := h
    rfl
  obtain ⟨a, v, rfl, ha, q⟩ := h
  exact ⟨_, PSs.nox (pss_one (ps_ost (pv 0) (pv 1))), v, rfl, .ref a, rfl, a, C, rfl, O, no, .inl ⟨ha, fun dx h1 h2 => q dx h1 h2⟩⟩
theorem ok_eWorld {C : Addr} (F : FunD K "__init__" "InvalidWorld.__init__" (defArgs sEWorld) (defBody sEWorld) (defScope sEWorld) [.non] [] f fd) (O : OexC K C) (no : PySem.W.findIn K (.ref C) "thing" = some none) : FnOk P w K mg base CX0 (k + 1) f fd ["self", "thing"] (spErr C "thing") := by
  refine F.ok scEWorld (fun vs H Q E h => ?_) (fun cdv A outer s H vs Q E hr h => ?_)
  · obtain ⟨a, v, rfl, _⟩ := h
    rfl
  obtain ⟨a, v, rfl, ha, q⟩ := h
  exact ⟨_, PSs.nox (pss_one (ps_ost (pv 0) (pv 1))), v, rfl, .ref a, rfl, a, C, rfl, O, no, .inl ⟨ha, fun dx h1 h2 => q dx h1 h2⟩⟩
theorem ok_eSplit {C : Addr} (F : FunD K "__init__" "NotASplit.__init__" (defArgs sESplit) (defBody sESplit) (defScope sESplit) [.non] [] f fd) (O : OexC K C) (no : PySem.W.findIn K (.ref C) "thing" = some none) : FnOk P w K mg base CX0 (k + 1) f fd ["self", "thing"] (spErr C "thing") := by
  refine F.ok scESplit (fun vs H Q E h => ?_) (fun cdv A outer s H vs Q E hr h => ?_)
  · obtain ⟨a, v, rfl, _⟩ := h
    rfl
  obtain ⟨a, v, rfl, ha, q⟩ := h
  exact ⟨_, PSs.nox (pss_one (ps_ost (pv 0) (pv 1))), v, rfl, .ref a, rfl, a, C, rfl, O, no, .inl ⟨ha, fun dx h1 h2 => q dx h1 h2⟩⟩
end
end Rw
namespace Rw
open PySem PySem.Spec PyProof.Rows L2
/-! ### refusals -/
theorem scCheckProgram : FnScope ["thing"] ["thing"] (defScope sCheckProgram) := ⟨rfl, rfl, rfl, by decide +kernel, rfl, by decide +kernel, by decide +kernel⟩
theorem scCheckWorld : FnScope ["thing"] ["thing"] (defScope sCheckWorld) := ⟨rfl, rfl, rfl, by decide +kernel, rfl, by decide +kernel, by decide +kernel⟩
/-- what the text's own error class with one field is -/
structure ErrT (P : Program) (w : World) (K : PySem.W.Frag) (mg : Str → Option Value) (base : Heap) (k : Nat) (x : Str) (n : Str) (C : Addr) : Prop where
  oex : OexC K C
  ex : ∃ (fI : Addr) (fd : FuncData), PySem.W.findIn K (.ref C) "__init__" = some (some (.ref fI)) ∧ PySem.W.typeIn K (.ref fI) = some (.type "function") ∧ FnOk P w K mg base CX0 k fI fd ["self", n] (spErr C n) ∧ Binds K fd ["self", n] []
  m : mg x = some (.ref C)
/-- what a program's class says of what is no program -/
structure PgC (K : PySem.W.Frag) (mg : Str → Option Value) (C : Addr) : Prop where
  yes : PySem.W.kitOne K (.ref C) (.ref C) = some true
  non : PySem.W.kitOne K (.type "NoneType") (.ref C) = some false
  bool : PySem.W.kitOne K (.type "bool") (.ref C) = some false
  int : PySem.W.kitOne K (.type "int") (.ref C) = some false
  str : PySem.W.kitOne K (.type "str") (.ref C) = some false
  list : PySem.W.kitOne K (.type "list") (.ref C) = some false
  tuple : PySem.W.kitOne K (.type "tuple") (.ref C) = some false
  dict : PySem.W.kitOne K (.type "dict") (.ref C) = some false
  m : mg "Program" = some (.ref C)
  cls : Cls K C
  cg : PySem.W.findIn K (.ref C) "__class__" = some (some (.builtin "object.__class__"))
  sp : PySem.W.specialIn K (.builtin "object.__class__") "__get__" = some (some (.builtin "getset_descriptor.__get__"))
  tk : PySem.W.takesIn K (.builtin "object.__class__") = some true
  mro : PySem.W.mroIn K C (.type "object") = some true
section
variable {P : Program} {w : World} {K : PySem.W.Frag} {mg : Str → Option Value} {base : Heap} {f : Addr} {fd : FuncData} {k : Nat}
theorem PgC.odd {C : Addr} (T : PgC K mg C) : ∀ d : PyData, PySem.W.kitOne K (.type (tyName d)) (.ref C) = some false
  | .none => T.non
  | .bool _ => T.bool
  | .int _ => T.int
  | .str _ => T.str
  | .list _ => T.list
  | .tuple _ => T.tuple
  | .dict _ => T.dict
def spCheckProgram (K : PySem.W.Frag) (C CE : Addr) : Sp := fun vs H Q E => ∃ v : V, vs = [v] ∧ ((∃ S, PgAt K C H v S ∧ Q .non H) ∨ (∃ d, Dp K H v d ∧ ∀ dx, H dx = none → E (.ref CE) (some dx) (upd H dx (.xd [(("thing" : Str), v)]))))
theorem ok_checkProgram {C CE : Addr} (F : Fun K "check_program" "check_program" sCheckProgram f fd) (T : Bl mg) (G : PgC K mg C) (X : ErrT P w K mg base k "NotAProgram" "thing" CE) : FnOk P w K mg base (L2.CX P w) (k + 2) f fd ["thing"] (spCheckProgram K C CE) := by
  obtain ⟨fI, fdI, i1, i2, i3, i4⟩ := X.ex
  refine F.okX scCheckProgram (fun vs H Q E h => ?_) (fun cdv A outer s H vs Q E hr h => ?_)
  · obtain ⟨v, rfl, _⟩ := h
    rfl
  obtain ⟨v, rfl, h⟩ := h
  refine ⟨_, pss_one (ps_if (pt_not (pt_val (pe_callB call_isi (by rfl) T.isi PyProof.Rows.boot_isinstance (pa_cons (pv 0) (pa_cons (pe_glob (v := .ref C) (by rfl) G.m rfl) pa_nil)))))
    (pss_one (ps_raise rfl (takes_of rfl rfl rfl rfl) (pmk_oex X.oex i1 i2 i3 hr i4 .nil pass0 (by rfl) X.m (pa_cons (pv 0) pa_nil)))) pss_nil), ?_⟩
  rcases h with ⟨S, hS, q⟩ | ⟨d, hd, q⟩
  · obtain ⟨a, dx, t, ys, rfl, h1, h2, h3⟩ := hS
    exact ⟨.ref a, rfl, .ref a, .ref C, .ref C, .ref C, true, rfl, .own C, .base (.ins h1 G.cls G.cg G.sp G.tk G.mro), G.yes, true, rfl, iteF q⟩
  · exact ⟨v, rfl, v, .ref C, .type (tyName d), .ref C, false, rfl, .own C, tyx_dp hd, G.odd d, false, rfl, iteT ⟨v, rfl, err_made q⟩⟩
def spCheckWorld (K : PySem.W.Frag) (CE : Addr) : Sp := fun vs H Q E => ∃ (v : V) (d : PyData), vs = [v] ∧ Dp K H v d ∧ oddW d ∧ ∀ H', Same H H' → (worldD d = true → Q .non H') ∧ (worldD d = false → ∀ dx, H' dx = none → E (.ref CE) (some dx) (upd H' dx (.xd [(("thing" : Str), v)])))
theorem ok_checkWorld {f1 CE : Addr} {fd1 : FuncData} (F : Fun K "check_world" "check_world" sCheckWorld f fd) (G1 : FnOk P w K mg base CX0 (k + 1) f1 fd1 ["thing"] (spIsWorld K)) (b1 : Binds K fd1 ["thing"] []) (k1 : PySem.W.keepIn K (.ref f1) = true) (m1 : mg "is_world" = some (.ref f1)) (X : ErrT P w K mg base k "InvalidWorld" "thing" CE) :
    FnOk P w K mg base (L2.CX P w) (k + 2) f fd ["thing"] (spCheckWorld K CE) := by
  obtain ⟨fI, fdI, i1, i2, i3, i4⟩ := X.ex
  refine F.okX scCheckWorld (fun vs H Q E h => ?_) (fun cdv A outer s H vs Q E hr h => ?_)
  · obtain ⟨v, d, rfl, _⟩ := h
    rfl
  obtain ⟨v, d, rfl, hd, odd, q⟩ := h
  refine ⟨_, pss_one (ps_if (pt_not (pt_val (pe_call G1 hr (by rfl) m1 k1 b1 .nil pass0 (pa_cons (pv 0) pa_nil))))
    (pss_one (ps_raise rfl (takes_of rfl rfl rfl rfl) (pmk_oex X.oex i1 i2 i3 hr i4 .nil pass0 (by rfl) X.m (pa_cons (pv 0) pa_nil)))) pss_nil), ?_⟩
  refine ⟨v, rfl, v, d, rfl, hd, odd, fun H1 s1 => ⟨_, rfl, ?_⟩⟩
  cases e : worldD d with
  | true => exact iteF ((q H1 s1).1 e)
  | false => exact iteT ⟨v, rfl, err_made ((q H1 s1).2 e)⟩
end
end Rw
namespace Rw
open PySem PySem.Spec PyProof.Rows L2
/-! ### splits, _check_split -/
theorem scSplits : FnScope ["program", "names", "row"] ["program", "names"] (defScope sSplits) := ⟨rfl, rfl, rfl, by decide +kernel, rfl, by decide +kernel, by decide +kernel⟩
theorem scCheckSplit : FnScope ["program", "names"] ["program", "names"] (defScope sCheckSplit) := ⟨rfl, rfl, rfl, by decide +kernel, rfl, by decide +kernel, by decide +kernel⟩
def splitR (r : Rl) (ns : W) : Bool := !(meets r.1 ns) || sub (own r) ns
def splitsB (S : List Rl) (ns : W) : Bool := S.all fun r => splitR r ns
theorem all_take {α : Type} {p : α → Bool} {S : List α} {i : Nat} {r : α} (hr : S[i]? = some r) (h : (S.take i).all p = true) (b : p r = true) : (S.take (i + 1)).all p = true := by
  rw [take_snoc hr, List.all_append, h]
  simp [b]
theorem all_no {α : Type} {p : α → Bool} {S : List α} {i : Nat} {r : α} (hr : S[i]? = some r) (b : p r = false) : S.all p = false := by
  rw [List.all_eq_false]
  exact ⟨r, List.mem_of_getElem? hr, by simp [b]⟩
section
variable {P : Program} {w : World} {K : PySem.W.Frag} {mg : Str → Option Value} {base : Heap} {f : Addr} {fd : FuncData} {k : Nat}
def spSplits (K : PySem.W.Frag) (C CP CW : Addr) : Sp := fun vs H Q E => ∃ v nm : V, vs = [v, nm] ∧ ((∃ (S : List Rl) (d : PyData), PgAt K C H v S ∧ (∀ r ∈ S, IsR r) ∧ S.length < 76 ∧ Dp K H nm d ∧ oddW d ∧ ∀ H', Same H H' → (∀ ns, IsW ns → d = wd ns → Q (.bl (splitsB S ns)) H') ∧ (worldD d = false → ∀ dx, H' dx = none → E (.ref CW) (some dx) (upd H' dx (.xd [(("thing" : Str), nm)])))) ∨
  (∃ d, Dp K H v d ∧ ∀ dx, H dx = none → E (.ref CP) (some dx) (upd H dx (.xd [(("thing" : Str), v)]))))
theorem ok_splits {C CP CW pr f1 f2 f3 f4 f5 f6 : Addr} {fd1 fd2 fd3 fd4 fd5 fd6 : FuncData} (F : Fun K "splits" "splits" sSplits f fd) (c : Cls K C) (hp : PropOf K C "rules" pr f3)
    (G1 : FnOk P w K mg base (L2.CX P w) (k + 1) f1 fd1 ["thing"] (spCheckProgram K C CP)) (b1 : Binds K fd1 ["thing"] []) (k1 : PySem.W.keepIn K (.ref f1) = true) (m1 : mg "check_program" = some (.ref f1))
    (G2 : FnOk P w K mg base (L2.CX P w) (k + 1) f2 fd2 ["thing"] (spCheckWorld K CW)) (b2 : Binds K fd2 ["thing"] []) (k2 : PySem.W.keepIn K (.ref f2) = true) (m2 : mg "check_world" = some (.ref f2))
    (G3 : FnOk P w K mg base CX0 k f3 fd3 ["self"] (spRules K C)) (b3 : Binds K fd3 ["self"] [])
    (G4 : FnOk P w K mg base CX0 (k + 1) f4 fd4 ["one", "other"] (spMeet K)) (b4 : Binds K fd4 ["one", "other"] []) (k4 : PySem.W.keepIn K (.ref f4) = true) (m4 : mg "meet" = some (.ref f4))
    (G5 : FnOk P w K mg base CX0 (k + 1) f5 fd5 ["names", "wanted"] (spHasAll K)) (b5 : Binds K fd5 ["names", "wanted"] []) (k5 : PySem.W.keepIn K (.ref f5) = true) (m5 : mg "has_all" = some (.ref f5))
    (G6 : FnOk P w K mg base CX0 (k + 1) f6 fd6 ["row"] (spNamesInW K)) (b6 : Binds K fd6 ["row"] []) (k6 : PySem.W.keepIn K (.ref f6) = true) (m6 : mg "_names_in" = some (.ref f6)) :
    FnOk P w K mg base (L2.CX P w) (k + 2) f fd ["program", "names"] (spSplits K C CP CW) := by
  refine F.okX scSplits (fun vs H Q E h => ?_) (fun cdv A outer s H vs Q E hr h => ?_)
  · obtain ⟨v, nm, rfl, _⟩ := h
    rfl
  obtain ⟨v, nm, rfl, h⟩ := h
  refine ⟨_, pss_cons (ps_expr (pe_call G1 hr (by rfl) m1 k1 b1 .nil (passes_call (takes_of rfl rfl rfl rfl) (fun _ _ _ _ h => h)) (pa_cons (pv 0) pa_nil)))
    (pss_cons (ps_expr (pe_call G2 hr (by rfl) m2 k2 b2 .nil (passes_call (takes_of rfl rfl rfl rfl) (fun _ _ _ _ h => h)) (pa_cons (pv 1) pa_nil)))
    (pss_cons (ps_for (passes_of rfl) rfl (pi_tup (pe_prop (pv 0) c hp G3 hr b3 .nil pass0 rfl)) (pg_name (i := 2) scSplits.nd rfl (.inl rfl))
      (pss_one (ps_if (PW.pt (pw_and (pt_val (pe_call G4 hr (by rfl) m4 k4 b4 .nil pass0 (pa_cons (pe_ix ix_tup (pv 2) pe_int (fun _ _ => rfl)) (pa_cons (pv 1) pa_nil)))) (pw_and1 (pt_not (pt_val (pe_call G5 hr (by rfl) m5 k5 b5 .nil pass0 (pa_cons (pv 1) (pa_cons (pe_call G6 hr (by rfl) m6 k6 b6 .nil pass0 (pa_cons (pv 2) pa_nil)) pa_nil))))))))
        (pss_one (ps_ret pe_bl)) pss_nil)))
    (pss_one (ps_ret pe_bl)))), ?_⟩
  rcases h with ⟨S, d, hS, hI, few, hd, odd, q⟩ | ⟨d, hd, q⟩
  · refine ⟨v, rfl, v, rfl, .inl ⟨S, hS, ?_⟩⟩
    refine ⟨nm, rfl, nm, d, rfl, hd, odd, fun H1 s1 => ⟨fun e => ?_, (q H1 s1).2⟩⟩
    obtain ⟨ns, hn, rfl⟩ := worldD_of odd e
    have hS1 := hS.same s1
    obtain ⟨a, dx, t0, ys0, rfl, i1, i2, i3⟩ := id hS1
    refine ⟨.ref a, rfl, a, dx, _, rfl, i1, .ref a, S, rfl, hS1, fun t ys ht hys => ?_⟩
    have yl : ys.length = S.length := by rw [dpAll_len hys, List.length_map]
    refine ⟨t, rfl, ⟨_, ht⟩, ?_⟩
    refine for_tup (xs := ys) (fun i σ H2 => (∃ y2, σ = [some (.ref a), some nm, y2]) ∧ Same H1 H2 ∧ (S.take i).all (fun r => splitR r ns) = true) ⟨⟨none, rfl⟩, fun _ _ e => e, rfl⟩ (fun i σ H2 _ hI2 => same_tup hI2.2.1 ht) (fun i x σ H2 hx hI2 => ?_) (fun σ H2 hI2 => ?_)
    · obtain ⟨⟨y2, rfl⟩, sm, hall⟩ := hI2
      obtain ⟨dd, hdd, hxd⟩ := dpAll_at' hys hx
      obtain ⟨r, hr0, rfl⟩ := map_at hdd
      have hr' := hI r (List.mem_of_getElem? hr0)
      have hxd2 := dp_same sm _ _ hxd
      obtain ⟨b, v1, v2, v3, v4, rfl, hT, h1, _⟩ := of_rd hxd2
      refine ⟨.ref b, rfl, b, [v1, v2, v3, v4], 0, v1, rfl, rfl, hT, rfl, ?_⟩
      have hn2 := dp_same (s1.trans sm) _ _ hd
      have f1' := hr'.h.few
      refine ⟨nm, rfl, v1, nm, r.1, ns, rfl, h1, .wd hn2, by omega, fun H3 s3 => ⟨_, rfl, ite2 (fun e1 => ?_) (fun e1 => ?_)⟩⟩
      · have lim := own_len hr'
        refine ⟨nm, rfl, .ref b, rfl, .ref b, r, rfl, dp_same s3 _ _ hxd2, hr', fun H4 v5 s4 h5 => ?_⟩
        refine ⟨nm, v5, ns, own r, rfl, .wd (dp_same (s3.trans s4) _ _ hn2), h5, by omega, fun H5 s5 => ⟨_, rfl, ?_⟩⟩
        have all5 := s3.trans (s4.trans s5)
        cases e2 : sub (own r) ns with
        | true => exact iteF ⟨⟨_, rfl⟩, sm.trans all5, all_take hr0 hall (by show (!(meets r.1 ns) || sub (own r) ns) = true; rw [e2, Bool.or_true])⟩
        | false =>
          refine iteT ?_
          have z := (q H5 (s1.trans (sm.trans all5))).1 ns hn rfl
          rw [show splitsB S ns = false from all_no hr0 (by show (!(meets r.1 ns) || sub (own r) ns) = false; rw [e1, e2]; rfl)] at z
          exact z
      · have e1' : meets r.1 ns = false := by simpa using e1
        exact iteF ⟨⟨_, rfl⟩, sm.trans s3, all_take hr0 hall (by show (!(meets r.1 ns) || sub (own r) ns) = true; rw [e1']; rfl)⟩
    · obtain ⟨_, sm, hall⟩ := hI2
      rw [yl, List.take_length] at hall
      have z := (q H2 (s1.trans sm)).1 ns hn rfl
      rw [show splitsB S ns = true from hall] at z
      exact z
  · exact ⟨v, rfl, v, rfl, .inr ⟨d, hd, q⟩⟩
end
end Rw
namespace Rw
open PySem PySem.Spec PyProof.Rows L2
/-! ### _check_split, lower -/
theorem scLower : FnScope ["program", "names", "rows", "row"] ["program", "names"] (defScope sLower) := ⟨rfl, rfl, rfl, by decide +kernel, rfl, by decide +kernel, by decide +kernel⟩
theorem scRest : FnScope ["program", "names", "world", "upper", "rows", "row"] ["program", "names", "world"] (defScope sRest) := ⟨rfl, rfl, rfl, by decide +kernel, rfl, by decide +kernel, by decide +kernel⟩
def lowerL (S : List Rl) (ns : W) : List Rl := S.filter fun r => sub (own r) ns
/-- what is asked where a program is to be split; R is what holds when it is -/
def SpX (K : PySem.W.Frag) (C CP CW CS : Addr) (v nm : V) (H : Hp) (E : XK) (R : List Rl → W → Hp → Prop) : Prop :=
  (∃ (S : List Rl) (d : PyData), PgAt K C H v S ∧ (∀ r ∈ S, IsR r) ∧ S.length < 76 ∧ Dp K H nm d ∧ oddW d ∧ ∀ H', Same H H' → (∀ ns, IsW ns → d = wd ns → (splitsB S ns = true → R S ns H') ∧ (splitsB S ns = false → ∀ dx, H' dx = none → E (.ref CS) (some dx) (upd H' dx (.xd [(("thing" : Str), nm)])))) ∧
    (worldD d = false → ∀ dx, H' dx = none → E (.ref CW) (some dx) (upd H' dx (.xd [(("thing" : Str), nm)])))) ∨
  (∃ d, Dp K H v d ∧ ∀ dx, H dx = none → E (.ref CP) (some dx) (upd H dx (.xd [(("thing" : Str), v)])))
theorem SpX.mono {K : PySem.W.Frag} {C CP CW CS : Addr} {v nm : V} {H : Hp} {E : XK} {R R' : List Rl → W → Hp → Prop} (h : SpX K C CP CW CS v nm H E R) (m : ∀ S ns H' d, PgAt K C H v S → (∀ r ∈ S, IsR r) → S.length < 76 → Dp K H nm d → d = wd ns → IsW ns → Same H H' → R S ns H' → R' S ns H') : SpX K C CP CW CS v nm H E R' := by
  rcases h with ⟨S, d, h1, h2, h3, h4, h5, h6⟩ | h
  · exact .inl ⟨S, d, h1, h2, h3, h4, h5, fun H' s => ⟨fun ns hn e => ⟨fun b => m S ns H' d h1 h2 h3 h4 e hn s (((h6 H' s).1 ns hn e).1 b), ((h6 H' s).1 ns hn e).2⟩, (h6 H' s).2⟩⟩
  · exact .inr h
section
variable {P : Program} {w : World} {K : PySem.W.Frag} {mg : Str → Option Value} {base : Heap} {f : Addr} {fd : FuncData} {k : Nat}
def spCheckSplit (K : PySem.W.Frag) (C CP CW CS : Addr) : Sp := fun vs H Q E => ∃ v nm : V, vs = [v, nm] ∧ SpX K C CP CW CS v nm H E fun _ _ H' => Q .non H'
theorem ok_checkSplit {C CP CW CS f1 : Addr} {fd1 : FuncData} (F : Fun K "_check_split" "_check_split" sCheckSplit f fd)
    (G1 : FnOk P w K mg base (L2.CX P w) (k + 1) f1 fd1 ["program", "names"] (spSplits K C CP CW)) (b1 : Binds K fd1 ["program", "names"] []) (k1 : PySem.W.keepIn K (.ref f1) = true) (m1 : mg "splits" = some (.ref f1)) (X : ErrT P w K mg base k "NotASplit" "thing" CS) :
    FnOk P w K mg base (L2.CX P w) (k + 2) f fd ["program", "names"] (spCheckSplit K C CP CW CS) := by
  obtain ⟨fI, fdI, i1, i2, i3, i4⟩ := X.ex
  refine F.okX scCheckSplit (fun vs H Q E h => ?_) (fun cdv A outer s H vs Q E hr h => ?_)
  · obtain ⟨v, nm, rfl, _⟩ := h
    rfl
  obtain ⟨v, nm, rfl, h⟩ := h
  refine ⟨_, pss_one (ps_if (pt_not (pt_val (pe_call G1 hr (by rfl) m1 k1 b1 .nil (passes_call (takes_of rfl rfl rfl rfl) (fun _ _ _ _ h => h)) (pa_cons (pv 0) (pa_cons (pv 1) pa_nil)))))
    (pss_one (ps_raise rfl (takes_of rfl rfl rfl rfl) (pmk_oex X.oex i1 i2 i3 hr i4 .nil pass0 (by rfl) X.m (pa_cons (pv 1) pa_nil)))) pss_nil), ?_⟩
  rcases h with ⟨S, d, hS, hI, few, hd, odd, q⟩ | ⟨d, hd, q⟩
  · refine ⟨v, rfl, nm, rfl, v, nm, rfl, .inl ⟨S, d, hS, hI, few, hd, odd, fun H1 s1 => ⟨fun ns hn e => ⟨_, rfl, ?_⟩, (q H1 s1).2⟩⟩⟩
    cases e2 : splitsB S ns with
    | true => exact iteF (((q H1 s1).1 ns hn e).1 e2)
    | false => exact iteT ⟨nm, rfl, err_made (((q H1 s1).1 ns hn e).2 e2)⟩
  · exact ⟨v, rfl, nm, rfl, v, nm, rfl, .inr ⟨d, hd, q⟩⟩
def spLower (K : PySem.W.Frag) (C CP CW CS : Addr) : Sp := fun vs H Q E => ∃ v nm : V, vs = [v, nm] ∧ SpX K C CP CW CS v nm H E fun S ns H' => ∀ H2 u S2, Same H' H2 → Srt S2 (lowerL S ns) → S2.length < 76 → PgAt K C H2 u S2 → Q u H2
theorem ok_lower {C CP CW CS pr f1 f3 f5 f6 fI : Addr} {fd1 fd3 fd5 fd6 : FuncData} (F : Fun K "lower" "lower" sLower f fd) (c : Cls K C) (hp : PropOf K C "rules" pr f3) (M : Mk K C fI) (GI : FnR P w K mg base CX0 k fI (spInit K C)) (mC : mg "Program" = some (.ref C))
    (G1 : FnOk P w K mg base (L2.CX P w) (k + 1) f1 fd1 ["program", "names"] (spCheckSplit K C CP CW CS)) (b1 : Binds K fd1 ["program", "names"] []) (k1 : PySem.W.keepIn K (.ref f1) = true) (m1 : mg "_check_split" = some (.ref f1))
    (G3 : FnOk P w K mg base CX0 k f3 fd3 ["self"] (spRules K C)) (b3 : Binds K fd3 ["self"] [])
    (G5 : FnOk P w K mg base CX0 (k + 1) f5 fd5 ["names", "wanted"] (spHasAll K)) (b5 : Binds K fd5 ["names", "wanted"] []) (k5 : PySem.W.keepIn K (.ref f5) = true) (m5 : mg "has_all" = some (.ref f5))
    (G6 : FnOk P w K mg base CX0 (k + 1) f6 fd6 ["row"] (spNamesInW K)) (b6 : Binds K fd6 ["row"] []) (k6 : PySem.W.keepIn K (.ref f6) = true) (m6 : mg "_names_in" = some (.ref f6)) :
    FnOk P w K mg base (L2.CX P w) (k + 2) f fd ["program", "names"] (spLower K C CP CW CS) := by
  refine F.okX scLower (fun vs H Q E h => ?_) (fun cdv A outer s H vs Q E hr h => ?_)
  · obtain ⟨v, nm, rfl, _⟩ := h
    rfl
  obtain ⟨v, nm, rfl, h⟩ := h
  refine ⟨_, pss_cons (ps_expr (pe_call G1 hr (by rfl) m1 k1 b1 .nil (passes_call (takes_of rfl rfl rfl rfl) (fun _ _ _ _ h => h)) (pa_cons (pv 0) (pa_cons (pv 1) pa_nil))))
    (PSs.nox (pss_cons (ps_setLc (i := 2) (own := [("row", 3)]) (g := gName 3) (by rfl) scLower.nd rfl rfl (sw_true rfl rfl rfl (by decide +kernel)) (pi_tup (pe_prop (pv 0) c hp G3 hr b3 .nil pass0 rfl)) (blkOk_by (N := ["program", "names", "rows", "row"]) (sc := defScope sLower) (by decide +kernel))
        (fun _ _ _ _ _ => pg_name (i := 3) scLower.nd rfl (Or.inl rfl)) (fun _ _ _ _ _ => pts_one (pt_val (pe_call G5 hr (by rfl) m5 k5 b5 .nil pass0 (pa_cons (pv 1) (pa_cons (pe_call G6 hr (by rfl) m6 k6 b6 .nil pass0 (pa_cons (pv 3) pa_nil)) pa_nil))))) (fun _ _ _ _ _ => pv 3))
    (pss_one (ps_ret (pe_makeS M GI hr (by rfl) mC pass0 (pv 2)))))), ?_⟩
  refine ⟨v, rfl, nm, rfl, v, nm, rfl, h.mono fun S ns H1 d hS hI few hd ed hn s1 q => ?_⟩
  subst ed
  have hS1 := hS.same s1
  obtain ⟨a, dx, t0, ys0, rfl, i1, i2, i3⟩ := id hS1
  refine ⟨.ref a, rfl, a, dx, _, rfl, i1, .ref a, S, rfl, hS1, fun t ys ht hys => ?_⟩
  have yl : ys.length = S.length := by rw [dpAll_len hys, List.length_map]
  refine ⟨t, rfl, ⟨_, ht⟩, fun D hD => ?_⟩
  refine lc_tup (xs := ys) (fun i H2 => Same H1 H2 ∧ ∃ zs, H2 D = some (.lst zs) ∧ DpAll K H2 zs (((S.take i).filter fun r => sub (own r) ns).map rd)) ⟨same_new hD _, [], upd_same, .nil⟩ (fun i H2 _ hI2 => same_tup hI2.1 ht) (fun i x H2 hx hI2 => ?_) (fun H2 hI2 => ?_)
  · obtain ⟨sm, zs, hz, hzs⟩ := hI2
    obtain ⟨dd, hdd, hxd⟩ := dpAll_at' hys hx
    obtain ⟨r, hr0, rfl⟩ := map_at hdd
    have hr' := hI r (List.mem_of_getElem? hr0)
    have hxd2 := dp_same sm _ _ hxd
    have hn2 := dp_same (s1.trans sm) _ _ hd
    have lim := own_len hr'
    have il : i < S.length := (List.getElem?_eq_some_iff.mp hr0).1
    refine ⟨rfl, nm, rfl, x, rfl, x, r, rfl, hxd2, hr', fun H3 v5 s3 h5 => ?_⟩
    refine ⟨nm, v5, ns, own r, rfl, .wd (dp_same s3 _ _ hn2), h5, by omega, fun H4 s4 => ⟨_, rfl, ?_⟩⟩
    have s34 := s3.trans s4
    have hz4 := s34 _ _ hz
    have hzs4 := (Stay.same s34).dpAll _ _ (okDs_rd _) hzs
    refine ite2 (fun e => ?_) (fun e => ?_)
    · have st : Stay H4 (upd H4 D (.lst (zs ++ [x]))) := .put (by rw [hz4]; exact True.intro) _
      refine ⟨x, rfl, zs, hz4, small_line' ?_, same_put (sm.trans s34) hD, _, upd_same, ?_⟩
      · rw [dpAll_len hzs, List.length_map]
        have := List.length_filter_le (fun r => sub (own r) ns) (S.take i)
        rw [List.length_take] at this
        omega
      · rw [filt_t hr0 e, List.map_append]
        exact dpAll_app (st.dpAll _ _ (okDs_rd _) hzs4) (.cons (st.dp _ _ (ok_rd r) (dp_same s34 _ _ hxd2)) .nil)
    · refine ⟨sm.trans s34, zs, hz4, ?_⟩
      rw [filt_f hr0 (by simpa using e)]
      exact hzs4
  · obtain ⟨sm, zs, hz, hzs⟩ := hI2
    rw [yl, List.take_length] at hzs
    have fl : (lowerL S ns).length < 76 := Nat.lt_of_le_of_lt (List.length_filter_le _ _) few
    exact ⟨.ref D, rfl, D, zs, rfl, .inr (SqL.of hz), made_ok hzs (fun r hr => hI r (List.mem_filter.mp hr).1) fl fun H5 u S2 s5 a1 a2 a3 => q H5 u S2 (sm.trans s5) a1 a2 a3⟩
end
end Rw
namespace Rw
open PySem PySem.Spec PyProof.Rows L2
/-! ### rest -/
theorem isW_minus {t : W} (ms : W) (h : IsW t) : IsW (minus t ms) := ⟨fun x hx => h.names x (List.mem_filter.mp hx).1, List.Pairwise.filter _ h.up, Nat.le_trans (List.length_filter_le _ _) h.few⟩
theorem isR_less {r : Rl} (ms : W) (h : IsR r) : IsR (lessR r ms) := ⟨isW_minus ms h.h, isW_minus ms h.d, isW_minus ms h.n, isW_minus ms h.b⟩
def upperL (S : List Rl) (ns : W) : List Rl := S.filter fun r => !sub (own r) ns
def restL (S : List Rl) (ns ws : W) : List Rl := ((upperL S ns).filter fun r => askedFor r ns ws).map fun r => lessR r ns
theorem restL_isR {S : List Rl} {ns ws : W} (h : ∀ r ∈ S, IsR r) : ∀ r ∈ restL S ns ws, IsR r := fun r hr => by
  obtain ⟨q, hq, rfl⟩ := List.mem_map.mp hr
  exact isR_less ns (h q (List.mem_filter.mp (List.mem_filter.mp hq).1).1)
theorem upperL_len (S : List Rl) (ns : W) : (upperL S ns).length ≤ S.length := List.length_filter_le _ _
theorem restL_len (S : List Rl) (ns ws : W) : (restL S ns ws).length ≤ S.length := by
  unfold restL
  rw [List.length_map]
  exact Nat.le_trans (List.length_filter_le _ _) (upperL_len S ns)
theorem okDs_less (L : List Rl) (ns : W) : okDs (L.map fun r => rd (lessR r ns)) = true := by
  have := okDs_rd (L.map fun r => lessR r ns)
  rw [List.map_map] at this
  exact this
section
variable {P : Program} {w : World} {K : PySem.W.Frag} {mg : Str → Option Value} {base : Heap} {f : Addr} {fd : FuncData} {k : Nat}
def spRest (K : PySem.W.Frag) (C CP CW CS : Addr) : Sp := fun vs H Q E => ∃ (v nm wv : V) (dw : PyData), vs = [v, nm, wv] ∧ Dp K H wv dw ∧ oddW dw ∧ SpX K C CP CW CS v nm H E fun S ns H' => ∀ H2, Same H' H2 →
  (∀ ws, IsW ws → dw = wd ws → sub ws ns = true → ∀ H3 u S2, Same H2 H3 → Srt S2 (restL S ns ws) → S2.length < 76 → PgAt K C H3 u S2 → Q u H3) ∧
  ((∀ ws, IsW ws → dw = wd ws → sub ws ns = false) → ∀ dx, H2 dx = none → E (.ref CW) (some dx) (upd H2 dx (.xd [(("thing" : Str), wv)])))
theorem ok_rest {C CP CW CS pr f1 f2 f3 f4 f5 f6 f7 f8 fI : Addr} {fd1 fd2 fd3 fd4 fd5 fd6 fd7 fd8 : FuncData} (F : Fun K "rest" "rest" sRest f fd) (c : Cls K C) (hp : PropOf K C "rules" pr f3) (M : Mk K C fI) (GI : FnR P w K mg base CX0 k fI (spInit K C)) (mC : mg "Program" = some (.ref C))
    (G1 : FnOk P w K mg base (L2.CX P w) (k + 1) f1 fd1 ["program", "names"] (spCheckSplit K C CP CW CS)) (b1 : Binds K fd1 ["program", "names"] []) (k1 : PySem.W.keepIn K (.ref f1) = true) (m1 : mg "_check_split" = some (.ref f1))
    (G2 : FnOk P w K mg base CX0 (k + 1) f2 fd2 ["thing"] (spIsWorld K)) (b2 : Binds K fd2 ["thing"] []) (k2 : PySem.W.keepIn K (.ref f2) = true) (m2 : mg "is_world" = some (.ref f2)) (X : ErrT P w K mg base k "InvalidWorld" "thing" CW)
    (G3 : FnOk P w K mg base CX0 k f3 fd3 ["self"] (spRules K C)) (b3 : Binds K fd3 ["self"] [])
    (G4 : FnOk P w K mg base CX0 (k + 1) f4 fd4 ["row", "names"] (spRowWithout K)) (b4 : Binds K fd4 ["row", "names"] []) (k4 : PySem.W.keepIn K (.ref f4) = true) (m4 : mg "_row_without" = some (.ref f4))
    (G5 : FnOk P w K mg base CX0 (k + 1) f5 fd5 ["names", "wanted"] (spHasAll K)) (b5 : Binds K fd5 ["names", "wanted"] []) (k5 : PySem.W.keepIn K (.ref f5) = true) (m5 : mg "has_all" = some (.ref f5))
    (G6 : FnOk P w K mg base CX0 (k + 1) f6 fd6 ["row"] (spNamesInW K)) (b6 : Binds K fd6 ["row"] []) (k6 : PySem.W.keepIn K (.ref f6) = true) (m6 : mg "_names_in" = some (.ref f6))
    (G7 : FnOk P w K mg base CX0 (k + 1) f7 fd7 ["row", "names"] (spAsked K)) (b7 : Binds K fd7 ["row", "names"] []) (k7 : PySem.W.keepIn K (.ref f7) = true) (m7 : mg "_asked" = some (.ref f7))
    (G8 : FnOk P w K mg base CX0 (k + 1) f8 fd8 ["asked", "world"] (spIsAskedFor K)) (b8 : Binds K fd8 ["asked", "world"] []) (k8 : PySem.W.keepIn K (.ref f8) = true) (m8 : mg "_is_asked_for" = some (.ref f8)) :
    FnOk P w K mg base (L2.CX P w) (k + 2) f fd ["program", "names", "world"] (spRest K C CP CW CS) := by
  obtain ⟨fE, fdE, i1, i2, i3, i4⟩ := X.ex
  refine F.okX scRest (fun vs H Q E h => ?_) (fun cdv A outer s H vs Q E hr h => ?_)
  · obtain ⟨v, nm, wv, dw, rfl, _⟩ := h
    rfl
  obtain ⟨v, nm, wv, dw, rfl, hw, oddw, h⟩ := h
  refine ⟨_, pss_cons (ps_expr (pe_call G1 hr (by rfl) m1 k1 b1 .nil (passes_call (takes_of rfl rfl rfl rfl) (fun _ _ _ _ h => h)) (pa_cons (pv 0) (pa_cons (pv 1) pa_nil))))
    (pss_cons (ps_if (PW.pt (pw_or (pt_not (pt_val (pe_call G2 hr (by rfl) m2 k2 b2 .nil pass0 (pa_cons (pv 2) pa_nil)))) (pw_or1 (pt_not (pt_val (pe_call G5 hr (by rfl) m5 k5 b5 .nil pass0 (pa_cons (pv 1) (pa_cons (pv 2) pa_nil))))))))
      (pss_one (ps_raise rfl (takes_of rfl rfl rfl rfl) (pmk_oex X.oex i1 i2 i3 hr i4 .nil pass0 (by rfl) X.m (pa_cons (pv 2) pa_nil)))) pss_nil)
    (PSs.nox (pss_cons (ps_setLc (i := 3) (own := [("row", 5)]) (g := gName 5) (by rfl) scRest.nd rfl rfl (sw_true rfl rfl rfl (by decide +kernel)) (pi_tup (pe_prop (pv 0) c hp G3 hr b3 .nil pass0 rfl)) (blkOk_by (N := ["program", "names", "world", "upper", "rows", "row"]) (sc := defScope sRest) (by decide +kernel))
        (fun _ _ _ _ _ => pg_name (i := 5) scRest.nd rfl (Or.inl rfl)) (fun _ _ _ _ _ => pts_one (pt_not (pt_val (pe_call G5 hr (by rfl) m5 k5 b5 .nil pass0 (pa_cons (pv 1) (pa_cons (pe_call G6 hr (by rfl) m6 k6 b6 .nil pass0 (pa_cons (pv 5) pa_nil)) pa_nil)))))) (fun _ _ _ _ _ => pv 5))
    (pss_cons (ps_setLc (i := 4) (own := [("row", 5)]) (g := gName 5) (by rfl) scRest.nd rfl rfl (sw_true rfl rfl rfl (by decide +kernel)) (pi_list (pv 3)) (blkOk_by (N := ["program", "names", "world", "upper", "rows", "row"]) (sc := defScope sRest) (by decide +kernel))
        (fun _ _ _ _ _ => pg_name (i := 5) scRest.nd rfl (Or.inl rfl)) (fun _ _ _ _ _ => pts_one (pt_val (pe_call G8 hr (by rfl) m8 k8 b8 .nil pass0 (pa_cons (pe_call G7 hr (by rfl) m7 k7 b7 .nil pass0 (pa_cons (pv 5) (pa_cons (pv 1) pa_nil))) (pa_cons (pv 2) pa_nil))))) (fun _ _ _ _ _ => pe_call G4 hr (by rfl) m4 k4 b4 .nil pass0 (pa_cons (pv 5) (pa_cons (pv 1) pa_nil))))
    (pss_one (ps_ret (pe_makeS M GI hr (by rfl) mC pass0 (pv 4)))))))), ?_⟩
  refine ⟨v, rfl, nm, rfl, v, nm, rfl, h.mono fun S ns H1 d hS hI few hd ed hn s1 q => ?_⟩
  subst ed
  have hS1 := hS.same s1
  -- is the world one, and one of these names?
  refine ⟨wv, rfl, wv, dw, rfl, dp_same s1 _ _ hw, oddw, fun H2 s2 => ⟨_, rfl, ?_⟩⟩
  have hS2 := hS1.same s2
  have s12 := s1.trans s2
  have bad : worldD dw = false → ∀ ws, IsW ws → dw = wd ws → sub ws ns = false := fun e ws hws ew => by
    rw [ew, worldD_wd hws] at e
    cases e
  cases e0 : worldD dw with
  | false => exact iteT (iteT ⟨wv, rfl, err_made ((q H2 s2).2 (bad e0))⟩)
  | true =>
    obtain ⟨ws, hws, rfl⟩ := worldD_of oddw e0
    refine iteF ?_
    have l5 := hws.few
    refine ⟨nm, rfl, wv, rfl, nm, wv, ns, ws, rfl, .wd (dp_same s12 _ _ hd), .wd (dp_same s12 _ _ hw), by omega, fun H3 s3 => ⟨_, rfl, ?_⟩⟩
    have s13 := s12.trans s3
    have s23 := s2.trans s3
    cases e1 : sub ws ns with
    | false =>
      refine iteT ⟨wv, rfl, err_made ((q H3 s23).2 fun ws' hws' ew => ?_)⟩
      have := wd_inj ew
      subst this
      exact e1
    | true =>
      refine iteF ?_
      have q' := (q H3 s23).1 ws hws rfl e1
      have hS3 := hS2.same s3
      obtain ⟨a, dx, t0, ys0, rfl, j1, j2, j3⟩ := id hS3
      refine ⟨.ref a, rfl, a, dx, _, rfl, j1, .ref a, S, rfl, hS3, fun t ys ht hys => ?_⟩
      have yl : ys.length = S.length := by rw [dpAll_len hys, List.length_map]
      refine ⟨t, rfl, ⟨_, ht⟩, fun D hD => ?_⟩
      refine lc_tup (xs := ys) (fun i H4 => Same H3 H4 ∧ ∃ zs, H4 D = some (.lst zs) ∧ DpAll K H4 zs (((S.take i).filter fun r => !sub (own r) ns).map rd)) ⟨same_new hD _, [], upd_same, .nil⟩ (fun i H4 _ hI2 => same_tup hI2.1 ht) (fun i x H4 hx hI2 => ?_) (fun H4 hI2 => ?_)
      · obtain ⟨sm, zs, hz, hzs⟩ := hI2
        obtain ⟨dd, hdd, hxd⟩ := dpAll_at' hys hx
        obtain ⟨r, hr0, rfl⟩ := map_at hdd
        have hr' := hI r (List.mem_of_getElem? hr0)
        have hxd2 := dp_same sm _ _ hxd
        have hn2 := dp_same (s13.trans sm) _ _ hd
        have lim := own_len hr'
        have il : i < S.length := (List.getElem?_eq_some_iff.mp hr0).1
        refine ⟨rfl, nm, rfl, x, rfl, x, r, rfl, hxd2, hr', fun H5 v5 s5 h5 => ?_⟩
        refine ⟨nm, v5, ns, own r, rfl, .wd (dp_same s5 _ _ hn2), h5, by omega, fun H6 s6 => ⟨_, rfl, ?_⟩⟩
        have s56 := s5.trans s6
        have hz6 := s56 _ _ hz
        have hzs6 := (Stay.same s56).dpAll _ _ (okDs_rd _) hzs
        cases e2 : sub (own r) ns with
        | false =>
          refine iteT ?_
          have st : Stay H6 (upd H6 D (.lst (zs ++ [x]))) := .put (by rw [hz6]; exact True.intro) _
          refine ⟨x, rfl, zs, hz6, small_line' ?_, same_put (sm.trans s56) hD, _, upd_same, ?_⟩
          · rw [dpAll_len hzs, List.length_map]
            have := List.length_filter_le (fun r => !sub (own r) ns) (S.take i)
            rw [List.length_take] at this
            omega
          · rw [filt_t hr0 (show (!sub (own r) ns) = true by rw [e2]; rfl), List.map_append]
            exact dpAll_app (st.dpAll _ _ (okDs_rd _) hzs6) (.cons (st.dp _ _ (ok_rd r) (dp_same s56 _ _ hxd2)) .nil)
        | true =>
          refine iteF ⟨sm.trans s56, zs, hz6, ?_⟩
          rw [filt_f hr0 (show (!sub (own r) ns) = false by rw [e2]; rfl)]
          exact hzs6
      · obtain ⟨sm, zs, hz, hzs⟩ := hI2
        rw [yl, List.take_length] at hzs
        have hzs' : DpAll K H4 zs ((upperL S ns).map rd) := hzs
        have zl : zs.length = (upperL S ns).length := by rw [dpAll_len hzs', List.length_map]
        have ul := upperL_len S ns
        have s14 := s13.trans sm
        -- the rows
        refine ⟨.ref D, rfl, D, rfl, ⟨_, SqL.of hz⟩, fun D2 hD2 => ?_⟩
        refine lc_list (xs := zs) (fun i H5 => Same H4 H5 ∧ ∃ us, H5 D2 = some (.lst us) ∧ DpAll K H5 us ((((upperL S ns).take i).filter fun r => askedFor r ns ws).map fun r => rd (lessR r ns))) ⟨same_new hD2 _, [], upd_same, .nil⟩ (fun i H5 _ hI2 => SqL.of (hI2.1 _ _ hz)) (fun i x H5 hx hI2 => ?_) (fun H5 hI2 => ?_)
        · obtain ⟨sm5, us, hu, hus⟩ := hI2
          obtain ⟨dd, hdd, hxd⟩ := dpAll_at' hzs' hx
          obtain ⟨r, hr0, rfl⟩ := map_at hdd
          have hr' := hI r (List.mem_filter.mp (List.mem_of_getElem? hr0)).1
          have il : i < (upperL S ns).length := (List.getElem?_eq_some_iff.mp hr0).1
          have hxd5 := dp_same sm5 _ _ hxd
          have hn5 := dp_same (s14.trans sm5) _ _ hd
          have hw5 := dp_same (s14.trans sm5) _ _ hw
          have g1 := hr'.d.few
          have g2 := hr'.n.few
          have g3 := hr'.b.few
          refine ⟨rfl, x, rfl, nm, rfl, x, nm, r, ns, rfl, hxd5, hr', .wd hn5, fun H6 b v1 v2 s6 hb hv1 hv2 => ?_⟩
          refine ⟨wv, rfl, b, v1, v2, wv, _, _, ws, rfl, hb, hv1, hv2, .wd (dp_same s6 _ _ hw5), ?_, ?_, fun H7 s7 => ⟨_, rfl, ?_⟩⟩
          · have := List.length_filter_le (fun z => decide (z ∈ ns)) (r.2.1 ++ r.2.2.1)
            rw [List.length_append] at this
            unfold inn
            omega
          · have := List.length_filter_le (fun z => decide (z ∈ ns)) r.2.2.2
            unfold inn
            omega
          have s67 := s6.trans s7
          have hu7 := s67 _ _ hu
          refine ite2 (fun e => ?_) (fun e => ?_)
          · refine ⟨x, rfl, nm, rfl, x, nm, r, ns, rfl, dp_same s67 _ _ hxd5, hr', .wd (dp_same s67 _ _ hn5), fun H8 v8 s8 hv8 => ?_⟩
            have s68 := s67.trans s8
            have hu8 := s8 _ _ hu7
            have st : Stay H8 (upd H8 D2 (.lst (us ++ [v8]))) := .put (by rw [hu8]; exact True.intro) _
            refine ⟨us, hu8, small_line' ?_, same_put (sm5.trans s68) hD2, _, upd_same, ?_⟩
            · rw [dpAll_len hus, List.length_map]
              have := List.length_filter_le (fun r => askedFor r ns ws) ((upperL S ns).take i)
              rw [List.length_take] at this
              omega
            · rw [filt_t hr0 (show askedFor r ns ws = true from e), List.map_append]
              exact dpAll_app (((Stay.same s68).trans st).dpAll _ _ (okDs_less _ _) hus) (.cons (st.dp _ _ (ok_rd _) hv8) .nil)
          · refine ⟨sm5.trans s67, us, hu7, ?_⟩
            rw [filt_f hr0 (show askedFor r ns ws = false from Bool.eq_false_iff.mpr e)]
            exact (Stay.same s67).dpAll _ _ (okDs_less _ _) hus
        · obtain ⟨sm5, us, hu, hus⟩ := hI2
          rw [zl, List.take_length] at hus
          have hus' : DpAll K H5 us ((restL S ns ws).map rd) := by
            unfold restL
            rw [List.map_map]
            exact hus
          exact ⟨.ref D2, rfl, D2, us, rfl, .inr (SqL.of hu), made_ok hus' (restL_isR hI) (Nat.lt_of_le_of_lt (restL_len S ns ws) few) fun H6 u S2 s6 a1 a2 a3 => q' H6 u S2 (sm.trans (sm5.trans s6)) a1 a2 a3⟩
end
end Rw
namespace Rw
open PySem PySem.Spec PyProof.Rows L2 PySem.Froz
/-! ### comprehensions of any depth: one level of their loops -/
def turnOf (tg : Expr) (ifs : List Expr) (pos : Pos) (it : Value) (env : Env) (bk : Sem PySem.Fin) (c : Code) : Sem PySem.Fin := do
  standAt pos
  let r ← pyNext it
  match r with
  | none => pure (PySem.Fin.done Flow.next)
  | some v => do
    letOwnedTupleGo tg it v
    assign tg env v
    let ok ← forIn ifs true fun c r => if r = true then do let ok ← PySem.isTrue c env (eval c env); pure (ForInStep.yield ok) else pure (ForInStep.yield r)
    if ok = true then bk else again c
def Le (σ σ' : L2.St) : Prop := σ.length = σ'.length ∧ ∀ (i : Nat) (v : V), σ[i]? = some (some v) → σ'[i]? = some (some v)
theorem Le.refl (σ : L2.St) : Le σ σ := ⟨rfl, fun _ _ e => e⟩
theorem Le.trans {a b c : L2.St} (h : Le a b) (g : Le b c) : Le a c := ⟨h.1.trans g.1, fun i v e => g.2 i v (h.2 i v e)⟩
theorem Le.wipe (σ : L2.St) (vs : List Nat) : Le (wipe σ vs) σ := ⟨wipe_length σ vs, fun i v e => (wipe_some e).1⟩
theorem Le.wipes {σ : L2.St} {vs vs1 : List Nat} (h : ∀ i ∈ vs1, i ∈ vs) : Le (L2.wipe σ vs) (L2.wipe σ vs1) := ⟨(wipe_length σ vs).trans (wipe_length σ vs1).symm, fun i v e => by
  obtain ⟨h1, h2⟩ := wipe_some e
  rw [wipe_out fun z => h2 (h i z)]
  exact h1⟩
theorem loop_lvl {Y : Cx} {elt : Expr} {gens : List Comprehension} {scope : Scope} {ep : Pos} {d : Nat} {tg : Expr} {ifs : List Expr} {pos : Pos} {it : Addr} {acc : Value} {bk : Sem PySem.Fin} {fp : List Addr} {tn : Nat → Heap → Prop} {J : It} {pins : List (Addr × Obj)} {σ0 : L2.St} {g : TG} {tt : TT} {B : L2.St → Hp → (Hp → Prop) → Prop} {C : L2.St → Prop} {R : Result → Shared → Prop} {N : Hp → Prop} {W : Nat → Nat → Hp → Prop}
    (hc : Y.calm = true) (hxe : ∀ e s, ¬ Y.xe e s) (hT : compTurn (.SetComp elt gens scope ep) d (.ref it) acc Y.env = turnOf tg ifs pos (.ref it) Y.env bk (.compLoop (.SetComp elt gens scope ep) d (.ref it) acc Y.env)) (T : Turn Y.prog Y.w Y.K tg J fp it tn) (hg : PG Y tg g) (ht : PTs Y ifs tt)
    (hb : ∀ pl s σ H (Nx : Hp → Prop) (Q : PySem.Fin → Shared → Prop) (E : Value → Shared → Prop), L2.Inv Y (pins ++ pl) σ H s → C σ → B σ H Nx → (∀ σ' H' s', L2.Inv Y (pins ++ pl) σ' H' s' → Le σ0 σ' → Nx H' → Q (.again (.compLoop (.SetComp elt gens scope ep) d (.ref it) acc Y.env)) s') → wpAny (model Y.prog Y.w) Y.A bk Q E s)
    (hC : ∀ σ, C σ → Le σ0 σ)
    (turn : ∀ i m H, W i m H → (J.stop i H ∧ N H) ∨ (J.go i H ∧ ∃ Nx : Hp → Prop, (∀ H', Nx H' → ∃ m', m' < m ∧ W (i + 1) m' H') ∧ ∀ x H', J.yld i H x H' → g x σ0 H' fun σ2 H2 => C σ2 ∧ tt σ2 H2 fun b H3 => if b = true then B σ2 H3 Nx else Nx H3))
    (hR : ∀ s' H', L2.Inv Y pins σ0 H' s' → N H' → R (.ok .next) s') :
    ∀ (n i : Nat) (H : Hp) (s : Shared), L2.Inv Y pins σ0 H s → tn i s.heap → (∀ b ∈ fp, FpOk Y pins H b) → W i n H → codeAny (model Y.prog Y.w) Y.A (.compLoop (.SetComp elt gens scope ep) d (.ref it) acc Y.env) R s := by
  intro n i H s I0 t0 f0 w0
  refine codeAny_loop (c := .compLoop (.SetComp elt gens scope ep) d (.ref it) acc Y.env) rfl (fun n s' => ∃ i H', L2.Inv Y pins σ0 H' s' ∧ tn i s'.heap ∧ (∀ b ∈ fp, FpOk Y pins H' b) ∧ W i n H') (fun n s5 ⟨i, H5, I5, st5, n5, w5⟩ => ?_) n ⟨i, H, I0, t0, f0, w0⟩
  show wpAny (model Y.prog Y.w) Y.A (Sem.onRaise (compTurn (.SetComp elt gens scope ep) d (.ref it) acc Y.env) fun x => do noteFrame x Y.env; theTreesLotGoes x) _ _ s5
  refine wpAny_noted ?_
  rw [hT]
  unfold turnOf
  refine wpAny_bind (wpAny_standAt (wpAny_bind ?_))
  rcases turn i n H5 w5 with ⟨stop, qq⟩ | ⟨go, Nx, hNx, step⟩
  · refine thnF (T.done Y rfl rfl rfl hc i pins s5 σ0 H5 (fun _ _ => False) I5 n5 st5 stop) fun r s6 ⟨hr, I6⟩ => ?_
    subst hr
    exact wpAny_pure (hR s6 H5 I6 qq)
  · refine thnF (T.item Y rfl rfl rfl hc i pins s5 σ0 H5 (fun _ _ => False) I5 n5 st5 go) fun r s6 ⟨u, hr, h6⟩ => ?_
    subst hr
    refine wpAny_bind (thnF h6 fun _ s7 ⟨x, H7, I7, r7, y7, st7, n7⟩ => ?_)
    have fp7 : ∀ b ∈ fp, FpOk Y pins H7 b := fun b hb => ⟨n7 b hb, (n5 b hb).2⟩
    have I7' := Inv.pinned I7 fp7 (T.obj (i + 1) s7.heap st7)
    refine wpAny_bind (wpAny_mono (hg.run (pins ++ pinsAt fp s7.heap) s7 σ0 H7 x u _ I7' r7 (step x H7 y7)) (fun _ s8 ⟨σ8, H8, I8, hw8, q8⟩ => ?_) fun e s z => (hxe e s z).elim)
    have fin : ∀ {s' : Shared} {H' : Hp} {σ' : L2.St}, L2.Inv Y (pins ++ pinsAt fp s7.heap) σ' H' s' → Le σ0 σ' → Nx H' → ∃ m, m < n ∧ ∃ i H', L2.Inv Y pins σ0 H' s' ∧ tn i s'.heap ∧ (∀ b ∈ fp, FpOk Y pins H' b) ∧ W i m H' := fun {s' H' σ'} I' le nx => by
      obtain ⟨m', hm, w'⟩ := hNx H' nx
      have pin' : ∀ b ∈ fp, ∀ o, s7.heap.get? b = some o → s'.heap.get? b = some o ∧ H' b = none := fun b hb o e => by
        have z := I'.pin (b, o) (List.mem_append_right Y.pn (List.mem_append_right pins (mem_pinsAt hb e)))
        exact ⟨z.1, z.2.1⟩
      refine ⟨m', hm, i + 1, H', Inv.weak (Inv.unpinned I') le.1 le.2, T.keep (i + 1) s7.heap s'.heap st7 fun b hb o e => (pin' b hb o e).1, fun b hb => ?_, w'⟩
      obtain ⟨o, e, _⟩ := T.obj (i + 1) s7.heap st7 b hb
      exact ⟨(pin' b hb o e).2, (n5 b hb).2⟩
    refine wpAny_bind (wpAny_mono (ht.run _ s8 σ8 H8 _ I8 q8) (fun b s9 ⟨H9, I9, q9⟩ => ?_) fun e s z => (hxe e s z).elim)
    cases b with
    | false =>
      have q9' : Nx H9 := q9
      exact wpAny_pure ⟨rfl, fin I9 (hC σ8 hw8) q9'⟩
    | true =>
      have q9' : B σ8 H9 Nx := q9
      exact hb (pinsAt fp s7.heap) s9 σ8 H9 Nx _ _ I9 hw8 q9' fun σ' H' s' I' le nx => ⟨rfl, fin I' le nx⟩
/-- the start of a level -/
theorem start_lvl {P : Program} {w : World} {A : Around} {R : Result → Shared → Prop} {s : Shared} {elt : Expr} {gens : List Comprehension} {scope : Scope} {ep : Pos} {d : Nat} {t i : Expr} {ifs : List Expr} {it acc : Value} {env : Env} (hcl : gens[d]? = some ⟨t, i, ifs, 0⟩)
    (h0 : codeAny (model P w) A (.compLoop (.SetComp elt gens scope ep) d it acc env) R s) (h : wpAny (model P w) A (pyIter it) (fun it' s' => codeAny (model P w) A (.compLoop (.SetComp elt gens scope ep) d it' acc env) R s') (notedBy (model P w) A env fun x s' => R (.error x) s') s) :
    codeAny (model P w) A (.compStart (.SetComp elt gens scope ep) d it acc env) R s := by
  refine codeAny_of_tree ?_
  show wpAny (model P w) A (Sem.onRaise (compStart (.SetComp elt gens scope ep) d it acc env) fun x => do noteFrame x env; standAt theWindowsPlace) _ _ s
  refine wpAny_notedAt ?_
  unfold compStart
  rw [show (clausesOf (.SetComp elt gens scope ep))[d]? = some ⟨t, i, ifs, 0⟩ from hcl]
  show wpAny (model P w) A (ask >>= _) _ _ s
  refine wpAny_bind (wpAny_askSetting ?_)
  split
  · exact wpAny_pure ⟨rfl, h0⟩
  · refine wpAny_bind (wpAny_rule ?_)
    refine wpAny_bind (wpAny_standAt (wpAny_bind (wpAny_mono h (fun it' s' h' => wpAny_pure ⟨rfl, h'⟩) fun _ _ z => z)))
/-! ### a set of texts, one more put in -/
theorem addX_ok {X : Cx} {pins : List (Addr × Obj)} {σ : L2.St} {H : Hp} {s : Shared} {E : Value → Shared → Prop} {D : Addr} {ms : List Str} {z : Str} {u : Tok} {Q : Value → Shared → Prop} (I : L2.Inv X pins σ H s) (hD : H D = some (XSetO X.prog X.w D ms)) (room : ms.length + 1 < scanBound)
    (h : ∀ s' ms', ms'.Nodup → (∀ y, y ∈ ms' ↔ y = z ∨ y ∈ ms) → ms'.length ≤ ms.length + 1 → L2.Inv X pins σ (upd H D (XSetO X.prog X.w D ms')) s' → Q .none s') : wpAny (model X.prog X.w) X.A (call (.builtin "set.add") [.ref D, .str z u]) Q E s := by
  obtain ⟨es, ep, t, R⟩ := (I.hok D _ hD).1
  refine wpAny_call_entry PySem.F.slot_set_add ⟨_, R.ob, rfl⟩ PySem.F.entry_set_add ?_ (PySem.F.args_set_add_2 _ _)
  unfold Builtin.«set.add»
  show wpAny _ _ (Builtin.Frozenset.oneOther "add" _ >>= _) _ _ _
  unfold Builtin.Frozenset.oneOther
  refine wpAny_bind (wpAny_bind (wpAny_pure (wpAny_bind (wpAny_pure (wpAny_pure ?_)))))
  unfold setAdd
  refine wpAny_bind (wpAny_holding (wpAny_bind ((strKind X.prog X.w).pyHash (k := z) (is_str _ _) ?_)))
  refine put_text (s := { s with toks := s.toks + 1 }) R room fun b h' ms' es' ep' t' sb R' hm hl' => ?_
  refine wpAny_pure ⟨.none, rfl, h _ ms' R'.nd hm hl' ?_⟩
  exact Inv.write (I.tok (s.toks + 1)) (by rw [hD]; exact True.intro) (Or.inl rfl) (fun b u hb hu => (sb.2 b hb).trans hu) ⟨_, R'.ob⟩ ⟨⟨es', ep', t', R'⟩, ⟨_, R'.ob⟩, fun h1 h2 ⟨a1, a2, a3, a4⟩ kk => ⟨a1, a2, a3, a4.moved kk⟩⟩
/-! ### {e for x in a for y in b for z in c}, of texts -/
def lvlR (wi : TI) (g : TG) (vs : List Nat) (B : L2.St → Hp → (Hp → Prop) → Prop) : L2.St → Hp → (Hp → Prop) → Prop := fun σ H N => wi σ H fun J H1 => ∃ W : Nat → Nat → Hp → Prop, (∃ m, W 0 m H1) ∧
  ∀ i m H, W i m H → (J.stop i H ∧ N H) ∨ (J.go i H ∧ ∃ Nx : Hp → Prop, (∀ H', Nx H' → ∃ m', m' < m ∧ W (i + 1) m' H') ∧ ∀ x H', J.yld i H x H' → g x (wipe σ vs) H' fun σ2 H2 => wipe σ2 vs = wipe σ vs ∧ B σ2 H2 Nx)
def lastR (P : Program) (w : World) (D : Addr) (te : TE) : L2.St → Hp → (Hp → Prop) → Prop := fun σ H N => te σ H fun y H1 => ∃ z ms, y = .str z ∧ H1 D = some (XSetO P w D ms) ∧ ms.length + 1 < scanBound ∧ ∀ ms', ms'.Nodup → (∀ u, u ∈ ms' ↔ u = z ∨ u ∈ ms) → ms'.length ≤ ms.length + 1 → N (upd H1 D (XSetO P w D ms'))
def tSc3 (P : Program) (w : World) (wi0 wi1 wi2 : TI) (g0 g1 g2 : TG) (te : TE) (vs vs1 vs2 : List Nat) : TE := fun σ H Q => wi0 σ H fun J H1 => ∀ D, H1 D = none → ∃ W : Nat → Nat → Hp → Prop, (∃ m, W 0 m (upd H1 D (XSetO P w D []))) ∧
  ∀ i m H, W i m H → (J.stop i H ∧ Q (.ref D) H) ∨ (J.go i H ∧ ∃ Nx : Hp → Prop, (∀ H', Nx H' → ∃ m', m' < m ∧ W (i + 1) m' H') ∧ ∀ x H', J.yld i H x H' → g0 x (wipe σ vs) H' fun σ2 H2 => wipe σ2 vs = wipe σ vs ∧ lvlR wi1 g1 vs1 (lvlR wi2 g2 vs2 (lastR P w D te)) σ2 H2 Nx)
section
variable {elt t0 i0 t1 i1 t2 i2 : Expr} {scope : Scope} {ep : Pos}
abbrev gens3 (t0 i0 t1 i1 t2 i2 : Expr) : List Comprehension := [⟨t0, i0, [], 0⟩, ⟨t1, i1, [], 0⟩, ⟨t2, i2, [], 0⟩]
def bkIn (i1 : Expr) (e : Expr) (d : Nat) (acc : Value) (env : Env) (c : Code) : Sem PySem.Fin := do
  let x ← eval i1 env
  standAt i1.pos
  let x ← foldedSetIterable i1 env x
  let it ← holding [x] (pyIter x)
  let _ ← runOwn (.compStart e (d + 1) it acc env) env
  again c
def bkLast (elt : Expr) (acc : Value) (env : Env) (c : Code) : Sem PySem.Fin := do
  let _ ← (do let v ← eval elt env; standAt elt.pos; let _ ← call (.builtin "set.add") [acc, v]; pure () : Sem Unit)
  again c
theorem turn3_0 (it acc : Value) (env : Env) : compTurn (.SetComp elt (gens3 t0 i0 t1 i1 t2 i2) scope ep) 0 it acc env = turnOf t0 [] i0.pos it env (bkIn i1 (.SetComp elt (gens3 t0 i0 t1 i1 t2 i2) scope ep) 0 acc env (.compLoop (.SetComp elt (gens3 t0 i0 t1 i1 t2 i2) scope ep) 0 it acc env)) (.compLoop (.SetComp elt (gens3 t0 i0 t1 i1 t2 i2) scope ep) 0 it acc env) := rfl
theorem turn3_1 (it acc : Value) (env : Env) : compTurn (.SetComp elt (gens3 t0 i0 t1 i1 t2 i2) scope ep) 1 it acc env = turnOf t1 [] i1.pos it env (bkIn i2 (.SetComp elt (gens3 t0 i0 t1 i1 t2 i2) scope ep) 1 acc env (.compLoop (.SetComp elt (gens3 t0 i0 t1 i1 t2 i2) scope ep) 1 it acc env)) (.compLoop (.SetComp elt (gens3 t0 i0 t1 i1 t2 i2) scope ep) 1 it acc env) := rfl
theorem turn3_2 (it acc : Value) (env : Env) : compTurn (.SetComp elt (gens3 t0 i0 t1 i1 t2 i2) scope ep) 2 it acc env = turnOf t2 [] i2.pos it env (bkLast elt acc env (.compLoop (.SetComp elt (gens3 t0 i0 t1 i1 t2 i2) scope ep) 2 it acc env)) (.compLoop (.SetComp elt (gens3 t0 i0 t1 i1 t2 i2) scope ep) 2 it acc env) := rfl
theorem bk_step {Y : Cx} {elt : Expr} {gens : List Comprehension} {scope : Scope} {ep : Pos} {d : Nat} {tg iter : Expr} {acc : Value} {wi : TI} {g : TG} {vs : List Nat} {B : L2.St → Hp → (Hp → Prop) → Prop} {bkf : Value → Sem PySem.Fin} {D : L2.St → L2.St → Prop}
    (hc : Y.calm = true) (hxe : ∀ e s, ¬ Y.xe e s) (hgen : gens[d + 1]? = some ⟨tg, iter, [], 0⟩) (hs : ∀ x, foldedSetIterable iter Y.env x = pure x) (hi : PI Y tg iter wi) (hg : PG Y tg g)
    (hT : ∀ it, compTurn (.SetComp elt gens scope ep) (d + 1) it acc Y.env = turnOf tg [] iter.pos it Y.env (bkf it) (.compLoop (.SetComp elt gens scope ep) (d + 1) it acc Y.env))
    (hb : ∀ it pl s σ H (Nx : Hp → Prop) (Q : PySem.Fin → Shared → Prop) (E : Value → Shared → Prop), L2.Inv Y pl σ H s → B σ H Nx → (∀ σ' H' s', L2.Inv Y pl σ' H' s' → D σ σ' → Nx H' → Q (.again (.compLoop (.SetComp elt gens scope ep) (d + 1) it acc Y.env)) s') → wpAny (model Y.prog Y.w) Y.A (bkf it) Q E s)
    (hD : ∀ σ σ2 σ', wipe σ2 vs = wipe σ vs → D σ2 σ' → Le (wipe σ vs) σ') :
    ∀ pl s σ H (Nx : Hp → Prop) (Q : PySem.Fin → Shared → Prop) (E : Value → Shared → Prop) (c : Code), L2.Inv Y pl σ H s → lvlR wi g vs B σ H Nx → (∀ H' s', L2.Inv Y pl (wipe σ vs) H' s' → Nx H' → Q (.again c) s') → wpAny (model Y.prog Y.w) Y.A (bkIn iter (.SetComp elt gens scope ep) d acc Y.env c) Q E s := by
  intro pl s σ H Nx Q E c I hL hQ
  unfold bkIn
  refine wpAny_bind (wpAny_mono (hi.run pl s σ H _ I hL) (fun v s1 h1 => ?_) (fun e s z => (hxe e s z).elim))
  refine wpAny_bind (wpAny_standAt ?_)
  rw [hs v]
  refine wpAny_bind (wpAny_pure ?_)
  refine wpAny_bind (wpAny_holding (wpAny_mono h1 (fun itv s2 ⟨it, fp, tn, J, H2, e, I2, T, st2, f2, W, ⟨m, w0⟩, turn⟩ => ?_) (fun e s z => (hxe e s z).elim)))
  subst e
  have I2' : L2.Inv Y pl (wipe σ vs) H2 s2 := Inv.weak I2 (Le.wipe σ vs).1 (Le.wipe σ vs).2
  have loop : ∀ R : Result → Shared → Prop, (∀ s' H', L2.Inv Y pl (wipe σ vs) H' s' → Nx H' → R (.ok .next) s') → codeAny (model Y.prog Y.w) Y.A (.compLoop (.SetComp elt gens scope ep) (d + 1) (.ref it) acc Y.env) R s2 := fun R hR =>
    loop_lvl (Y := Y) (σ0 := wipe σ vs) (C := fun σ2 => wipe σ2 vs = wipe σ vs) (B := B) (tt := tYes) (W := W) (N := Nx) hc hxe (hT (.ref it)) T hg pts_nil
      (fun pl2 s σ2 H Nx2 Q E I hC hB hq => hb (.ref it) (pl ++ pl2) s σ2 H Nx2 Q E I hB fun σ' H' s' I' hd nx => hq σ' H' s' I' (hD σ σ2 σ' hC hd) nx)
      (fun σ2 hC => by have z := Le.wipe σ2 vs; rw [hC] at z; exact z) turn hR m 0 H2 s2 I2' st2 f2 w0
  refine wpAny_bind (wpAny_runOwn (h := none) (start_lvl hgen ?_ ?_))
  · exact loop _ fun s' H' I' nx => wpAny_pure (hQ H' s' I' nx)
  · exact T.self _ 0 s2 _ _ st2 (loop _ fun s' H' I' nx => wpAny_pure (hQ H' s' I' nx))
theorem last_step {Y : Cx} {elt : Expr} {D : Addr} {te : TE} (hxe : ∀ e s, ¬ Y.xe e s) (he : PE Y elt te) :
    ∀ pl s σ H (Nx : Hp → Prop) (Q : PySem.Fin → Shared → Prop) (E : Value → Shared → Prop) (c : Code), L2.Inv Y pl σ H s → lastR Y.prog Y.w D te σ H Nx → (∀ H' s', L2.Inv Y pl σ H' s' → Nx H' → Q (.again c) s') → wpAny (model Y.prog Y.w) Y.A (bkLast elt (.ref D) Y.env c) Q E s := by
  intro pl s σ H Nx Q E c I hL hQ
  unfold bkLast
  refine wpAny_bind (wpAny_bind (wpAny_mono (he.run pl s σ H _ I hL) (fun v s1 ⟨y, H1, I1, ry, z, ms, ey, hD, room, next⟩ => ?_) (fun e s z => (hxe e s z).elim)))
  subst ey
  obtain ⟨u, rfl⟩ := ry
  exact wpAny_bind (wpAny_standAt (wpAny_bind (addX_ok I1 hD room fun s' ms' nd hm hl I' => wpAny_pure (wpAny_pure (hQ _ s' I' (next ms' nd hm hl))))))
/-- a set comprehension of three clauses, of texts -/
theorem pe_sc3 {X : Cx} {own : List (Str × Nat)} {wi0 wi1 wi2 : TI} {g0 g1 g2 : TG} {te : TE} {vs1 vs2 : List Nat} (hc : X.calm = true) (hN : X.N.Nodup) (hi : PI X t0 i0 wi0) (ok : BlkOk X.N X.env.scope scope own) (hv1 : ∀ i ∈ vs1, i ∈ own.map (·.2)) (hv2 : ∀ i ∈ vs2, i ∈ vs1)
    (hg0 : ∀ s H C cl fp, PG (X.blk s H scope (compEnvC scope cl C X.env) fp) t0 g0) (hi1 : ∀ s H C cl fp, PI (X.blk s H scope (compEnvC scope cl C X.env) fp) t1 i1 wi1) (hg1 : ∀ s H C cl fp, PG (X.blk s H scope (compEnvC scope cl C X.env) fp) t1 g1)
    (hi2 : ∀ s H C cl fp, PI (X.blk s H scope (compEnvC scope cl C X.env) fp) t2 i2 wi2) (hg2 : ∀ s H C cl fp, PG (X.blk s H scope (compEnvC scope cl C X.env) fp) t2 g2) (he : ∀ s H C cl fp, PE (X.blk s H scope (compEnvC scope cl C X.env) fp) elt te)
    (hs : ∀ x, foldedSetIterable i0 X.env x = pure x := by intro x; rfl) (hs1 : ∀ env x, foldedSetIterable i1 env x = pure x := by intro env x; rfl) (hs2 : ∀ env x, foldedSetIterable i2 env x = pure x := by intro env x; rfl) :
    PE X (.SetComp elt (gens3 t0 i0 t1 i1 t2 i2) scope ep) (tSc3 X.prog X.w wi0 wi1 wi2 g0 g1 g2 te (own.map (·.2)) vs1 vs2) := by
  refine ⟨fun pins s σ H Q I h => ?_⟩
  rw [PpSet.eval_SetComp]
  have hfree : ∀ y ∈ scope.names, y.2 = NameKind.free → ∃ c, X.env.cells.lookup y.1 = some c := fun y hy e => (ok.free y hy e).elim (fun k => I.ok.has y.1 (.inl k)) fun k => I.ok.has y.1 (.inr k)
  refine wpAny_comprehension_free (g := ⟨t0, i0, [], 0⟩) (gs := [⟨t1, i1, [], 0⟩, ⟨t2, i2, [], 0⟩]) rfl hs (closure_ok hfree) ok.kind (fun y hy e => by rw [ok.uniq y hy, e]) ?_
  refine thn (hi.run pins s σ H _ I h) fun xv s1 hx => thn hx fun itv s2 ⟨it, fp, tn, J, H2, e, I2, T, st2, f2, q⟩ => ?_
  subst e
  refine PpSet.newSet_ok ?_
  refine newEnv_comp ?_
  have hDn := I2.hok.fresh (Nat.le_refl _)
  obtain ⟨W, ⟨m0, w0⟩, turn⟩ := q s2.heap.objs.size hDn
  have ho : (s2.heap.push (newSetObj X.w)).get? s2.heap.objs.size = some (newSetObj X.w) := Heap.get?_push_size s2.heap rfl
  have R0 : XSet X.prog X.w (s2.heap.push (newSetObj X.w)) s2.heap.objs.size [] #[] 0 (.fresh 0 0 (!X.w.params.followText "set-order")) := ⟨ho, TxOk.nil rfl, List.nodup_nil, List.Pairwise.nil, led_new X.w⟩
  have new : ObjOk X.prog X.w (upd H2 s2.heap.objs.size (XSetO X.prog X.w s2.heap.objs.size [])) (s2.heap.push (newSetObj X.w)) s2.heap.objs.size (XSetO X.prog X.w s2.heap.objs.size []) :=
    ⟨⟨_, _, _, R0⟩, ⟨_, ho⟩, fun h1 h2 ⟨a1, a2, a3, a4⟩ kk => ⟨a1, a2, a3, a4.moved kk⟩⟩
  have I3 : L2.Inv X pins σ (upd H2 s2.heap.objs.size (XSetO X.prog X.w s2.heap.objs.size [])) { s2 with heap := s2.heap.push (newSetObj X.w) } := I2.laid (t' := s2.toks) (fun b o e => Heap.get?_push_of_some _ e) (Nat.le_refl _) new
  have sz : ∀ b ∈ fp, b < s2.heap.objs.size := fun b hb => by
    obtain ⟨o, e, _⟩ := T.obj 0 s2.heap st2 b hb
    exact Heap.lt_size e
  have f3 : ∀ b ∈ fp, FpOk X pins (upd H2 s2.heap.objs.size (XSetO X.prog X.w s2.heap.objs.size [])) b ∧ b < (s2.heap.push (newSetObj X.w)).objs.size := fun b hb => by
    have hlt := sz b hb
    refine ⟨⟨?_, (f2 b hb).2⟩, ?_⟩
    · rw [upd_ne (Nat.ne_of_lt hlt)]
      exact (f2 b hb).1
    · rw [Heap.size_push]
      exact Nat.lt_succ_of_lt hlt
  have I4 := block_start I3 ok hN f3
  have st4 : tn 0 (pushCells ((s2.heap.push (newSetObj X.w)).push { cls := .type "dict", data := .dict #[] }) scope.names) := T.keep 0 s2.heap _ st2 fun b hb o e => pushCells_keeps scope.names _ b o (Heap.get?_push_of_some _ (Heap.get?_push_of_some _ e))
  let s3 : Shared := { s2 with heap := s2.heap.push (newSetObj X.w) }
  let H3 : Hp := upd H2 s2.heap.objs.size (XSetO X.prog X.w s2.heap.objs.size [])
  let cl := cellsFrom (s3.heap.objs.size + 1) scope.names (cloFrom X.env.cells scope.names [])
  let Y : Cx := X.blk s3 H3 scope (compEnvC scope cl s3.heap.objs.size X.env) fp
  have hxe : ∀ e s, ¬ Y.xe e s := fun _ _ z => z
  have stat : ∀ {σ' H' s'}, L2.Inv Y [] σ' H' s' → (∀ b ∈ fp, H' b = none) → ∀ b ∈ fp, FpOk Y [] H' b := fun {σ' H' s'} I' hn b hb => ⟨hn b hb, (I'.ok.exf b hb).1, I'.ok.exfs b hb, .inl hb, fun x c e => (I'.ok.exf b hb).2 x c e, fun p hp => by
    have z : p ∈ ([] : List (Addr × Obj)) := hp
    exact nomatch z⟩
  have last := last_step (Y := Y) (D := s2.heap.objs.size) hxe (he s3 H3 s3.heap.objs.size cl fp)
  have mid := bk_step (Y := Y) (scope := scope) (ep := ep) (d := 1) (acc := .ref s2.heap.objs.size) (vs := vs2) (D := fun σ σ' => σ' = σ) hc hxe (gens := gens3 t0 i0 t1 i1 t2 i2) rfl (hs2 _) (hi2 s3 H3 s3.heap.objs.size cl fp) (hg2 s3 H3 s3.heap.objs.size cl fp) (fun it => turn3_2 it _ _)
    (fun it pl s σ H Nx Q E I hB hq => last pl s σ H Nx Q E _ I hB fun H' s' I' nx => hq σ H' s' I' rfl nx) (fun σ σ2 σ' hw hd => by subst hd; rw [← hw]; exact Le.wipe _ _)
  have top := bk_step (Y := Y) (scope := scope) (ep := ep) (d := 0) (acc := .ref s2.heap.objs.size) (vs := vs1) (D := fun σ σ' => σ' = wipe σ vs2) hc hxe (gens := gens3 t0 i0 t1 i1 t2 i2) rfl (hs1 _) (hi1 s3 H3 s3.heap.objs.size cl fp) (hg1 s3 H3 s3.heap.objs.size cl fp) (fun it => turn3_1 it _ _)
    (fun it pl s σ H Nx Q E I hB hq => mid pl s σ H Nx Q E _ I hB fun H' s' I' nx => hq _ H' s' I' rfl nx) (fun σ σ2 σ' hw hd => by subst hd; rw [← hw]; exact Le.wipes hv2)
  have loop : ∀ R : Result → Shared → Prop, (∀ s' H', L2.Inv Y [] (wipe σ (own.map (·.2))) H' s' → Q (.ref s2.heap.objs.size) H' → R (.ok .next) s') → codeAny (model Y.prog Y.w) Y.A (.compLoop (.SetComp elt (gens3 t0 i0 t1 i1 t2 i2) scope ep) 0 (.ref it) (.ref s2.heap.objs.size) Y.env) R _ := fun R hR =>
    loop_lvl (Y := Y) (σ0 := wipe σ (own.map (·.2))) (pins := []) (C := fun σ2 => wipe σ2 (own.map (·.2)) = wipe σ (own.map (·.2))) (B := lvlR wi1 g1 vs1 (lvlR wi2 g2 vs2 (lastR Y.prog Y.w s2.heap.objs.size te))) (tt := tYes) (W := W) (N := fun H' => Q (.ref s2.heap.objs.size) H') hc hxe (turn3_0 _ _ _) T (hg0 s3 H3 s3.heap.objs.size cl fp) pts_nil
      (fun pl2 s σ2 H Nx2 Q E I hC hB hq => top pl2 s σ2 H Nx2 Q E _ I hB fun H' s' I' nx => hq _ H' s' I' (by rw [← hC]; exact Le.wipes hv1) nx)
      (fun σ2 hC => by have z := Le.wipe σ2 (own.map (·.2)); rw [hC] at z; exact z) turn hR m0 0 H3 _ I4 st4 (stat I4 fun b hb => (f3 b hb).1.1) w0
  have fin : ∀ s6 H5, L2.Inv Y [] (wipe σ (own.map (·.2))) H5 s6 → Q (.ref s2.heap.objs.size) H5 → compPost (model X.prog X.w) X.A X.xe none (EP X pins σ Q) (.ref s2.heap.objs.size) s3.heap.objs.size (.ok .next) s6 := fun s6 H5 I6 qq => by
    have I7 : L2.Inv X pins σ H5 s6 := Inv.call' I3 I6.os I6.base I6.hok I6.bare fun b hb => ⟨(f3 b hb).1.2.2.2.1, (f3 b hb).1.2.1, (f3 b hb).1.2.2.2.2.1, (f3 b hb).1.2.2.2.2.2⟩
    have nC : H5 s3.heap.objs.size = none := I6.free
    obtain ⟨m, hn, _⟩ := I6.loc
    obtain ⟨k0, k1, k2, k3, k4, k5⟩ := Inv.fpOk I3 (Nat.le_refl _) nC
    exact ⟨m, hn, fun h'' sb => ⟨.ref s2.heap.objs.size, H5, Inv.turned I7 (fun b o hb e => (sb.2 b hb).trans e) k0 k1 k3 k4 k5, rfl, qq⟩⟩
  refine start_lvl (d := 0) (t := t0) (i := i0) (ifs := []) rfl ?_ ?_
  · exact loop _ fin
  · exact T.self _ 0 _ _ _ st4 (loop _ fin)
end
end Rw
namespace Rw
open PySem PySem.Spec PyProof.Rows L2
/-! ### Program.names -/
theorem scNames : FnScope ["self", "row", "part", "name"] ["self"] (defScope sNames) := ⟨rfl, rfl, rfl, by decide +kernel, rfl, by decide +kernel, by decide +kernel⟩
/-- a walk over a tuple, the heap followed, as one level of a comprehension reads it -/
theorem lvl_tup {K : PySem.W.Frag} {a : Addr} {xs : List V} {H0 : Hp} {Qd : Hp → Prop} {B : V → Hp → (Hp → Prop) → Prop} (Pv : Nat → Hp → Prop) (h0 : Pv 0 H0) (hl : ∀ i H, i ≤ xs.length → Pv i H → SqT K H a xs) (hs : ∀ i x H, xs[i]? = some x → Pv i H → B x H (Pv (i + 1))) (hd : ∀ H, Pv xs.length H → Qd H) :
    ∃ W : Nat → Nat → Hp → Prop, (∃ m, W 0 m H0) ∧ ∀ i m H, W i m H → ((Itt K a).stop i H ∧ Qd H) ∨ ((Itt K a).go i H ∧ ∃ Nx : Hp → Prop, (∀ H', Nx H' → ∃ m', m' < m ∧ W (i + 1) m' H') ∧ ∀ x H', (Itt K a).yld i H x H' → B x H' Nx) := by
  refine ⟨fun i m H => m = xs.length - i ∧ i ≤ xs.length ∧ Pv i H, ⟨xs.length, by simp, Nat.zero_le _, h0⟩, ?_⟩
  rintro i m H ⟨rfl, hi, p⟩
  have hS := hl i H hi p
  by_cases hlt : i < xs.length
  · refine .inr ⟨⟨xs, xs[i], hS, List.getElem?_eq_getElem hlt⟩, Pv (i + 1), fun H' p' => ⟨xs.length - (i + 1), by omega, rfl, hlt, p'⟩, fun y H' yy => ?_⟩
    obtain ⟨rfl, fv⟩ := yy
    exact hs i y _ (fv xs hS) p
  · have e : i = xs.length := by omega
    subst e
    exact .inl ⟨⟨xs, hS, Nat.le_refl _⟩, hd H p⟩
/-- the names of a rule, of rules -/
def ownN (r : Rl) : W := (parts r).flatMap id
def namesL (S : List Rl) : W := S.flatMap ownN
theorem ownN_len {r : Rl} (h : IsR r) : (ownN r).length ≤ 160 := by
  unfold ownN parts
  simp only [List.flatMap_cons, List.flatMap_nil, List.length_append, List.length_nil, id]
  have := h.h.few
  have := h.d.few
  have := h.n.few
  have := h.b.few
  omega
section
variable {P : Program} {w : World} {K : PySem.W.Frag} {mg : Str → Option Value} {base : Heap} {f : Addr} {fd : FuncData} {k : Nat}
/-- the sorted names of a program whose names are among few -/
def spNames (K : PySem.W.Frag) (C : Addr) : Sp := fun vs H Q _ => ∃ (v : V) (S : List Rl) (bd : W), vs = [v] ∧ PgAt K C H v S ∧ (∀ r ∈ S, IsR r) ∧ (∀ z ∈ namesL S, z ∈ bd) ∧ bd.length ≤ 40 ∧ ∀ H' t (ns : W), Same H H' → SqT K H' t (ns.map V.str) → IsW ns → (∀ z, z ∈ ns ↔ z ∈ namesL S) → Q (.ref t) H'
theorem ok_names {C : Addr} (F : Fun K "names" "Program.names" sNames f fd) (T : Bl mg) (c : Cls K C) (n : NoAttr K C "_rules") : FnOk P w K mg base CX0 (k + 1) f fd ["self"] (spNames K C) := by
  refine F.ok scNames (fun vs H Q E h => ?_) (fun cdv A outer s H vs Q E hr h => ?_)
  · obtain ⟨v, S, bd, rfl, _⟩ := h
    rfl
  obtain ⟨v, S, bd, rfl, ⟨a, dx, t, ys, rfl, h1, h2, h3⟩, hI, hbd, b40, q⟩ := h
  refine ⟨_, pss_one (ps_ret (pe_callTy call_tuple_of (by rfl) T.tuple (by decide +kernel) (pa_cons (pe_callB (cr_sortX rfl hr.units) (by rfl) T.sorted (by decide +kernel) (pa_cons
    (pe_sc3 (own := [("row", 1), ("part", 2), ("name", 3)]) (vs1 := [2, 3]) (vs2 := [3]) (g0 := gName 1) (g1 := gName 2) (g2 := gName 3) (wi1 := iTup K (tVar 1)) (wi2 := iTup K (tVar 2)) (te := tVar 3) rfl scNames.nd (pi_tup (pe_fld (pv 0) rfl)) (blkOk_by (N := ["self", "row", "part", "name"]) (sc := defScope sNames) (by decide +kernel)) (by decide) (by decide)
      (fun _ _ _ _ _ => pg_name (i := 1) scNames.nd rfl (Or.inl rfl)) (fun _ _ _ _ _ => pi_tup (pv 1)) (fun _ _ _ _ _ => pg_name (i := 2) scNames.nd rfl (Or.inl rfl)) (fun _ _ _ _ _ => pi_tup (pv 2)) (fun _ _ _ _ _ => pg_name (i := 3) scNames.nd rfl (Or.inl rfl)) (fun _ _ _ _ _ => pv 3)) pa_nil)) pa_nil))), ?_⟩
  have yl : ys.length = S.length := by rw [dpAll_len h3, List.length_map]
  have few : ∀ ms : W, ms.Nodup → (∀ z ∈ ms, z ∈ bd) → ms.length ≤ 40 := fun ms nd h => Nat.le_trans (nodup_len_le nd h) b40
  have sb : scanBound = 4096 := rfl
  refine ⟨.ref a, rfl, a, C, dx, _, .ref t, rfl, h1, c, n, rfl, t, rfl, ⟨_, h2⟩, fun D hD => ?_⟩
  refine lvl_tup (xs := ys) (fun i H1 => Same H H1 ∧ ∃ ms : W, H1 D = some (XSetO P w D ms) ∧ ms.Nodup ∧ ∀ z, z ∈ ms ↔ z ∈ namesL (S.take i)) ⟨same_new hD _, [], upd_same, List.nodup_nil, fun z => Iff.rfl⟩ (fun i H1 _ hI => same_tup hI.1 h2) (fun i x H1 hx hI1 => ?_) (fun H1 hI1 => ?_)
  · obtain ⟨sm, ms, hm, nd, mem⟩ := hI1
    obtain ⟨dd, hdd, hxd⟩ := dpAll_at' h3 hx
    obtain ⟨r, hr0, rfl⟩ := map_at hdd
    have hrS := List.mem_of_getElem? hr0
    have hr' := hI r hrS
    have own_bd : ∀ z ∈ ownN r, z ∈ bd := fun z hz => hbd z (List.mem_flatMap.mpr ⟨r, hrS, hz⟩)
    have top_bd : ∀ z ∈ namesL (S.take i), z ∈ bd := fun z hz => by
      obtain ⟨q, hq, hz⟩ := List.mem_flatMap.mp hz
      exact hbd z (List.mem_flatMap.mpr ⟨q, List.mem_of_mem_take hq, hz⟩)
    have step : namesL (S.take (i + 1)) = namesL (S.take i) ++ ownN r := by
      unfold namesL
      rw [take_snoc hr0, List.flatMap_append]
      simp
    unfold rd at hxd
    cases hxd with
    | @tup b xs _ hT hxs =>
      have xl : xs.length = (parts r).length := by rw [dpAll_len hxs, List.length_map]
      refine ⟨rfl, .ref b, rfl, b, rfl, ⟨_, same_tup sm hT⟩, ?_⟩
      refine lvl_tup (xs := xs) (fun j H2 => Same H H2 ∧ ∃ ms : W, H2 D = some (XSetO P w D ms) ∧ ms.Nodup ∧ ∀ z, z ∈ ms ↔ z ∈ namesL (S.take i) ∨ z ∈ ((parts r).take j).flatMap id) ⟨sm, ms, hm, nd, fun z => by rw [mem z]; simp⟩ (fun j H2 _ hI => same_tup hI.1 hT) (fun j y H2 hy hI2 => ?_) (fun H2 hI2 => ?_)
      · obtain ⟨sm2, ms2, hm2, nd2, mem2⟩ := hI2
        obtain ⟨d, hdi, hyd⟩ := dpAll_at' hxs hy
        obtain ⟨p, hp, rfl⟩ := map_at hdi
        obtain ⟨u, rfl, hU⟩ := of_wd hyd
        have in_own : ∀ z ∈ ((parts r).take j).flatMap id, z ∈ ownN r := fun z hz => by
          obtain ⟨q, hq, hz⟩ := List.mem_flatMap.mp hz
          exact List.mem_flatMap.mpr ⟨q, List.mem_of_mem_take hq, hz⟩
        have p_own : ∀ z ∈ p, z ∈ ownN r := fun z hz => List.mem_flatMap.mpr ⟨p, List.mem_of_getElem? hp, hz⟩
        refine ⟨rfl, .ref u, rfl, u, rfl, ⟨_, same_tup sm2 hU⟩, ?_⟩
        refine lvl_tup (xs := p.map V.str) (fun l H3 => Same H H3 ∧ ∃ ms : W, H3 D = some (XSetO P w D ms) ∧ ms.Nodup ∧ ∀ z, z ∈ ms ↔ (z ∈ namesL (S.take i) ∨ z ∈ ((parts r).take j).flatMap id) ∨ z ∈ p.take l) ⟨sm2, ms2, hm2, nd2, fun z => by rw [mem2 z]; simp⟩ (fun l H3 _ hI => same_tup hI.1 hU) (fun l v H3 hv hI3 => ?_) (fun H3 hI3 => ?_)
        · obtain ⟨sm3, ms3, hm3, nd3, mem3⟩ := hI3
          obtain ⟨z, hz, rfl⟩ := map_at hv
          have f3 := few ms3 nd3 fun z hz => by
            rcases (mem3 z).mp hz with (h | h) | h
            · exact top_bd z h
            · exact own_bd z (in_own z h)
            · exact own_bd z (p_own z (List.mem_of_mem_take h))
          refine ⟨rfl, .str z, rfl, z, ms3, rfl, hm3, by omega, fun ms' nd' hm' _ => ⟨same_put sm3 hD, ms', upd_same, nd', fun u => ?_⟩⟩
          rw [hm' u, mem3 u, take_snoc hz, List.mem_append, List.mem_singleton]
          exact ⟨fun h => h.elim (fun e => .inr (.inr e)) fun h => h.elim .inl fun h => .inr (.inl h), fun h => h.elim (fun h => .inr (.inl h)) fun h => h.elim (fun h => .inr (.inr h)) .inl⟩
        · obtain ⟨sm3, ms3, hm3, nd3, mem3⟩ := hI3
          rw [List.length_map, List.take_length] at mem3
          refine ⟨sm3, ms3, hm3, nd3, fun z => ?_⟩
          rw [mem3 z, take_snoc hp, List.flatMap_append, List.mem_append]
          simp [or_assoc]
      · obtain ⟨sm2, ms2, hm2, nd2, mem2⟩ := hI2
        rw [xl, List.take_length] at mem2
        refine ⟨sm2, ms2, hm2, nd2, fun z => ?_⟩
        rw [mem2 z, step, List.mem_append]
        exact Iff.rfl
  · obtain ⟨sm, ms, hm, nd, mem⟩ := hI1
    rw [yl, List.take_length] at mem
    have f1 := few ms nd fun z hz => hbd z ((mem z).mp hz)
    refine ⟨D, ms, rfl, hm, by omega, fun zs L hz nz hlz rz hL => ?_⟩
    have sL := same_new hL (.lst (zs.map V.str))
    refine ⟨L, _, rfl, .inl ⟨SqL.of upd_same, fun t2 ht2 => ?_⟩⟩
    have s2 := same_new ht2 (.tup (zs.map V.str))
    have nam : ∀ z ∈ namesL S, nameB z = true := fun z hz => by
      obtain ⟨r, hr, hz⟩ := List.mem_flatMap.mp hz
      obtain ⟨p, hp, hz⟩ := List.mem_flatMap.mp hz
      exact ((hI r hr).all p hp).names z hz
    have memz : ∀ z, z ∈ zs ↔ z ∈ namesL S := fun z => (hz z).trans (mem z)
    exact q _ t2 zs (sm.trans (sL.trans s2)) (SqT.of upd_same) ⟨fun z hz => nam z ((memz z).mp hz), upX_of rz nz, by omega⟩ memz
end
end Rw
namespace Rw
open PySem PySem.Spec PyProof.Rows L2
/-! ### {**a, **b} of dicts whose keys are ints and texts -/
section
variable {prog : Program} {w : World} {A : Around} {E : Value → Shared → Prop} {s : Shared}
theorem key_noref {k : Key} {v : Value} (h : (mixKind prog w).is k v = true) : ∀ b, v ≠ .ref b := fun b e => by
  subst e
  cases k <;> exact absurd h Bool.false_ne_true
theorem wpAny_dictPut {K : Type} [DecidableEq K] {knd : KeyKind prog w K} {d : Addr} {kvs : List (K × Value)} {k : K} {key v : Value} {Q : Unit → Shared → Prop} (hkey : knd.is k key = true) (hm : s.heap.DictOf knd d kvs)
    (hQ : ∀ h', h'.DictOf knd d (stored kvs k v) → Heap.SameBut d s.heap h' → Q () { s with heap := h' })
    (hsz : kvs.length ≤ sizeLine) :
    wpAny (model prog w) A (dictPut d (knd.hash k) key v) Q E s := by
  obtain ⟨o, es, ep, ho, hc, hd, hk, hp, hn⟩ := hm
  have hes : es.size ≤ sizeLine := by have e1 := hp.length; have e2 : es.toList.length = es.size := by simp
                                      omega
  unfold dictPut
  refine wpAny_bind (wpAny_dictFind_of hkey ho hd hk ?_)
  have hidx : (es.findIdx? fun e => knd.is k e.key) = kvs.findIdx? fun kv => decide (kv.1 = k) := by
    rw [← hp.findIdx k]; obtain ⟨l⟩ := es; simp
  cases hi : es.findIdx? fun e => knd.is k e.key with
  | some i =>
    refine wpAny_updateDict ho hd (hQ _ ⟨_, _, ep, Heap.get?_update_self _ ho (Obj.isFreed_of_dict (Obj.data_mapDict hd _)),
      hc.mapDict _, Obj.data_mapDict hd _, hk.modify _ _, ?_, ?_⟩ (Heap.SameBut.update ..))
    · rw [stored, if_pos (any_of_findIdx_some (hidx ▸ hi))]
      have hl : (es.toList.findIdx? fun e => knd.is k e.key) = some i := by rw [← hi]; obtain ⟨l⟩ := es; simp
      have := hp.modify hn hl v
      obtain ⟨l⟩ := es
      simpa using this
    · rw [stored, if_pos (any_of_findIdx_some (hidx ▸ hi)), keys_map_store]; exact hn
  | none =>
    have hnot : k ∉ kvs.map (·.1) := not_mem_of_findIdx_none (hidx ▸ hi)
    have hany : ¬ (kvs.any fun kv => decide (kv.1 = k)) = true := by
      rw [List.any_eq_true]; rintro ⟨kv, hkv, he⟩
      exact hnot (List.mem_map.mpr ⟨kv, hkv, of_decide_eq_true he⟩)
    refine wpAny_updateDictKeys (hz := hes) ho hd (hQ _ ⟨_, _, ep + 1, Heap.get?_update_self _ ho (Obj.isFreed_of_dict (Obj.data_mapDictKeys hd _)),
      hc.mapDictKeys _, Obj.data_mapDictKeys hd _, hk.push hkey _, ?_, ?_⟩ (Heap.SameBut.update ..))
    · rw [stored, if_neg hany]
      have := hp.append hkey (knd.hash k) v
      obtain ⟨l⟩ := es
      simpa using this
    · rw [stored, if_neg hany, List.map_append, List.nodup_append]
      refine ⟨hn, by simp, ?_⟩
      intro a ha b hb
      simp only [List.map_cons, List.map_nil, List.mem_singleton] at hb
      subst hb
      exact fun e => hnot (e ▸ ha)
theorem wpAny_mergeMapping {d o : Addr} {kvs more : List (Key × Value)} {Q : Unit → Shared → Prop} (hdo : d ≠ o) (hoS : (o == sysModules) = false)
    (hd : s.heap.DictOf (mixKind prog w) d kvs) (ho : s.heap.DictOf (mixKind prog w) o more)
    (hQ : ∀ h', h'.DictOf (mixKind prog w) d (merged kvs more) → Heap.SameBut d s.heap h' → Q () { s with heap := h' })
    (hsz : kvs.length + more.length ≤ sizeLine) :
    wpAny (model prog w) A (mergeMapping d (.ref o) false) Q E s := by
  obtain ⟨od, esd, epd, hod, hcd, hdd, hkd, hpd, hnd⟩ := id hd
  obtain ⟨oo, eso, epo, hoo, hco, hdo', hko, hpo, hno⟩ := id ho
  have hlen : more.length = eso.size := by rw [← hpo.length]; simp
  unfold mergeMapping
  refine wpAny_bind (wpAny_isInstance ho.typeIs isSubtype_dict_dict ?_)
  rw [if_pos rfl]
  refine wpAny_bind (wpAny_specialOf ho.typeIs PySem.F.slot_dict_iter.lookup (wpAny_bind (wpAny_pure ?_)))
  rw [show (some (Value.builtin "dict.__iter__") == some (Value.builtin "dict.__iter__")) = true from by decide]
  dsimp only
  rw [if_neg (by rw [hoS]; exact Bool.false_ne_true)]
  refine wpAny_bind (wpAny_dictEntries hod hdd ?_)
  have loop : wpAny (model prog w) A (do
      let l ← dictEntries o
      let epoch ← dictEpoch o
      forIn (List.range l.size) PUnit.unit fun i (_ : PUnit) => (do
          let l' ← dictEntries o
          match l'[i]? with
            | some e => do
              holding [e.key, e.val] (dictPut d e.hash e.key e.val)
              let ep' ← dictEpoch o
              if (ep' != epoch) = true then do
                  (unsupported "dict.changed-during-merge" : Sem PUnit)
                  pure (ForInStep.yield PUnit.unit)
                else pure (ForInStep.yield PUnit.unit)
            | _ => do
              (unsupported "dict.changed-during-merge" : Sem PUnit)
              pure (ForInStep.yield PUnit.unit) : Sem (ForInStep PUnit))
      pure ()) Q E s := by
    refine wpAny_bind (wpAny_dictEntries hoo hdo' ?_)
    refine wpAny_bind (wpAny_dictEpoch hoo hdo' ?_)
    refine wpAny_bind ?_
    refine wpAny_forIn_list _
      (fun rest _ s' => ∃ h' i, s' = { s with heap := h' } ∧ rest = List.range' i (eso.size - i) ∧ i ≤ eso.size ∧ h'.DictOf (mixKind prog w) d (merged kvs (more.take i)) ∧ h'.get? o = some oo ∧ Heap.SameBut d s.heap h')
      _ ?_ ?_ _ _ ⟨s.heap, 0, rfl, by rw [List.range_eq_range', Nat.sub_zero], Nat.zero_le _, by simpa [merged] using hd, hoo, Heap.SameBut.refl _ _⟩
    · rintro x rest b s' ⟨h', i, rfl, hr, hi, hd', hoo', hs'⟩
      have hlt : i < eso.size := by
        rcases Nat.lt_or_ge i eso.size with h | h
        · exact h
        · rw [Nat.sub_eq_zero_of_le h] at hr; simp at hr
      obtain ⟨rfl, hrest⟩ : x = i ∧ rest = List.range' (i + 1) (eso.size - (i + 1)) := by
        have e : eso.size - i = (eso.size - (i + 1)) + 1 := by omega
        rw [e, List.range'_succ] at hr
        injection hr with h1 h2
        exact ⟨h1, h2⟩
      refine wpAny_bind (wpAny_dictEntries hoo' hdo' ?_)
      rw [Array.getElem?_eq_getElem hlt]
      obtain ⟨kv, hkv⟩ : ∃ kv, more[x]? = some kv := ⟨more[x]'(by rw [hlen]; exact hlt), List.getElem?_eq_getElem _⟩
      obtain ⟨k, v⟩ := kv
      obtain ⟨hkey, hval⟩ := hpo.get? (e := eso[x]) (by simp [hlt]) hkv
      obtain ⟨k', hkey', hhash⟩ := hko eso[x] (Array.getElem_mem hlt)
      obtain rfl : k' = k := (mixKind prog w).inj _ _ _ hkey' hkey
      show wpAny _ _ (holding [eso[x].key, eso[x].val] (dictPut d eso[x].hash eso[x].key eso[x].val) >>= _) _ _ _
      rw [hhash, hval]
      have hmx : (merged kvs (more.take x)).length ≤ sizeLine := by
        have e1 := merged_length_le kvs (more.take x)
        have e2 : (more.take x).length ≤ more.length := by rw [List.length_take]; omega
        omega
      refine wpAny_bind (wpAny_holding (wpAny_dictPut (hsz := hmx) hkey hd' fun h'' hd'' hs'' => ?_))
      have hoo'' : h''.get? o = some oo := (hs''.2 o (Ne.symm hdo)).trans hoo'
      refine wpAny_bind (wpAny_dictEpoch hoo'' hdo' ?_)
      rw [if_neg (by simp)]
      exact wpAny_pure ⟨h'', x + 1, rfl, hrest, hlt, by rw [merged_take_succ kvs more x (k', v) hkv]; exact hd'', hoo'', hs'.trans hs''⟩
    · rintro b s' ⟨h', i, rfl, hr, hi, hd', hoo', hs'⟩
      have hin : i = eso.size := by
        rcases Nat.lt_or_ge i eso.size with h | h
        · have e : eso.size - i = (eso.size - (i + 1)) + 1 := by omega
          rw [e, List.range'_succ] at hr; exact nomatch hr
        · exact Nat.le_antisymm hi h
      refine wpAny_pure (hQ h' ?_ hs')
      rw [hin, ← hlen, List.take_length] at hd'; exact hd'
  simp only [Bool.false_eq_true, if_false]
  split
  · refine wpAny_bind (wpAny_dictEntries hoo hdo' ?_)
    have hloop : (forIn eso PUnit.unit fun e (_ : PUnit) => (match e.key with
      | Value.ref a => do
        let q ← specialOf e.key "__eq__"
        if (q != some (Value.builtin "object.__eq__")) = true then
            if (Array.filter (fun x => x.hash == e.hash) eso).size > 1 then do
              (unsupported "dict.merge-into-an-empty-dict:keys-of-equal-hash" : Sem PUnit)
              pure (ForInStep.yield PUnit.unit)
            else pure (ForInStep.yield PUnit.unit)
          else pure (ForInStep.yield PUnit.unit)
      | x => pure (ForInStep.yield PUnit.unit) : Sem (ForInStep PUnit))) = pure PUnit.unit := by
      rw [← Array.forIn_toList]
      refine forIn_yield_id _ fun e he c => ?_
      obtain ⟨k, hkey, _⟩ := hko e (Array.mem_toList_iff.mp he)
      have nr := key_noref hkey
      cases ek : e.key with
      | ref b => exact absurd ek (nr b)
      | _ => rfl
    exact wpAny_bind (wpAny_of_eq hloop loop)
  · exact loop
end
/-! ### y = {k: v for ..} -/
theorem ps_setDc {X : Cx} {i : Nat} {y : Str} {py : Pos} {kx vx tg iter : Expr} {ifs : List Expr} {scope : Scope} {own : List (Str × Nat)} {pos spos : Pos} {wi : TI} {g : TG} {tt : L2.TT} {tk tv : TE} (hc : X.calm = true) (hN : X.N.Nodup) (hy : X.N[i]? = some y) (hyl : X.env.scope.names.lookup y = some .local)
    (hsw : swapsWith (.DictComp kx vx [⟨tg, iter, ifs, 0⟩] scope pos) (some (.Name y py)) spos.line X.env = pure true) (hi : PI X tg iter wi) (ok : BlkOk X.N X.env.scope scope own)
    (hg : ∀ (s : Shared) (H : Hp) (C : Addr) (cl : List (Str × Addr)) (fp : List Addr), PG (X.blk s H scope (compEnvC scope cl C X.env) fp) tg g) (ht : ∀ (s : Shared) (H : Hp) (C : Addr) (cl : List (Str × Addr)) (fp : List Addr), PTs (X.blk s H scope (compEnvC scope cl C X.env) fp) ifs tt)
    (hk : ∀ (s : Shared) (H : Hp) (C : Addr) (cl : List (Str × Addr)) (fp : List Addr), PE (X.blk s H scope (compEnvC scope cl C X.env) fp) kx tk)
    (he : ∀ (s : Shared) (H : Hp) (C : Addr) (cl : List (Str × Addr)) (fp : List Addr), PE (X.blk s H scope (compEnvC scope cl C X.env) fp) vx tv) (hs : ∀ x, foldedSetIterable iter X.env x = pure x := by intro _; rfl) :
    PS X (.Assign [.Name y py] (.DictComp kx vx [⟨tg, iter, ifs, 0⟩] scope pos) spos) (tAsg (tDc wi g tt tk tv (own.map (·.2))) (gName i)) := by
  refine ⟨fun pins s σ H D I h => ?_⟩
  rw [exec_Assign_Name_used _ _ _ _ hsw]
  refine wpAny_bind (wpAny_standAt (wpAny_bind ?_))
  show wpAny _ X.A (do let _ ← comprehension (.DictComp kx vx [⟨tg, iter, ifs, 0⟩] scope pos) scope X.env (firstIterPos [⟨tg, iter, ifs, 0⟩] pos) newDict false (eval iter X.env) (some (assign (.Name y py) X.env))) _ _ s
  have h : tDc wi g tt tk tv (own.map (·.2)) σ H (fun x H1 => gName i x σ H1 D.nx) := h
  refine wpAny_bind (thn (dc_core (Qf := fun _ s' => SP X pins D .next s') hc hN I hi ok hg ht hk he hs h fun L C s' m H' I' q hn f => ?_) fun _ s' hq => wpAny_pure (wpAny_pure hq))
  show wpAny _ _ (assign (.Name y py) X.env (.ref L)) _ _ _
  refine wpAny_assign_Name (store_ok2 (v := V.ref L) I' hN hy (.inl hyl) rfl (fun s2 I2 ⟨a, sb, ha⟩ => ?_) (.inr hyl))
  obtain ⟨f0, f1, f2, f3, f4, f5⟩ := f
  have haC : C ≠ a := by
    rcases ha with z | z
    · rw [z]; exact f1
    · exact fun e => f4 y a z e.symm
  refine ⟨m, hn.sameBut sb haC, fun h3 sb3 => ?_⟩
  exact ⟨_, H', I2.turned (t' := s2.toks) (fun b o hb e => (sb3.2 b hb).trans e) f0 f1 f3 f4 f5, q⟩
def tStar2 (ta tb : TE) : TE := fun σ H Q => ∀ D, H D = none → ta σ (upd H D (.dK [])) fun x H1 => ∃ a ks, x = .ref a ∧ a ≠ D ∧ Rd H1 a (.dK ks) ∧ H1 D = some (.dK []) ∧
  tb σ (upd H1 D (.dK (mergeK [] ks))) fun y H2 => ∃ b ls, y = .ref b ∧ b ≠ D ∧ Rd H2 b (.dK ls) ∧ H2 D = some (.dK (mergeK [] ks)) ∧ (mergeK [] ks).length + ls.length ≤ sizeLine ∧ Q (.ref D) (upd H2 D (.dK (mergeK (mergeK [] ks) ls)))
section
variable {X : Cx} {pins : List (Addr × Obj)} {σ : L2.St} {H : Hp} {s : Shared}
theorem d_merge {D a : Addr} {kvs ks : List (Key × V)} {A : Around} {E : Value → Shared → Prop} {Q : Unit → Shared → Prop} (I : Inv X pins σ H s) (hD : H D = some (.dK kvs)) (ha : Rd H a (.dK ks)) (ne : a ≠ D) (hz : kvs.length + ks.length ≤ sizeLine) (h : ∀ s', Inv X pins σ (upd H D (.dK (mergeK kvs ks))) s' → Q () s') :
    wpAny (model X.prog X.w) A (mergeMapping D (.ref a) false) Q E s := by
  obtain ⟨z, hd, vs, rel, dd⟩ := dk_of I.hok hD
  obtain ⟨z2, hd2, vs2, rel2, dd2⟩ := dk_rd I.hok ha
  have hl : (mergeK kvs ks).length ≤ sizeLine := Nat.le_trans (length_mergeK ks kvs) hz
  refine wpAny_mergeMapping (Ne.symm ne) hd2 dd dd2 (fun h' dd' hs => h _ ?_) (by rw [← rel.length, ← rel2.length]; exact hz)
  have he : ∃ q, h'.get? D = some q := let ⟨q, _, _, hq, _⟩ := dd'; ⟨q, hq⟩
  exact d_write I (by rw [hD]; exact True.intro) hs he (dk_new hl hd (KV.merge rel2 rel) dd')
theorem pe_dstar2 {a b : Expr} {ta tb : TE} {pos : Pos} (ha : PE X a ta) (hb : PE X b tb) : PE X (.Dict [none, none] [a, b] pos) (tStar2 ta tb) := by
  refine ⟨fun pins s σ H Q I h => ?_⟩
  rw [arm_eval_Dict]
  refine wpAny_bind (wpAny_standAt ?_)
  show wpAny _ _ (dictDisplay [(none, do let x ← eval a X.env; standAt pos; pure x), (none, do let x ← eval b X.env; standAt pos; pure x)]) _ _ s
  unfold dictDisplay
  simp only [List.forIn_cons, List.forIn_nil, List.isEmpty_nil, if_true, pure_bind]
  have I1 := I.laid (a := s.heap.objs.size) (o := .dK []) (t' := s.toks) (fun _ _ q => Heap.get?_push_of_some _ q) (Nat.le_refl _) (dk_empty s.heap I.big)
  have q1 := h s.heap.objs.size (I.hok.fresh (Nat.le_refl _))
  refine wpAny_bind (wpAny_bind (wpAny_bind (wpAny_alloc ?_)))
  refine wpAny_bind (wpAny_holding (wpAny_bind (thn (ha.run pins _ σ _ _ I1 q1) fun v s2 ⟨x, H2, I2, rx, p, ks, ex, ne, hp, hD, q2⟩ => wpAny_bind (wpAny_standAt (wpAny_pure ?_)))))
  subst ex
  obtain rfl : v = Value.ref p := rx
  refine wpAny_bind (wpAny_onRaise (wpAny_tryCatch (wpAny_onRaise (wpAny_holding (d_merge I2 hD hp ne (by rw [List.length_nil, Nat.zero_add]; exact (dk_rd I2.hok hp).1) fun s3 I3 => ?_)))))
  refine wpAny_pure ?_
  dsimp only
  simp only [List.isEmpty_nil, if_true, pure_bind]
  refine wpAny_bind (wpAny_bind (wpAny_holding (wpAny_bind (thn (hb.run pins _ σ _ _ I3 q2) fun v s4 ⟨y, H4, I4, ry, p2, ls, ey, ne2, hp2, hD2, hz, q4⟩ => wpAny_bind (wpAny_standAt (wpAny_pure ?_))))))
  subst ey
  obtain rfl : v = Value.ref p2 := ry
  refine wpAny_bind (wpAny_onRaise (wpAny_tryCatch (wpAny_onRaise (wpAny_holding (d_merge I4 hD2 hp2 ne2 hz fun s5 I5 => ?_)))))
  refine wpAny_pure (wpAny_pure ?_)
  simp only [List.isEmpty_nil, if_true, pure_bind]
  exact wpAny_pure ⟨.ref s.heap.objs.size, _, I5, rfl, q4⟩
end
end Rw
namespace Rw
open PySem PySem.Spec PyProof.Rows L2
/-! ### dicts of names, and dicts of such dicts -/
def ND (names : W) (g : Str → V) : HO := .dK (names.map fun z => (.inr z, g z))
/-- a dict with these names, all True -/
def SDl (l : W) : List (Key × V) := l.map fun y => (.inr y, .bl true)
def SD (l : W) : HO := .dK (SDl l)
def ins (l : W) (y : Str) : W := if y ∈ l then l else l ++ [y]
def uni (l m : W) : W := m.foldl ins l
theorem any_key {l : W} {g : Str → V} {y : Str} : ((l.map fun z => ((.inr z : Key), g z)).any fun kv => decide (kv.1 = .inr y)) = decide (y ∈ l) := by
  rw [List.any_map]
  by_cases h : y ∈ l
  · rw [decide_eq_true h, List.any_eq_true]
    exact ⟨y, h, decide_eq_true rfl⟩
  · rw [decide_eq_false h, List.any_eq_false]
    intro z hz
    simp only [Function.comp, decide_eq_true_eq]
    exact fun e => h (Sum.inr.inj e ▸ hz)
theorem put_sd {l : W} {y : Str} : putK (SDl l) (.inr y) (.bl true) = SDl (ins l y) := by
  unfold putK SDl ins
  rw [any_key]
  by_cases h : y ∈ l
  · rw [decide_eq_true h, if_pos rfl, if_pos h, List.map_map]
    refine List.map_congr_left fun z _ => ?_
    show (if (Sum.inr z : Key) = .inr y then ((.inr z : Key), V.bl true) else (.inr z, .bl true)) = _
    by_cases e : (Sum.inr z : Key) = .inr y
    · rw [if_pos e]
    · rw [if_neg e]
  · rw [decide_eq_false h, if_neg Bool.false_ne_true, if_neg h, List.map_append]
    rfl
theorem merge_sd : ∀ {m l : W}, mergeK (SDl l) (SDl m) = SDl (uni l m)
  | [], l => rfl
  | y :: m, l => by
    show mergeK (putK (SDl l) (.inr y) (.bl true)) (SDl m) = _
    rw [put_sd, merge_sd]
    rfl
theorem mem_ins {l : W} {y z : Str} : z ∈ ins l y ↔ z ∈ l ∨ z = y := by
  unfold ins
  by_cases h : y ∈ l
  · rw [if_pos h]
    exact ⟨.inl, fun e => e.elim id fun e => e ▸ h⟩
  · rw [if_neg h, List.mem_append, List.mem_singleton]
theorem mem_uni : ∀ {m l : W} {z : Str}, z ∈ uni l m ↔ z ∈ l ∨ z ∈ m
  | [], l, z => by
    show z ∈ l ↔ _
    simp
  | y :: m, l, z => by
    show z ∈ uni (ins l y) m ↔ _
    rw [mem_uni, mem_ins, List.mem_cons, or_assoc]
theorem nd_ins {l : W} {y : Str} (h : l.Nodup) : (ins l y).Nodup := by
  unfold ins
  by_cases e : y ∈ l
  · rw [if_pos e]
    exact h
  · rw [if_neg e]
    exact nodup_snoc h e
theorem nd_uni : ∀ {m l : W}, l.Nodup → (uni l m).Nodup
  | [], _, h => h
  | y :: m, l, h => nd_uni (m := m) (l := ins l y) (nd_ins h)
theorem valV_nd {g : Str → V} {z : Str} : ∀ {ns : W}, z ∈ ns → valV (ns.map fun y => ((.inr y : Key), g y)) (.inr z) = some (g z)
  | [], h => nomatch h
  | y :: ns, h => by
    rw [List.map_cons]
    by_cases e : y = z
    · subst e
      exact valV_pos rfl
    · rw [valV_neg (fun q => e (Sum.inr.inj q))]
      rcases List.mem_cons.mp h with q | q
      · exact absurd q.symm e
      · exact valV_nd q
theorem valV_no {g : Str → V} {z : Str} : ∀ {ns : W}, z ∉ ns → valV (ns.map fun y => ((.inr y : Key), g y)) (.inr z) = none
  | [], _ => rfl
  | y :: ns, h => by
    rw [List.map_cons, valV_neg (fun q => h (by rw [Sum.inr.inj q]; exact List.mem_cons_self))]
    exact valV_no fun q => h (List.mem_cons_of_mem _ q)
theorem has_sd {l : W} {z : Str} : (valV (SDl l) (.inr z)).isSome = decide (z ∈ l) := by
  unfold SDl
  by_cases h : z ∈ l
  · rw [valV_nd (g := fun _ => V.bl true) h, decide_eq_true h]
    rfl
  · rw [valV_no (g := fun _ => V.bl true) h, decide_eq_false h]
    rfl
def setA (ad : Str → Addr) (z : Str) (p : Addr) : Str → Addr := fun y => if y = z then p else ad y
def setL (L : Str → W) (z : Str) (l : W) : Str → W := fun y => if y = z then l else L y
/-- a dict of dicts -/
structure RD (H : Hp) (F : Addr) (ns : W) (ad : Str → Addr) (L : Str → W) : Prop where
  top : H F = some (ND ns fun z => .ref (ad z))
  low : ∀ z ∈ ns, H (ad z) = some (SD (L z))
  nF : ∀ z ∈ ns, ad z ≠ F
  inj : ∀ y ∈ ns, ∀ z ∈ ns, ad y = ad z → y = z
  nd : ∀ z ∈ ns, (L z).Nodup
  sub : ∀ z ∈ ns, ∀ y ∈ L z, y ∈ ns
theorem RD.same {H H' : Hp} {F : Addr} {ns : W} {ad : Str → Addr} {L : Str → W} (h : RD H F ns ad L) (e : Same H H') : RD H' F ns ad L := ⟨e _ _ h.top, fun z hz => e _ _ (h.low z hz), h.nF, h.inj, h.nd, h.sub⟩
theorem RD.few {H : Hp} {F : Addr} {ns : W} {ad : Str → Addr} {L : Str → W} (h : RD H F ns ad L) : ∀ z ∈ ns, (L z).length ≤ ns.length := fun z hz => len_le (h.nd z hz) (h.sub z hz)
theorem put_ad {names : W} {ad : Str → Addr} {z : Str} {p : Addr} (h : z ∈ names) : putK (names.map fun y => ((.inr y : Key), V.ref (ad y))) (.inr z) (.ref p) = names.map fun y => ((.inr y : Key), V.ref (setA ad z p y)) := by
  unfold putK
  rw [any_key, decide_eq_true h, if_pos rfl, List.map_map]
  refine List.map_congr_left fun y _ => ?_
  show (if (Sum.inr y : Key) = .inr z then ((.inr y : Key), V.ref p) else (.inr y, V.ref (ad y))) = _
  unfold setA
  by_cases e : y = z
  · rw [if_pos (by rw [e]), if_pos e]
  · rw [if_neg (fun q => e (Sum.inr.inj q)), if_neg e]
/-- one name more in one of the dicts -/
theorem RD.add {H : Hp} {F : Addr} {ns : W} {ad : Str → Addr} {L : Str → W} {x y : Str} (h : RD H F ns ad L) (hx : x ∈ ns) (hy : y ∈ ns) : RD (upd H (ad x) (SD (ins (L x) y))) F ns ad (setL L x (ins (L x) y)) := by
  refine ⟨by rw [upd_ne (Ne.symm (h.nF x hx))]; exact h.top, fun z hz => ?_, h.nF, h.inj, fun z hz => ?_, fun z hz w hw => ?_⟩
  · unfold setL
    by_cases e : z = x
    · rw [e, if_pos rfl, upd_same]
    · rw [if_neg e, upd_ne (fun q => e (h.inj z hz x hx q))]
      exact h.low z hz
  · unfold setL
    by_cases e : z = x
    · rw [if_pos e]
      exact nd_ins (h.nd x hx)
    · rw [if_neg e]
      exact h.nd z hz
  · unfold setL at hw
    by_cases e : z = x
    · rw [if_pos e] at hw
      rcases mem_ins.mp hw with q | q
      · exact h.sub x hx w q
      · exact q ▸ hy
    · rw [if_neg e] at hw
      exact h.sub z hz w hw
/-- a new dict in the place of one -/
theorem RD.swap {H : Hp} {F D : Addr} {ns : W} {ad : Str → Addr} {L : Str → W} {x : Str} {l : W} (h : RD H F ns ad L) (hx : x ∈ ns) (hD : H D = some (SD l)) (nDF : D ≠ F) (nD : ∀ z ∈ ns, ad z ≠ D) (hn : l.Nodup) (hs : ∀ y ∈ l, y ∈ ns) : RD (upd H F (ND ns fun z => .ref (setA ad x D z))) F ns (setA ad x D) (setL L x l) := by
  refine ⟨upd_same, fun z hz => ?_, fun z hz => ?_, fun y hy z hz e => ?_, fun z hz => ?_, fun z hz w hw => ?_⟩
  · unfold setA setL
    by_cases e : z = x
    · rw [if_pos e, if_pos e, upd_ne nDF]
      exact hD
    · rw [if_neg e, if_neg e, upd_ne (h.nF z hz)]
      exact h.low z hz
  · unfold setA
    by_cases e : z = x
    · rw [if_pos e]
      exact nDF
    · rw [if_neg e]
      exact h.nF z hz
  · unfold setA at e
    by_cases e1 : y = x
    · by_cases e2 : z = x
      · rw [e1, e2]
      · rw [if_pos e1, if_neg e2] at e
        exact absurd e.symm (nD z hz)
    · by_cases e2 : z = x
      · rw [if_neg e1, if_pos e2] at e
        exact absurd e (nD y hy)
      · rw [if_neg e1, if_neg e2] at e
        exact h.inj y hy z hz e
  · unfold setL
    by_cases e : z = x
    · rw [if_pos e]
      exact hn
    · rw [if_neg e]
      exact h.nd z hz
  · unfold setL at hw
    by_cases e : z = x
    · rw [if_pos e] at hw
      exact hs w hw
    · rw [if_neg e] at hw
      exact h.sub z hz w hw
/-! ### which name leads to which -/
def Use (S : List Rl) (x y : Str) : Prop := ∃ r ∈ S, x ∈ r.1 ∧ y ∈ own r
inductive Lead (S : List Rl) : Str → Str → Prop
  | one {x y : Str} : Use S x y → Lead S x y
  | cons {x y z : Str} : Use S x y → Lead S y z → Lead S x z
theorem Lead.trans {S : List Rl} {x y z : Str} (h : Lead S x y) (g : Lead S y z) : Lead S x z := by
  induction h with
  | one u => exact .cons u g
  | cons u _ ih => exact .cons u (ih g)
end Rw
namespace Rw
open PySem PySem.Spec PyProof.Rows L2
/-! ### _reached -/
theorem scReached : FnScope ["program", "found", "row", "head", "name", "middle"] ["program"] (defScope sReached) := ⟨rfl, rfl, rfl, by decide +kernel, rfl, by decide +kernel, by decide +kernel⟩
/-- the inner dicts are new -/
def NewA (H : Hp) (ns : W) (ad : Str → Addr) : Prop := ∀ z ∈ ns, H (ad z) = none
theorem put_new {names : W} {g : Str → V} {z : Str} {v : V} (h : z ∉ names) : putK (names.map fun y => ((.inr y : Key), g y)) (.inr z) v = (names.map fun y => ((.inr y : Key), g y)) ++ [(.inr z, v)] := by
  unfold putK
  rw [any_key, decide_eq_false h, if_neg Bool.false_ne_true]
theorem RD.grow {H : Hp} {D p : Addr} {ns : W} {ad : Str → Addr} {z : Str} (h : RD H D ns ad fun _ => []) (hz : z ∉ ns) (hp : H p = none) : RD (upd (upd H p (.dK [])) D (.dK (putK (ns.map fun y => ((.inr y : Key), V.ref (ad y))) (.inr z) (.ref p)))) D (ns ++ [z]) (setA ad z p) fun _ => [] := by
  have npD : p ≠ D := fun e => by
    rw [e, h.top] at hp
    cases hp
  have na : ∀ {y}, y ∈ ns → ad y ≠ p := fun hy e => by
    have := h.low _ hy
    rw [e, hp] at this
    cases this
  have ny : ∀ {y}, y ∈ ns → setA ad z p y = ad y := fun {y} hy => by
    unfold setA
    rw [if_neg (fun e => hz (by rw [← e]; exact hy))]
  have nz : setA ad z p z = p := by
    unfold setA
    rw [if_pos rfl]
  refine ⟨?_, fun y hy => ?_, fun y hy => ?_, fun x hx y hy e => ?_, fun _ _ => List.nodup_nil, fun _ _ _ q => nomatch q⟩
  · rw [upd_same, put_new hz]
    unfold ND
    rw [List.map_append]
    have e : (ns.map fun y => ((.inr y : Key), V.ref (ad y))) = ns.map fun y => ((.inr y : Key), V.ref (setA ad z p y)) := List.map_congr_left fun y hy => by rw [ny hy]
    rw [e]
    show some (HO.dK (_ ++ [((.inr z : Key), V.ref p)])) = some (HO.dK (_ ++ [((.inr z : Key), V.ref (setA ad z p z))]))
    rw [nz]
  · rcases List.mem_append.mp hy with q | q
    · rw [ny q, upd_ne (h.nF y q), upd_ne (na q)]
      exact h.low y q
    · rw [List.mem_singleton.mp q, nz, upd_ne npD, upd_same]
      rfl
  · rcases List.mem_append.mp hy with q | q
    · rw [ny q]
      exact h.nF y q
    · rw [List.mem_singleton.mp q, nz]
      exact npD
  · rcases List.mem_append.mp hx with a | a
    · rcases List.mem_append.mp hy with b | b
      · rw [ny a, ny b] at e
        exact h.inj x a y b e
      · rw [ny a, List.mem_singleton.mp b, nz] at e
        exact absurd e (na a)
    · rcases List.mem_append.mp hy with b | b
      · rw [ny b, List.mem_singleton.mp a, nz] at e
        exact absurd e.symm (na b)
      · rw [List.mem_singleton.mp a, List.mem_singleton.mp b]
theorem rd_get {σ : L2.St} {H : Hp} {Q : VK} {F : Addr} {ns : W} {ad : Str → Addr} {L : Str → W} {i j : Nat} {x : Str} (h : RD H F ns ad L) (hi : σ[i]? = some (some (.ref F))) (hj : σ[j]? = some (some (.str x))) (hx : x ∈ ns) (q : Q (.ref (ad x)) H) : tDGet (tVar i) (tVar j) σ H Q :=
  ⟨.ref F, hi, .str x, hj, F, _, rfl, .inl ⟨_, .inr x, .inl h.top, rfl, (valV_nd (g := fun z => V.ref (ad z)) hx).symm⟩, q⟩
/-! the rounds of the middles -/
section
variable {S : List Rl} {ns M : W} {L L0 L2' : Str → W} {m : Str}
/-- closed at the middles of M -/
def ClM (ns M : W) (L : Str → W) : Prop := ∀ k ∈ M, ∀ x ∈ ns, ∀ y, k ∈ L x → y ∈ L k → y ∈ L x
theorem ClM.step (h : ClM ns M L0) (hM : ∀ k ∈ M, k ∈ ns) (hm : m ∈ ns) (e : ∀ x ∈ ns, ∀ y, y ∈ L x ↔ y ∈ L0 x ∨ (m ∈ L0 x ∧ y ∈ L0 m)) : ClM ns (M ++ [m]) L := fun k hk x hx y h1 h2 => by
  have kn : k ∈ ns := by
    rcases List.mem_append.mp hk with q | q
    · exact hM k q
    · rw [List.mem_singleton.mp q]
      exact hm
  have h1' := (e x hx k).mp h1
  have h2' := (e k kn y).mp h2
  rw [e x hx]
  rcases List.mem_append.mp hk with q | q
  · rcases h1' with a | ⟨a1, a2⟩
    · rcases h2' with b | ⟨b1, b2⟩
      · exact .inl (h k q x hx y a b)
      · exact .inr ⟨h k q x hx m a b1, b2⟩
    · rcases h2' with b | ⟨b1, b2⟩
      · exact .inr ⟨a1, h k q m hm y a2 b⟩
      · exact .inr ⟨a1, b2⟩
  · have ek := List.mem_singleton.mp q
    subst ek
    have a : k ∈ L0 x := h1'.elim id fun z => z.1
    have b : y ∈ L0 k := h2'.elim id fun z => z.2
    exact .inr ⟨a, b⟩
theorem lead_all (cl : ClM ns ns L) (hs : ∀ x ∈ ns, ∀ y ∈ L x, y ∈ ns) (hu : ∀ x ∈ ns, ∀ y, Use S x y → y ∈ L x) {x y : Str} (h : Lead S x y) : x ∈ ns → y ∈ L x := by
  induction h with
  | one u => exact fun hx => hu _ hx _ u
  | cons u _ ih =>
    intro hx
    have h1 := hu _ hx _ u
    have h2 := hs _ hx _ h1
    exact cl _ h2 _ hx _ h1 (ih h2)
end
section
variable {P : Program} {w : World} {K : PySem.W.Frag} {mg : Str → Option Value} {base : Heap} {f : Addr} {fd : FuncData} {k : Nat}
def spReached (K : PySem.W.Frag) (C : Addr) : Sp := fun vs H Q _ => ∃ (v : V) (S : List Rl) (bd : W), vs = [v] ∧ PgAt K C H v S ∧ (∀ r ∈ S, IsR r) ∧ S.length < 76 ∧ (∀ z ∈ namesL S, z ∈ bd) ∧ bd.length ≤ 40 ∧
  ∀ H' F ns ad L, Same H H' → RD H' F ns ad L → IsW ns → (∀ z, z ∈ ns ↔ z ∈ namesL S) → (∀ x ∈ ns, ∀ y, y ∈ L x ↔ Lead S x y) → Q (.ref F) H'
theorem ok_reached {C pN pR f1 f2 f3 : Addr} {fd1 fd2 fd3 : FuncData} (F : Fun K "_reached" "_reached" sReached f fd) (T : Bl mg) (c : Cls K C) (hpN : PropOf K C "names" pN f2) (hpR : PropOf K C "rules" pR f3)
    (G1 : FnOk P w K mg base CX0 (k + 1) f1 fd1 ["row"] (spNamesIn K)) (b1 : Binds K fd1 ["row"] []) (k1 : PySem.W.keepIn K (.ref f1) = true) (m1 : mg "_names_in" = some (.ref f1))
    (G2 : FnOk P w K mg base CX0 k f2 fd2 ["self"] (spNames K C)) (b2 : Binds K fd2 ["self"] [])
    (G3 : FnOk P w K mg base CX0 k f3 fd3 ["self"] (spRules K C)) (b3 : Binds K fd3 ["self"] []) : FnOk P w K mg base CX0 (k + 2) f fd ["program"] (spReached K C) := by
  refine F.ok scReached (fun vs H Q E h => ?_) (fun cdv A outer s H vs Q E hr h => ?_)
  · obtain ⟨v, S, bd, rfl, _⟩ := h
    rfl
  obtain ⟨v, S, bd, rfl, hS, hI, few, hbd, lbd, q⟩ := h
  refine ⟨_, pss_cons (ps_setDc (i := 1) (own := [("name", 4)]) (g := gName 4) (tk := tVar 4) (tv := tDNewK) (by rfl) scReached.nd rfl rfl (sw_trueD rfl rfl rfl (by decide +kernel)) (pi_tup (pe_prop (pv 0) c hpN G2 hr b2 .nil pass0 rfl)) (blkOk_by (N := ["program", "found", "row", "head", "name", "middle"]) (sc := defScope sReached) (by decide +kernel))
      (fun _ _ _ _ _ => pg_name (i := 4) scReached.nd rfl (Or.inl rfl)) (fun _ _ _ _ _ => pts_nil) (fun _ _ _ _ _ => pv 4) (fun _ _ _ _ _ => pe_dnewK))
    (pss_cons (ps_for PassesOwn.never rfl (pi_tup (pe_prop (pv 0) c hpR G3 hr b3 .nil pass0 rfl)) (pg_name (i := 2) scReached.nd rfl (.inl rfl))
      (pss_one (ps_for PassesOwn.never rfl (pi_tup (pe_ix ix_tup (pv 2) pe_int (fun _ _ => rfl))) (pg_name (i := 3) scReached.nd rfl (.inl rfl))
        (pss_one (ps_for PassesOwn.never rfl (pi_list (pe_call G1 hr (by rfl) m1 k1 b1 .nil pass0 (pa_cons (pv 2) pa_nil))) (pg_name (i := 4) scReached.nd rfl (.inl rfl))
          (pss_one (ps_dput (hu_of hr) (pe_dget (hu_of hr) (pv 1) (pv 3) (fun _ _ => rfl)) (pv 4) pe_bl rfl)))))))
    (pss_cons (ps_for PassesOwn.never rfl (pi_tup (pe_prop (pv 0) c hpN G2 hr b2 .nil pass0 rfl)) (pg_name (i := 5) scReached.nd rfl (.inl rfl))
      (pss_one (ps_for PassesOwn.never rfl (pi_tup (pe_prop (pv 0) c hpN G2 hr b2 .nil pass0 rfl)) (pg_name (i := 4) scReached.nd rfl (.inl rfl))
        (pss_one (ps_if (pt_cmp (pc_din (hu_of hr) (pv 5) (pe_dget (hu_of hr) (pv 1) (pv 4) (fun _ _ => rfl))) (by rfl))
          (pss_one (ps_dput (hu_of hr) (pv 1) (pv 4) (pe_dstar2 (pe_dget (hu_of hr) (pv 1) (pv 4) (fun _ _ => rfl)) (pe_dget (hu_of hr) (pv 1) (pv 5) (fun _ _ => rfl))) rfl)) pss_nil)))))
    (pss_one (ps_ret (pv 1))))), ?_⟩
  obtain ⟨a, dx, t0, ys0, rfl, i1', i2', i3'⟩ := id hS
  -- the dicts
  refine ⟨.ref a, rfl, a, dx, _, rfl, i1', .ref a, S, bd, rfl, hS, hI, hbd, lbd, fun H1 tn ns s1 htn hns hmem => ?_⟩
  have nl := hns.few
  have nnd := upX_nodup hns.up
  refine ⟨tn, rfl, ⟨_, htn⟩, fun D hD => ?_⟩
  have hD0 : H D = none := none_back s1 hD
  refine dc_tup (xs := ns.map V.str) (fun i H2 => Same H1 H2 ∧ ∃ ad, RD H2 D (ns.take i) ad (fun _ => []) ∧ NewA H (ns.take i) ad) ⟨same_new hD _, fun _ => D, ⟨upd_same, (fun _ z => nomatch z), (fun _ z => nomatch z), (fun _ z => nomatch z), (fun _ z => nomatch z), fun _ z => nomatch z⟩, fun _ z => nomatch z⟩ (fun i H2 _ h => same_tup h.1 htn) (fun i x H2 hx h => ?_) (fun H2 h => ?_)
  · obtain ⟨sm, ad, hR, hN⟩ := h
    obtain ⟨z, hz, rfl⟩ := map_at hx
    refine ⟨rfl, .str z, rfl, fun p hp => ?_⟩
    have sp := same_new hp (.dK [])
    have new : z ∉ ns.take i := idx_new' nnd hz
    refine ⟨_, .inr z, rfl, sp _ _ hR.top, small_line' (by rw [List.length_map, List.length_take]; omega), same_put (sm.trans sp) hD, setA ad z p, ?_, fun y hy => ?_⟩
    · rw [take_snoc hz]
      exact hR.grow new hp
    · rw [take_snoc hz] at hy
      unfold setA
      by_cases e : y = z
      · rw [if_pos e]
        exact none_back (s1.trans sm) hp
      · rw [if_neg e]
        rcases List.mem_append.mp hy with q | q
        · exact hN y q
        · exact absurd (List.mem_singleton.mp q) e
  obtain ⟨sm12, ad0, hR0, hN0⟩ := h
  rw [List.length_map, List.take_length] at hR0 hN0
  have s2 := s1.trans sm12
  -- what holds between
  let St : Hp → (Str → W) → Prop := fun H' L => Same H H' ∧ ∃ ad, RD H' D ns ad L ∧ NewA H ns ad
  have stAdd : ∀ {H' L x y}, Same H H' → ∀ {ad}, RD H' D ns ad L → NewA H ns ad → x ∈ ns → y ∈ ns → St (upd H' (ad x) (SD (ins (L x) y))) (setL L x (ins (L x) y)) := fun {H' L x y} sm {ad} hR hN hx hy => ⟨same_put sm (hN x hx), ad, hR.add hx hy, hN⟩
  -- the rules
  refine ⟨.ref a, rfl, a, dx, _, rfl, s2 _ _ i1', .ref a, S, rfl, hS.same s2, fun t ys ht hys => ?_⟩
  have yl : ys.length = S.length := by rw [dpAll_len hys, List.length_map]
  refine ⟨t, rfl, ⟨_, ht⟩, for_tup (xs := ys) (fun i σ H3 => (∃ y2 y3 y4, σ = [some (.ref a), some (.ref D), y2, y3, y4, none]) ∧ Stay H2 H3 ∧ ∃ L, St H3 L ∧ (∀ x ∈ ns, ∀ y ∈ L x, Use S x y) ∧ ∀ r ∈ S.take i, ∀ x ∈ r.1, ∀ y ∈ own r, y ∈ L x) ⟨⟨_, _, _, rfl⟩, Stay.same fun _ _ e => e, fun _ => [], ⟨s2, ad0, hR0, hN0⟩, (fun _ _ _ z => nomatch z), fun r hr => absurd hr (by simp)⟩ (fun i σ H3 _ h => h.2.1.seq ht) (fun i x σ H3 hx h => ?_) (fun σ H3 h => ?_)⟩
  · obtain ⟨⟨y2, y3, y4, rfl⟩, st3, L, hSt, snd, done⟩ := h
    obtain ⟨dd, hdd, hxd⟩ := dpAll_at' hys hx
    obtain ⟨r, hr0, rfl⟩ := map_at hdd
    have hrS := List.mem_of_getElem? hr0
    have hr' := hI r hrS
    have hxd3 := st3.rd hxd
    obtain ⟨b0, v1, v2, v3, v4, rfl, hT, g1, g2, g3, g4⟩ := of_rd hxd3
    obtain ⟨c1, rfl, t1⟩ := of_wd g1
    have inH : ∀ z ∈ r.1, z ∈ ns := fun z hz => (hmem z).mpr (List.mem_flatMap.mpr ⟨r, hrS, List.mem_flatMap.mpr ⟨r.1, by unfold parts; simp, hz⟩⟩)
    have inO : ∀ z ∈ own r, z ∈ ns := fun z hz => (hmem z).mpr (List.mem_flatMap.mpr ⟨r, hrS, hz⟩)
    refine ⟨.ref b0, rfl, b0, _, 0, .ref c1, rfl, rfl, hT, rfl, c1, rfl, ⟨_, t1⟩, for_tup (xs := r.1.map V.str) (fun k σ H4 => (∃ y3 y4, σ = [some (.ref a), some (.ref D), some (.ref b0), y3, y4, none]) ∧ Stay H3 H4 ∧ ∃ L, St H4 L ∧ (∀ x ∈ ns, ∀ y ∈ L x, Use S x y) ∧ (∀ r ∈ S.take i, ∀ x ∈ r.1, ∀ y ∈ own r, y ∈ L x) ∧ ∀ x ∈ r.1.take k, ∀ y ∈ own r, y ∈ L x) ⟨⟨_, _, rfl⟩, Stay.same fun _ _ e => e, L, hSt, snd, done, fun x hx => absurd hx (by simp)⟩ (fun k σ H4 _ h => h.2.1.seq t1) (fun k x σ H4 hx h => ?_) (fun σ H4 h => ?_)⟩
    · obtain ⟨⟨y3', y4', rfl⟩, st4, L, ⟨sm4, ad, hR4, hN4⟩, snd, done, donek⟩ := h
      obtain ⟨hd, hhd, rfl⟩ := map_at hx
      have hdr : hd ∈ r.1 := List.mem_of_getElem? hhd
      have hdn := inH hd hdr
      refine ⟨.ref b0, rfl, .ref b0, r, rfl, st4.rd hxd3, hr', fun H5 v5 s5 h5 => ?_⟩
      obtain ⟨D5, rfl, hD5⟩ := h5
      refine ⟨D5, rfl, ⟨_, SqL.of hD5⟩, for_list (xs := (own r).map V.str) (fun m σ H6 => (∃ y4, σ = [some (.ref a), some (.ref D), some (.ref b0), some (.str hd), y4, none]) ∧ Stay H5 H6 ∧ H6 D5 = some (.lst ((own r).map V.str)) ∧ ∃ L, St H6 L ∧ (∀ x ∈ ns, ∀ y ∈ L x, Use S x y) ∧ (∀ r ∈ S.take i, ∀ x ∈ r.1, ∀ y ∈ own r, y ∈ L x) ∧ (∀ x ∈ r.1.take k, ∀ y ∈ own r, y ∈ L x) ∧ ∀ y ∈ (own r).take m, y ∈ L hd) ⟨⟨_, rfl⟩, Stay.same fun _ _ e => e, hD5, L, ⟨sm4.trans s5, ad, hR4.same s5, hN4⟩, snd, done, donek, fun y hy => absurd hy (by simp)⟩ (fun m σ H6 _ h => SqL.of h.2.2.1) (fun m x σ H6 hx h => ?_) (fun σ H6 h => ?_)⟩
      · obtain ⟨⟨y4'', rfl⟩, st6, hD6, L, ⟨sm6, ad6, hR6, hN6⟩, snd, done, donek, donem⟩ := h
        obtain ⟨y, hy, rfl⟩ := map_at hx
        have hyo : y ∈ own r := List.mem_of_getElem? hy
        have hyn := inO y hyo
        have few6 := hR6.few hd hdn
        refine ⟨.ref D, rfl, .str hd, rfl, D, _, rfl, .inl ⟨_, .inr hd, .inl hR6.top, rfl, (valV_nd (g := fun z => V.ref (ad6 z)) hdn).symm⟩, .str y, rfl, ad6 hd, _, rfl, .inl ⟨_, .inr y, hR6.low hd hdn, rfl, small_line' (by unfold SDl; rw [List.length_map]; omega), rfl⟩, ?_⟩
        rw [put_sd]
        have ne5 : D5 ≠ ad6 hd := fun e => by
          have z := hR6.low hd hdn
          rw [← e, hD6] at z
          cases z
        have mono : ∀ x z, z ∈ L x → z ∈ setL L hd (ins (L hd) y) x := fun x z hz => by
          unfold setL
          by_cases e : x = hd
          · rw [if_pos e]
            exact mem_ins.mpr (.inl (e ▸ hz))
          · rw [if_neg e]
            exact hz
        have atd : setL L hd (ins (L hd) y) hd = ins (L hd) y := by
          unfold setL
          rw [if_pos rfl]
        refine ⟨⟨_, rfl⟩, st6.trans (Stay.put (by rw [hR6.low hd hdn]; exact True.intro) _), by rw [upd_ne ne5]; exact hD6, setL L hd (ins (L hd) y), stAdd sm6 hR6 hN6 hdn hyn, fun x hx z hz => ?_, fun r hr x hx z hz => mono x z (done r hr x hx z hz), fun x hx z hz => mono x z (donek x hx z hz), fun z hz => ?_⟩
        · unfold setL at hz
          by_cases e : x = hd
          · rw [if_pos e] at hz
            rw [e]
            rcases mem_ins.mp hz with q | q
            · exact snd hd hdn z q
            · rw [q]
              exact ⟨r, hrS, hdr, hyo⟩
          · rw [if_neg e] at hz
            exact snd x hx z hz
        · rw [take_snoc hy] at hz
          rcases List.mem_append.mp hz with q | q
          · exact mono hd z (donem z q)
          · rw [List.mem_singleton.mp q, atd]
            exact mem_ins.mpr (.inr rfl)
      · obtain ⟨⟨y4'', rfl⟩, st6, hD6, L, hSt6, snd, done, donek, donem⟩ := h
        rw [List.length_map, List.take_length] at donem
        refine ⟨⟨_, _, rfl⟩, st4.trans ((Stay.same s5).trans st6), L, hSt6, snd, done, fun x hx y hy => ?_⟩
        rw [take_snoc hhd] at hx
        rcases List.mem_append.mp hx with q | q
        · exact donek x q y hy
        · rw [List.mem_singleton.mp q]
          exact donem y hy
    · obtain ⟨⟨y3', y4', rfl⟩, st4, L, hSt4, snd, done, donek⟩ := h
      rw [List.length_map, List.take_length] at donek
      refine ⟨⟨_, _, _, rfl⟩, st3.trans st4, L, hSt4, snd, fun r2 hr2 x hx y hy => ?_⟩
      rw [take_snoc hr0] at hr2
      rcases List.mem_append.mp hr2 with q | q
      · exact done r2 q x hx y hy
      · rw [List.mem_singleton.mp q] at hx hy
        exact donek x hx y hy
  · obtain ⟨⟨y2, y3, y4, rfl⟩, st3, L, ⟨sm3, ad3, hR3, hN3⟩, snd, done⟩ := h
    rw [yl, List.take_length] at done
    have compl : ∀ x ∈ ns, ∀ y, Use S x y → y ∈ L x := fun x _ y ⟨r, hr, h1, h2⟩ => done r hr x h1 y h2
    -- the middles
    refine ⟨.ref a, rfl, a, dx, _, rfl, sm3 _ _ i1', .ref a, S, bd, rfl, hS.same sm3, hI, hbd, lbd, fun H4 tn2 ns2 s4 htn2 hns2 hmem2 => ?_⟩
    obtain rfl : ns = ns2 := upX_one hns.up hns2.up fun z => (hmem z).trans (hmem2 z).symm
    refine ⟨tn2, rfl, ⟨_, htn2⟩, for_tup (xs := ns.map V.str) (fun i σ H5 => (∃ y2 y3 y4 y5, σ = [some (.ref a), some (.ref D), y2, y3, y4, y5]) ∧ Stay H4 H5 ∧ ∃ L, St H5 L ∧ (∀ x ∈ ns, ∀ y ∈ L x, Lead S x y) ∧ (∀ x ∈ ns, ∀ y, Use S x y → y ∈ L x) ∧ ClM ns (ns.take i) L) ⟨⟨_, _, _, _, rfl⟩, Stay.same fun _ _ e => e, L, ⟨sm3.trans s4, ad3, hR3.same s4, hN3⟩, fun x hx y hy => .one (snd x hx y hy), compl, fun k hk => absurd hk (by simp)⟩ (fun i σ H5 _ h => h.2.1.seq htn2) (fun i x σ H5 hx h => ?_) (fun σ H5 h => ?_)⟩
    · obtain ⟨⟨y2', y3', y4', y5', rfl⟩, st5, L0, ⟨sm5, ad5, hR5, hN5⟩, snd0, compl0, cl0⟩ := h
      obtain ⟨m, hm, rfl⟩ := map_at hx
      have hmn : m ∈ ns := List.mem_of_getElem? hm
      refine ⟨.ref a, rfl, a, dx, _, rfl, sm5 _ _ i1', .ref a, S, bd, rfl, hS.same sm5, hI, hbd, lbd, fun H6 tn3 ns3 s6 htn3 hns3 hmem3 => ?_⟩
      obtain rfl : ns = ns3 := upX_one hns.up hns3.up fun z => (hmem z).trans (hmem3 z).symm
      refine ⟨tn3, rfl, ⟨_, htn3⟩, for_tup (xs := ns.map V.str) (fun j σ H7 => (∃ y4, σ = [some (.ref a), some (.ref D), y2', y3', y4, some (.str m)]) ∧ Stay H6 H7 ∧ ∃ L, St H7 L ∧ ∀ x ∈ ns, ∀ y, y ∈ L x ↔ y ∈ L0 x ∨ (x ∈ ns.take j ∧ m ∈ L0 x ∧ y ∈ L0 m)) ⟨⟨_, rfl⟩, Stay.same fun _ _ e => e, L0, ⟨sm5.trans s6, ad5, hR5.same s6, hN5⟩, fun x hx y => ⟨.inl, fun h => h.elim id fun h => absurd h.1 (by simp)⟩⟩ (fun j σ H7 _ h => h.2.1.seq htn3) (fun j x σ H7 hx h => ?_) (fun σ H7 h => ?_)⟩
      · obtain ⟨⟨y4'', rfl⟩, st7, L, ⟨sm7, ad7, hR7, hN7⟩, eL⟩ := h
        obtain ⟨x, hx0, rfl⟩ := map_at hx
        have hxn : x ∈ ns := List.mem_of_getElem? hx0
        have new : x ∉ ns.take j := idx_new' nnd hx0
        have eLx : ∀ y, y ∈ L x ↔ y ∈ L0 x := fun y => (eL x hxn y).trans ⟨fun h => h.elim id fun h => absurd h.1 new, .inl⟩
        have eLm : ∀ y, y ∈ L m ↔ y ∈ L0 m := fun y => (eL m hmn y).trans ⟨fun h => h.elim id fun h => h.2.2, .inl⟩
        refine ⟨.str m, rfl, .ref D, rfl, .str x, rfl, D, _, rfl, .inl ⟨_, .inr x, .inl hR7.top, rfl, (valV_nd (g := fun z => V.ref (ad7 z)) hxn).symm⟩, ad7 x, _, rfl, .inl ⟨_, .inr m, .inl (hR7.low x hxn), rfl, rfl⟩, _, rfl, ?_⟩
        rw [has_sd]
        refine ite2 (fun e => ?_) (fun e => ?_)
        · have hmx : m ∈ L x := of_decide_eq_true e
          refine fun D2 hD2 => ?_
          have sA := same_new hD2 (.dK [])
          have nD2 : ∀ z ∈ ns, ad7 z ≠ D2 := fun z hz e => by
            have q := hR7.low z hz
            rw [e, hD2] at q
            cases q
          have nD2D : D2 ≠ D := fun e => by
            have q := hR7.top
            rw [← e, hD2] at q
            cases q
          have sB := same_put (o := .dK (mergeK [] (SDl (L x)))) sA hD2
          have sC := same_put (o := .dK (mergeK (mergeK [] (SDl (L x))) (SDl (L m)))) sB hD2
          have e1 : mergeK [] (SDl (L x)) = SDl (uni [] (L x)) := merge_sd (l := [])
          have fx := hR7.few x hxn
          have fm := hR7.few m hmn
          have lu : (uni [] (L x)).length ≤ ns.length := len_le (nd_uni List.nodup_nil) fun z hz => hR7.sub x hxn z ((mem_uni.mp hz).elim (fun q => nomatch q) id)
          refine ⟨.ref D, rfl, .str x, rfl, D, _, rfl, .inl ⟨_, .inr x, .inl (sA _ _ hR7.top), rfl, (valV_nd (g := fun z => V.ref (ad7 z)) hxn).symm⟩, ad7 x, SDl (L x), rfl, nD2 x hxn, .inl (sA _ _ (hR7.low x hxn)), upd_same, ?_⟩
          refine ⟨.ref D, rfl, .str m, rfl, D, _, rfl, .inl ⟨_, .inr m, .inl (sB _ _ hR7.top), rfl, (valV_nd (g := fun z => V.ref (ad7 z)) hmn).symm⟩, ad7 m, SDl (L m), rfl, nD2 m hmn, .inl (sB _ _ (hR7.low m hmn)), upd_same, ?_, ?_⟩
          · rw [e1]
            unfold SDl
            rw [List.length_map, List.length_map]
            exact small_line (by omega)
          refine ⟨.ref D, rfl, .str x, rfl, D, _, rfl, .inl ⟨_, .inr x, sC _ _ hR7.top, rfl, small_line' (by rw [List.length_map]; omega), rfl⟩, ?_⟩
          have ep := put_ad (ad := ad7) (p := D2) hxn
          rw [ep]
          have hD2' : (upd (upd (upd H7 D2 (.dK [])) D2 (.dK (mergeK [] (SDl (L x))))) D2 (.dK (mergeK (mergeK [] (SDl (L x))) (SDl (L m))))) D2 = some (SD (uni (uni [] (L x)) (L m))) := by
            rw [upd_same, e1, merge_sd]
            rfl
          have memU : ∀ y, y ∈ uni (uni [] (L x)) (L m) ↔ y ∈ L x ∨ y ∈ L m := fun y => by
            rw [mem_uni, mem_uni]
            simp
          have mutD : Mut ((upd (upd (upd H7 D2 (.dK [])) D2 (.dK (mergeK [] (SDl (L x))))) D2 (.dK (mergeK (mergeK [] (SDl (L x))) (SDl (L m))))) D) := by
            rw [sC _ _ hR7.top]
            exact True.intro
          refine ⟨⟨_, rfl⟩, st7.trans ((Stay.same sC).trans (Stay.put mutD _)), setL L x (uni (uni [] (L x)) (L m)), ⟨same_put (sm7.trans sC) hD0, setA ad7 x D2, (hR7.same sC).swap hxn hD2' nD2D nD2 (nd_uni (nd_uni List.nodup_nil)) fun y hy => ?_, fun z hz => ?_⟩, fun z hz y => ?_⟩
          · rcases (memU y).mp hy with q | q
            · exact hR7.sub x hxn y q
            · exact hR7.sub m hmn y q
          · unfold setA
            by_cases e : z = x
            · rw [if_pos e]
              exact none_back sm7 hD2
            · rw [if_neg e]
              exact hN7 z hz
          · unfold setL
            by_cases e : z = x
            · rw [if_pos e, memU, eLx, eLm, e, take_snoc hx0, List.mem_append]
              exact ⟨fun h => h.elim .inl fun h => .inr ⟨.inr List.mem_cons_self, (eLx m).mp hmx, h⟩, fun h => h.elim .inl fun h => .inr h.2.2⟩
            · rw [if_neg e, eL z hz, take_snoc hx0, List.mem_append, List.mem_singleton]
              exact ⟨fun h => h.elim .inl fun h => .inr ⟨.inl h.1, h.2⟩, fun h => h.elim .inl fun h => .inr ⟨h.1.elim id fun q => absurd q e, h.2⟩⟩
        · have hmx : m ∉ L x := fun h => e (decide_eq_true h)
          refine ⟨⟨_, rfl⟩, st7, L, ⟨sm7, ad7, hR7, hN7⟩, fun z hz y => ?_⟩
          rw [eL z hz, take_snoc hx0, List.mem_append, List.mem_singleton]
          exact ⟨fun h => h.elim .inl fun h => .inr ⟨.inl h.1, h.2⟩, fun h => h.elim .inl fun h => h.1.elim (fun q => .inr ⟨q, h.2⟩) fun q => absurd ((eLx m).mpr (q ▸ h.2.1)) hmx⟩
      · obtain ⟨⟨y4'', rfl⟩, st7, L, hSt7, eL⟩ := h
        rw [List.length_map, List.take_length] at eL
        have eL' : ∀ x ∈ ns, ∀ y, y ∈ L x ↔ y ∈ L0 x ∨ (m ∈ L0 x ∧ y ∈ L0 m) := fun x hx y => (eL x hx y).trans ⟨fun h => h.elim .inl fun h => .inr h.2, fun h => h.elim .inl fun h => .inr ⟨hx, h⟩⟩
        refine ⟨⟨_, _, _, _, rfl⟩, st5.trans ((Stay.same s6).trans st7), L, hSt7, fun x hx y hy => ?_, fun x hx y hu => (eL' x hx y).mpr (.inl (compl0 x hx y hu)), ?_⟩
        · rcases (eL' x hx y).mp hy with q | ⟨q1, q2⟩
          · exact snd0 x hx y q
          · exact (snd0 x hx m q1).trans (snd0 m hmn y q2)
        · rw [take_snoc hm]
          exact cl0.step (fun k hk => List.mem_of_mem_take hk) hmn eL'
    · obtain ⟨⟨y2', y3', y4', y5', rfl⟩, st5, L0, ⟨sm5, ad5, hR5, hN5⟩, snd0, compl0, cl0⟩ := h
      rw [List.length_map, List.take_length] at cl0
      exact ⟨.ref D, rfl, q H5 D ns ad5 L0 sm5 hR5 hns hmem fun x hx y => ⟨snd0 x hx y, fun h => lead_all cl0 hR5.sub compl0 h hx⟩⟩
end
end Rw
namespace Rw
open PySem PySem.Spec PyProof.Rows L2
/-! ### _next_layer -/
theorem sl_own {σ : L2.St} {o : Nat} {v : V} (ho : o < σ.length) : ((wipe σ [o]).set o (some v))[o]? = some (some v) := by
  show ((σ.set o none).set o (some v))[o]? = _
  rw [List.set_set, List.getElem?_set_self ho]
theorem sl_old {σ : L2.St} {i o : Nat} {u : Option (Option V)} {v : V} (ne : i ≠ o) (h : σ[i]? = u) : ((wipe σ [o]).set o (some v))[i]? = u := by
  show ((σ.set o none).set o (some v))[i]? = _
  rw [List.set_set, List.getElem?_set_ne (Ne.symm ne)]
  exact h
theorem sl_back {σ : L2.St} {o : Nat} {v : V} : wipe ((wipe σ [o]).set o (some v)) [o] = wipe σ [o] := by
  show ((σ.set o none).set o (some v)).set o none = σ.set o none
  rw [List.set_set, List.set_set]
theorem same_unlock {H H' : Hp} {d : Addr} {u : HO} {od : Obj} (hd : H d = some u) (s : Same (upd H d (.frz od u)) H') : H' d = some (.frz od u) ∧ Same H (upd H' d u) := by
  refine ⟨s _ _ upd_same, fun b v e => ?_⟩
  by_cases z : b = d
  · subst z
    rw [upd_same, ← hd, e]
  · rw [upd_ne z]
    exact s _ _ (by rw [upd_ne z]; exact e)
theorem paired_end {α β : Type} {F : α → β → Prop} {a : α} {b : β} (h : F a b) : ∀ {l : List α} {m : List β}, Paired F l m → Paired F (l ++ [a]) (m ++ [b])
  | [], [], _ => .cons h .nil
  | _ :: _, _ :: _, .cons p t => .cons p (paired_end h t)
section
variable {K : PySem.W.Frag} {σ : L2.St} {H : Hp} {Q : VK} {F : Addr} {ns : W} {ad : Str → Addr} {L : Str → W} {x : Str}
/-- [other for other in d[name] if name in d[other]] -/
theorem mut_lc (h0 : σ[0]? = some (some (.ref F))) (h3 : σ[3]? = some (some (.str x))) (ho : 6 < σ.length) (hR : RD H F ns ad L) (hx : x ∈ ns) (n40 : ns.length ≤ 40) (q : ∀ H' D, Same H H' → H' D = some (.lst (((L x).filter fun y => decide (x ∈ L y)).map V.str)) → Q (.ref D) H') :
    tLockE (tLc (iKeys (tDGet (tVar 0) (tVar 3))) (gName 6) (tB (tDIn (tVar 3) (tDGet (tVar 0) (tVar 6)))) (tVar 6) [6]) σ H Q := by
  refine ⟨ad x, _, hR.low x hx, True.intro, fun od => ?_⟩
  let HF : Hp := upd H (ad x) (.frz od (SD (L x)))
  have topF : HF F = some (ND ns fun z => .ref (ad z)) := by
    show upd _ _ _ F = _
    rw [upd_ne (Ne.symm (hR.nF x hx))]
    exact hR.top
  have rdF : ∀ {H1 : Hp}, Same HF H1 → ∀ y ∈ ns, Rd H1 (ad y) (.dK (SDl (L y))) := fun {H1} s y hy => by
    by_cases e : ad y = ad x
    · have ey := hR.inj y hy x hx e
      subst ey
      exact .inr ⟨od, s _ _ upd_same⟩
    · exact .inl (s _ _ (by show upd _ _ _ _ = _; rw [upd_ne e]; exact hR.low y hy))
  refine ⟨.ref F, h0, .str x, h3, F, _, rfl, .inl ⟨_, .inr x, .inl topF, rfl, (valV_nd (g := fun z => V.ref (ad z)) hx).symm⟩, ad x, od, rfl, .inl ⟨_, upd_same, fun D hD => ?_⟩⟩
  refine lc_it walk_keys (fun n H1 => Same HF H1 ∧ H1 D = some (.lst ((((L x).take n).filter fun y => decide (x ∈ L y)).map V.str))) ⟨same_new hD _, upd_same⟩ (fun n H1 _ h => h.1 _ _ upd_same) (fun n y0 H1 H1' hn h hy => ?_) (fun H1 h => ?_)
  · obtain ⟨rfl, k, v, hk, rfl⟩ := hy
    unfold SDl at hk
    rw [List.getElem?_map] at hk
    obtain ⟨y, hy, ey⟩ := Option.map_eq_some_iff.mp hk
    cases ey
    have hyL : y ∈ L x := List.mem_of_getElem? hy
    have hyn := hR.sub x hx y hyL
    have few := hR.few x hx
    have il : n < (L x).length := (List.getElem?_eq_some_iff.mp hy).1
    refine ⟨sl_back, .str x, sl_old (by decide) h3, .ref F, sl_old (by decide) h0, .str y, sl_own ho, F, _, rfl, .inl ⟨_, .inr y, .inl (h.1 _ _ topF), rfl, (valV_nd (g := fun z => V.ref (ad z)) hyn).symm⟩, ad y, _, rfl, .inl ⟨SDl (L y), .inr x, rdF h.1 y hyn, rfl, rfl⟩, _, rfl, ?_⟩
    rw [has_sd]
    refine ite2 (fun e => ?_) (fun e => ?_)
    · refine ⟨.str y, sl_own ho, _, h.2, small_line' ?_, same_put h.1 hD, ?_⟩
      · rw [List.length_map]
        have := List.length_filter_le (fun y => decide (x ∈ L y)) ((L x).take n)
        rw [List.length_take] at this
        omega
      · rw [upd_same, filt_t hy e, List.map_append]
        rfl
    · refine ⟨h.1, ?_⟩
      rw [filt_f hy ((Bool.not_eq_true _).mp e)]
      exact h.2
  · obtain ⟨e1, e2⟩ := same_unlock (hR.low x hx) h.1
    have hl : (SDl (L x)).length = (L x).length := by
      unfold SDl
      rw [List.length_map]
    rw [hl, List.take_length] at h
    have ne : D ≠ ad x := fun z => by
      rw [z, e1] at h
      cases h.2
    refine ⟨e1, q _ D e2 ?_⟩
    rw [upd_ne ne]
    exact h.2
/-- [other for other in left if other == name or other in mutual] -/
theorem lay_lc {t c : Addr} {lf mu : W} (h1 : σ[1]? = some (some (.ref t))) (h3 : σ[3]? = some (some (.str x))) (h4 : σ[4]? = some (some (.ref c))) (ho : 6 < σ.length) (ht : SqT K H t (lf.map V.str)) (hc : H c = some (.lst (mu.map V.str))) (n40 : lf.length ≤ 40) (q : ∀ H' D, Same H H' → H' D = some (.lst ((lf.filter fun y => decide (y = x) || decide (y ∈ mu)).map V.str)) → Q (.ref D) H') :
    tLc (iTup K (tVar 1)) (gName 6) (tOr (tTest (tOp rEq (tVar 6) (tVar 3))) (tTest (tOp (rIn K false) (tVar 6) (tVar 4)))) (tVar 6) [6] σ H Q := by
  refine ⟨.ref t, h1, t, rfl, ⟨_, ht⟩, fun D hD => ?_⟩
  refine lc_tup (xs := lf.map V.str) (fun n H1 => Same H H1 ∧ H1 D = some (.lst (((lf.take n).filter fun y => decide (y = x) || decide (y ∈ mu)).map V.str))) ⟨same_new hD _, upd_same⟩ (fun n H1 _ h => same_tup h.1 ht) (fun n y0 H1 hx h => ?_) (fun H1 h => ?_)
  · obtain ⟨y, hy, rfl⟩ := map_at hx
    have il : n < lf.length := (List.getElem?_eq_some_iff.mp hy).1
    have put : (decide (y = x) || decide (y ∈ mu)) = true → ∃ acc, H1 D = some (.lst acc) ∧ acc.length < sizeLine ∧ Same H (upd H1 D (.lst (acc ++ [.str y]))) ∧ (upd H1 D (.lst (acc ++ [.str y]))) D = some (.lst (((lf.take (n + 1)).filter fun y => decide (y = x) || decide (y ∈ mu)).map V.str)) := fun e => by
      refine ⟨_, h.2, small_line' ?_, same_put h.1 hD, ?_⟩
      · rw [List.length_map]
        have := List.length_filter_le (fun y => decide (y = x) || decide (y ∈ mu)) (lf.take n)
        rw [List.length_take] at this
        omega
      · rw [upd_same, filt_t hy e, List.map_append]
        rfl
    refine ⟨sl_back, .str y, sl_own ho, .str x, sl_old (by decide) h3, rfl, _, rfl, ?_⟩
    refine ite2 (fun e => ?_) (fun e => ?_)
    · have e' : y = x := V.str.inj (of_decide_eq_true e)
      exact ⟨.str y, sl_own ho, put (by rw [decide_eq_true e']; rfl)⟩
    · have e' : ¬ y = x := fun z => e (decide_eq_true (congrArg V.str z))
      refine ⟨.str y, sl_own ho, .ref c, sl_old (by decide) h4, c, _, rfl, .inl (SqL.of (h.1 _ _ hc)), rfl, flat_strs _, _, rfl, ?_⟩
      rw [inV_str]
      refine ite2 (fun e2 => ?_) (fun e2 => ?_)
      · exact ⟨.str y, sl_own ho, put (by rw [show decide (y ∈ mu) = true from e2, Bool.or_true])⟩
      · refine ⟨h.1, ?_⟩
        rw [filt_f hy (by rw [decide_eq_false e', show decide (y ∈ mu) = false from (Bool.not_eq_true _).mp e2]; rfl)]
        exact h.2
  · rw [List.length_map, List.take_length] at h
    exact q H1 D h.1 h.2
/-- [other in layer or other not in left for other in d[name]] -/
theorem all_lc {t c : Addr} {lf la : W} (h0 : σ[0]? = some (some (.ref F))) (h1 : σ[1]? = some (some (.ref t))) (h3 : σ[3]? = some (some (.str x))) (h5 : σ[5]? = some (some (.ref c))) (ho : 6 < σ.length) (hR : RD H F ns ad L) (hx : x ∈ ns) (n40 : ns.length ≤ 40) (ht : SqT K H t (lf.map V.str)) (hc : SqT K H c (la.map V.str))
    (q : ∀ H' D, Same H H' → H' D = some (.lst (((L x).map fun y => decide (y ∈ la) || !decide (y ∈ lf)).map V.bl)) → Q (.ref D) H') :
    tLockE (tLc (iKeys (tDGet (tVar 0) (tVar 3))) (gName 6) tYes (tOrV (tOp (rIn K false) (tVar 6) (tVar 5)) (tOp (rIn K true) (tVar 6) (tVar 1))) [6]) σ H Q := by
  refine ⟨ad x, _, hR.low x hx, True.intro, fun od => ?_⟩
  let HF : Hp := upd H (ad x) (.frz od (SD (L x)))
  have topF : HF F = some (ND ns fun z => .ref (ad z)) := by
    show upd _ _ _ F = _
    rw [upd_ne (Ne.symm (hR.nF x hx))]
    exact hR.top
  have stF : Stay H HF := Stay.put (by rw [hR.low x hx]; exact True.intro) _
  refine ⟨.ref F, h0, .str x, h3, F, _, rfl, .inl ⟨_, .inr x, .inl topF, rfl, (valV_nd (g := fun z => V.ref (ad z)) hx).symm⟩, ad x, od, rfl, .inl ⟨_, upd_same, fun D hD => ?_⟩⟩
  refine lc_it walk_keys (fun n H1 => Same HF H1 ∧ H1 D = some (.lst ((((L x).take n).map fun y => decide (y ∈ la) || !decide (y ∈ lf)).map V.bl))) ⟨same_new hD _, upd_same⟩ (fun n H1 _ h => h.1 _ _ upd_same) (fun n y0 H1 H1' hn h hy => ?_) (fun H1 h => ?_)
  · obtain ⟨rfl, k, v, hk, rfl⟩ := hy
    unfold SDl at hk
    rw [List.getElem?_map] at hk
    obtain ⟨y, hy, ey⟩ := Option.map_eq_some_iff.mp hk
    cases ey
    have few := hR.few x hx
    have il : n < (L x).length := (List.getElem?_eq_some_iff.mp hy).1
    have put : ∀ b, (decide (y ∈ la) || !decide (y ∈ lf)) = b → ∃ acc, H1' D = some (.lst acc) ∧ acc.length < sizeLine ∧ Same HF (upd H1' D (.lst (acc ++ [.bl b]))) ∧ (upd H1' D (.lst (acc ++ [.bl b]))) D = some (.lst ((((L x).take (n + 1)).map fun y => decide (y ∈ la) || !decide (y ∈ lf)).map V.bl)) := fun b e => by
      refine ⟨_, h.2, small_line' ?_, same_put h.1 hD, ?_⟩
      · rw [List.length_map, List.length_map, List.length_take]
        omega
      · rw [upd_same, take_snoc hy, List.map_append, List.map_append, ← e]
        rfl
    refine ⟨sl_back, .str y, sl_own ho, .ref c, sl_old (by decide) h5, c, _, rfl, .inr (same_tup h.1 (stF.seq hc)), rfl, flat_strs _, _, rfl, ?_⟩
    rw [inV_str]
    refine ite2 (fun e => ?_) (fun e => ?_)
    · exact put true (by rw [show decide (y ∈ la) = true from e]; rfl)
    · refine ⟨.str y, sl_own ho, .ref t, sl_old (by decide) h1, t, _, rfl, .inr (same_tup h.1 (stF.seq ht)), rfl, flat_strs _, ?_⟩
      rw [inV_str]
      exact put _ (by rw [show decide (y ∈ la) = false from (Bool.not_eq_true _).mp e]; rfl)
  · obtain ⟨e1, e2⟩ := same_unlock (hR.low x hx) h.1
    have hl : (SDl (L x)).length = (L x).length := by
      unfold SDl
      rw [List.length_map]
    rw [hl, List.take_length] at h
    have ne : D ≠ ad x := fun z => by
      rw [z, e1] at h
      cases h.2
    refine ⟨e1, q _ D e2 ?_⟩
    rw [upd_ne ne]
    exact h.2
end
/-- the layer of x within what is left; whether it may come next -/
def layF (lf : W) (L : Str → W) (x : Str) : W := lf.filter fun y => decide (y = x) || decide (y ∈ (L x).filter fun y => decide (x ∈ L y))
def rdyB (lf : W) (L : Str → W) (x : Str) : Bool := (L x).all fun y => decide (y ∈ layF lf L x) || !decide (y ∈ lf)
abbrev nNext : List Str := ["reached", "left", "ready", "name", "mutual", "layer", "other"]
theorem scNext : FnScope ["reached", "left", "ready", "name", "mutual", "layer", "other"] ["reached", "left"] (defScope sNext) := ⟨rfl, rfl, rfl, by decide +kernel, rfl, by decide +kernel, by decide +kernel⟩
section
variable {P : Program} {w : World} {K : PySem.W.Frag} {mg : Str → Option Value} {base : Heap} {f : Addr} {fd : FuncData} {k : Nat}
def spNext (K : PySem.W.Frag) : Sp := fun vs H Q _ => ∃ (F t : Addr) (ns lf : W) (ad : Str → Addr) (L : Str → W) (x : Str) (rest : W), vs = [.ref F, .ref t] ∧ RD H F ns ad L ∧ ns.length ≤ 40 ∧ SqT K H t (lf.map V.str) ∧ (∀ z ∈ lf, z ∈ ns) ∧ lf.length ≤ 40 ∧ lf.filter (rdyB lf L) = x :: rest ∧
  ∀ H' p, Same H H' → SqT K H' p ((layF lf L x).map V.str) → Q (.ref p) H'
theorem ok_next (F : Fun K "_next_layer" "_next_layer" sNext f fd) (T : Bl mg) : FnOk P w K mg base CX0 (k + 1) f fd ["reached", "left"] (spNext K) := by
  refine F.ok scNext (fun vs H Q E h => ?_) (fun cdv A outer s H vs Q E hr h => ?_)
  · obtain ⟨F, t, ns, lf, ad, L, x, rest, rfl, _⟩ := h
    rfl
  obtain ⟨F, t, ns, lf, ad, L, x0, rest, rfl, hR, n40, ht, hsub, l40, hrdy, q⟩ := h
  refine ⟨_, pss_cons (ps_set (i := 2) scNext.nd rfl (.inl rfl) (pe_lst pa_nil))
    (pss_cons (ps_for PassesOwn.never rfl (pi_tup (pv 1)) (pg_name (i := 3) scNext.nd rfl (.inr rfl))
      (pss_cons (ps_set (i := 4) scNext.nd rfl (.inr rfl) (pe_lock (pe_lc (own := [("other", 6)]) (g := gName 6) (tt := tB (tDIn (tVar 3) (tDGet (tVar 0) (tVar 6)))) (by rfl) scNext.nd (pi_keys (pe_dget (hu_of hr) (pv 0) (pv 3) (fun _ _ => rfl))) (blkOk_by (N := nNext) (sc := defScope sNext) (by decide +kernel))
          (fun _ _ _ _ _ => pg_name (i := 6) scNext.nd rfl (Or.inl rfl)) (fun _ _ _ _ _ => pts_one (pt_cmp (pc_din (hu_of hr) (pv 3) (pe_dget (hu_of hr) (pv 0) (pv 6) (fun _ _ => rfl))) (by rfl))) (fun _ _ _ _ _ => pv 6))))
      (pss_cons (ps_set (i := 5) scNext.nd rfl (.inr rfl) (pe_callTy call_tuple_of (by rfl) T.tuple (by decide +kernel) (pa_cons (pe_lc (own := [("other", 6)]) (g := gName 6) (tt := tOr (tTest (tOp rEq (tVar 6) (tVar 3))) (tTest (tOp (rIn K false) (tVar 6) (tVar 4)))) (by rfl) scNext.nd (pi_tup (pv 1)) (blkOk_by (N := nNext) (sc := defScope sNext) (by decide +kernel))
          (fun _ _ _ _ _ => pg_name (i := 6) scNext.nd rfl (Or.inl rfl)) (fun _ _ _ _ _ => pts_one (PW.pt (pw_or (pt_cmpR op_eq (pv 6) (pv 3) (nomark _)) (pw_or1 (pt_cmpR (r := rIn K false) op_in_seq (pv 6) (pv 4) (by rfl)))))) (fun _ _ _ _ _ => pv 6)) pa_nil)))
      (pss_one (ps_if (pt_val (pe_callB (cr_all rfl) (by rfl) T.all (by decide +kernel) (pa_cons (pe_lock (pe_lc (own := [("other", 6)]) (g := gName 6) (te := tOrV (tOp (rIn K false) (tVar 6) (tVar 5)) (tOp (rIn K true) (tVar 6) (tVar 1))) (by rfl) scNext.nd (pi_keys (pe_dget (hu_of hr) (pv 0) (pv 3) (fun _ _ => rfl))) (blkOk_by (N := nNext) (sc := defScope sNext) (by decide +kernel))
          (fun _ _ _ _ _ => pg_name (i := 6) scNext.nd rfl (Or.inl rfl)) (fun _ _ _ _ _ => pts_nil) (fun _ _ _ _ _ => pe_or (pe_cmpR (r := rIn K false) op_in_seq (pv 6) (pv 5) (by rfl)) (pe_one (pe_cmpR (r := rIn K true) op_notIn_seq (pv 6) (pv 1) (by rfl)))))) pa_nil)))
        (pss_one (ps_expr (pe_bm PySem.F.plainAttrs_list PySem.F.slot_list_append PySem.F.type_list_append mt_append (pv 2) (pa_cons (pv 5) pa_nil)))) pss_nil)))))
    (pss_one (ps_ret (pe_ix ix_list (pv 2) pe_int (fun _ _ => rfl))))), ?_⟩
  refine ⟨by show 0 ≤ sizeLine; decide, fun R hR0 => ?_⟩
  have s0 := same_new hR0 (.lst [])
  refine ⟨.ref t, rfl, t, rfl, ⟨_, same_tup s0 ht⟩, for_tup (xs := lf.map V.str) (fun i σ H1 => (∃ y3 y4 y5, σ = [some (.ref F), some (.ref t), some (.ref R), y3, y4, y5, none]) ∧ Same H H1 ∧ ∃ ps : List Addr, H1 R = some (.lst (ps.map V.ref)) ∧ Paired (fun p x => SqT K H1 p ((layF lf L x).map V.str)) ps ((lf.take i).filter (rdyB lf L))) ⟨⟨_, _, _, rfl⟩, s0, [], upd_same, .nil⟩ (fun i σ H1 _ h => same_tup h.2.1 ht) (fun i x σ H1 hx h => ?_) (fun σ H1 h => ?_)⟩
  · obtain ⟨⟨y3, y4, y5, rfl⟩, sm, ps, hps, hpa⟩ := h
    obtain ⟨x, hx0, rfl⟩ := map_at hx
    have il : i < lf.length := (List.getElem?_eq_some_iff.mp hx0).1
    have hxn := hsub x (List.mem_of_getElem? hx0)
    refine mut_lc (F := F) (x := x) rfl rfl (by show 6 < 7; decide) (hR.same sm) hxn n40 fun H2 D2 s2 hD2 => ?_
    dsimp only [gName, tSeq, tAsg, tCB, tCons, tNil, List.set, List.map]
    refine lay_lc (K := K) (x := x) (t := t) (c := D2) (lf := lf) rfl rfl rfl (by show 6 < 7; decide) (same_tup (sm.trans s2) ht) hD2 l40 fun H3 D3 s3 hD3 => ?_
    refine ⟨D3, _, rfl, .inl ⟨SqL.of hD3, fun p hp => ?_⟩⟩
    have s4 := same_new hp (.tup ((layF lf L x).map V.str))
    have s14 := s2.trans (s3.trans s4)
    dsimp only [tIfS, tB, tCB, tCons, tNil]
    refine all_lc (K := K) (F := F) (x := x) (t := t) (c := p) (lf := lf) (la := layF lf L x) rfl rfl rfl rfl (by show 6 < 7; decide) (hR.same (sm.trans s14)) hxn n40 (same_tup (sm.trans s14) ht) (SqT.of upd_same) fun H5 D5 s5 hD5 => ?_
    refine ⟨D5, _, rfl, SqL.of hD5, _, rfl, ?_⟩
    have eb : ((L x).map fun y => decide (y ∈ layF lf L x) || !decide (y ∈ lf)).all id = rdyB lf L x := by
      rw [List.all_map]
      rfl
    rw [eb]
    have s15 := s14.trans s5
    have hp5 : SqT K H5 p ((layF lf L x).map V.str) := same_tup s5 (SqT.of upd_same)
    have hR5 := s15 _ _ hps
    have lps : ps.length ≤ lf.length := by
      rw [hpa.length]
      refine Nat.le_trans (List.length_filter_le _ _) ?_
      rw [List.length_take]
      omega
    refine ite2 (fun e => ?_) (fun e => ?_)
    · have st : Stay H5 (upd H5 R (.lst (ps.map V.ref ++ [V.ref p]))) := Stay.put (by rw [hR5]; exact True.intro) _
      refine ⟨.ref R, rfl, .inl ⟨rfl, _, SqL.of hR5⟩, .ref p, rfl, R, _, _, rfl, rfl, hR5, small_line' (by rw [List.length_map]; omega), ?_⟩
      refine ⟨⟨_, _, _, rfl⟩, same_put (sm.trans s15) hR0, ps ++ [p], by rw [upd_same, List.map_append]; rfl, ?_⟩
      rw [filt_t hx0 e]
      exact paired_end (F := fun p x => SqT K _ p ((layF lf L x).map V.str)) (st.seq hp5) (Paired.mapP (F := fun p x => SqT K H1 p ((layF lf L x).map V.str)) hpa fun p x h => ((Stay.same s15).trans st).seq h)
    · refine ⟨⟨_, _, _, rfl⟩, sm.trans s15, ps, hR5, ?_⟩
      rw [filt_f hx0 ((Bool.not_eq_true _).mp e)]
      exact Paired.mapP (F := fun p x => SqT K H1 p ((layF lf L x).map V.str)) hpa fun p x h => same_tup s15 h
  · obtain ⟨⟨y3, y4, y5, rfl⟩, sm, ps, hps, hpa⟩ := h
    rw [List.length_map, List.take_length, hrdy] at hpa
    cases hpa with
    | @cons p _ pt _ hp _ => exact ⟨.ref R, rfl, R, _, 0, .ref p, rfl, rfl, SqL.of hps, atI_nat (j := 0) rfl, q H1 p sm hp⟩
end
end Rw
namespace Rw
open PySem PySem.Spec PyProof.Rows L2
/-! ### the layers, as they are told -/
def RdyP (S : List Rl) (lf : W) (x : Str) : Prop := ∀ y, Lead S x y → y ∈ lf → y = x ∨ Lead S y x
inductive LayO (S : List Rl) : W → List W → Prop
  | nil : LayO S [] []
  | cons {lf pre post l : W} {x : Str} {R : List W} : lf = pre ++ x :: post → (∀ y ∈ pre, ¬ RdyP S lf y) → RdyP S lf x → UpX l → (∀ y, y ∈ l ↔ y ∈ lf ∧ (y = x ∨ (Lead S x y ∧ Lead S y x))) → LayO S (minus lf l) R → LayO S lf (l :: R)
theorem first_one {α : Type} {P : α → Prop} : ∀ {a b c d : List α} {x y : α}, a ++ x :: b = c ++ y :: d → (∀ z ∈ a, ¬ P z) → P x → (∀ z ∈ c, ¬ P z) → P y → x = y
  | [], b, [], d, x, y, e, _, _, _, _ => by
    injection e
  | [], b, c :: cs, d, x, y, e, _, hx, hc, _ => by
    rw [List.nil_append, List.cons_append] at e
    injection e with e1 e2
    exact absurd (e1 ▸ hx) (hc c List.mem_cons_self)
  | a :: as, b, [], d, x, y, e, ha, _, _, hy => by
    rw [List.nil_append, List.cons_append] at e
    injection e with e1 e2
    exact absurd (e1.symm ▸ hy) (ha a List.mem_cons_self)
  | a :: as, b, c :: cs, d, x, y, e, ha, hx, hc, hy => by
    rw [List.cons_append, List.cons_append] at e
    injection e with e1 e2
    exact first_one e2 (fun z hz => ha z (List.mem_cons_of_mem _ hz)) hx (fun z hz => hc z (List.mem_cons_of_mem _ hz)) hy
theorem LayO.one {S : List Rl} {lf : W} {R : List W} (h : LayO S lf R) : ∀ {R'}, LayO S lf R' → R = R' := by
  induction h with
  | nil =>
    intro R' h'
    cases h' with
    | nil => rfl
    | cons e _ _ _ _ _ => exact absurd e.symm (by simp)
  | @cons lf pre post l x R e hp hx hu hm hr ih =>
    intro R' h'
    cases h' with
    | nil => exact absurd e.symm (by simp)
    | @cons _ pre' post' l' x' R' e' hp' hx' hu' hm' hr' =>
      have ex : x = x' := first_one (P := RdyP S lf) (e.symm.trans e') hp hx hp' hx'
      subst ex
      have el : l = l' := upX_one hu hu' fun y => (hm y).trans (hm' y).symm
      subst el
      rw [ih hr']
/-- some name is ready -/
theorem min_at {c : Str → Nat} : ∀ {lf : W}, lf ≠ [] → ∃ x ∈ lf, ∀ y ∈ lf, c x ≤ c y
  | [], h => absurd rfl h
  | [x], _ => ⟨x, List.mem_cons_self, fun y hy => by rw [List.mem_singleton.mp hy]; exact Nat.le_refl _⟩
  | x :: y :: r, _ => by
    obtain ⟨m, hm, h⟩ := min_at (c := c) (lf := y :: r) (by simp)
    by_cases e : c x ≤ c m
    · refine ⟨x, List.mem_cons_self, fun z hz => ?_⟩
      rcases List.mem_cons.mp hz with q | q
      · rw [q]
        exact Nat.le_refl _
      · exact Nat.le_trans e (h z q)
    · refine ⟨m, List.mem_cons_of_mem _ hm, fun z hz => ?_⟩
      rcases List.mem_cons.mp hz with q | q
      · rw [q]
        omega
      · exact h z q
theorem filt_le {p q : Str → Bool} : ∀ {l : W}, (∀ z ∈ l, p z = true → q z = true) → (l.filter p).length ≤ (l.filter q).length
  | [], _ => Nat.le_refl _
  | x :: l, h => by
    have e := filt_le (l := l) fun z hz => h z (List.mem_cons_of_mem _ hz)
    rw [List.filter_cons, List.filter_cons]
    by_cases a : p x = true
    · rw [if_pos a, if_pos (h x List.mem_cons_self a), List.length_cons, List.length_cons]
      omega
    · rw [if_neg a]
      by_cases b : q x = true
      · rw [if_pos b, List.length_cons]
        omega
      · rw [if_neg b]
        exact e
theorem filt_all {p q : Str → Bool} : ∀ {l : W}, (∀ z ∈ l, p z = true → q z = true) → (l.filter q).length ≤ (l.filter p).length → ∀ z ∈ l, q z = true → p z = true
  | [], _, _, z, hz, _ => nomatch hz
  | x :: l, h, le, z, hz, hq => by
    have h' : ∀ z ∈ l, p z = true → q z = true := fun z hz => h z (List.mem_cons_of_mem _ hz)
    have e := filt_le h'
    rw [List.filter_cons, List.filter_cons] at le
    by_cases a : p x = true
    · rw [if_pos a, if_pos (h x List.mem_cons_self a), List.length_cons, List.length_cons] at le
      rcases List.mem_cons.mp hz with k | k
      · rw [k]
        exact a
      · exact filt_all h' (by omega) z k hq
    · rw [if_neg a] at le
      by_cases b : q x = true
      · rw [if_pos b, List.length_cons] at le
        omega
      · rw [if_neg b] at le
        rcases List.mem_cons.mp hz with k | k
        · rw [k] at hq
          exact absurd hq b
        · exact filt_all h' le z k hq
theorem rdy_some {S : List Rl} {lf : W} (ne : lf ≠ []) : ∃ x ∈ lf, RdyP S lf x := by
  classical
  obtain ⟨x, hx, hmin⟩ := min_at (c := fun x => (lf.filter fun y => decide (Lead S x y)).length) ne
  by_cases r : RdyP S lf x
  · exact ⟨x, hx, r⟩
  · unfold RdyP at r
    obtain ⟨y, hr⟩ := Classical.not_forall.mp r
    obtain ⟨xy, hr⟩ := Classical.not_imp.mp hr
    obtain ⟨hy, hr⟩ := Classical.not_imp.mp hr
    have same : ∀ z ∈ lf, Lead S x z → ∀ u ∈ lf, Lead S x u → Lead S z u := fun z hz xz u hu xu => by
      have h1 := filt_all (l := lf) (p := fun u => decide (Lead S z u)) (q := fun u => decide (Lead S x u)) (fun u _ h => decide_eq_true (xz.trans (of_decide_eq_true h))) (hmin z hz) u hu (decide_eq_true xu)
      exact of_decide_eq_true h1
    refine ⟨y, hy, fun z yz hz => .inr ?_⟩
    exact same z hz (xy.trans yz) y hy xy
/-- each beginning is closed -/
theorem lay_begin {S : List Rl} {lf : W} {R : List W} (h : LayO S lf R) : ∀ {ns : W}, (∀ x ∈ ns, ∀ y, Lead S x y → y ∈ ns) → (∀ x ∈ ns, x ∉ lf → ∀ y, Lead S x y → y ∉ lf) → ∀ j x, x ∈ ns → (x ∉ lf ∨ x ∈ (R.take j).flatten) → ∀ y, Lead S x y → (y ∉ lf ∨ y ∈ (R.take j).flatten) := by
  induction h with
  | nil => exact fun _ _ j x _ _ y _ => .inl (fun z => nomatch z)
  | @cons lf pre post l x0 R e hp hx hu hm hr ih =>
    intro ns hns out j x hxn hx' y xy
    cases j with
    | zero =>
      rcases hx' with q | q
      · exact .inl (out x hxn q y xy)
      · exact absurd q (by simp)
    | succ j =>
      have out2 : ∀ x ∈ ns, x ∉ minus lf l → ∀ y, Lead S x y → y ∉ minus lf l := fun x hxn nx y xy hy => by
        unfold minus at nx hy
        rw [List.mem_filter] at nx hy
        have yn : y ∉ l := by simpa using hy.2
        by_cases xl : x ∈ lf
        · have xin : x ∈ l := Classical.byContradiction fun c => nx ⟨xl, by simpa using c⟩
          obtain ⟨_, hxx⟩ := (hm x).mp xin
          have l0 : Lead S x0 y := by
            rcases hxx with q | q
            · rw [← q]
              exact xy
            · exact q.1.trans xy
          refine yn ((hm y).mpr ⟨hy.1, ?_⟩)
          rcases hx y l0 hy.1 with q | q
          · exact .inl q
          · exact .inr ⟨l0, q⟩
        · exact out x hxn xl y xy hy.1
      have z := ih hns out2 j x hxn (by
        rcases hx' with q | q
        · left
          unfold minus
          rw [List.mem_filter]
          exact fun h => q h.1
        · rw [List.take_succ_cons, List.flatten_cons, List.mem_append] at q
          rcases q with q | q
          · left
            unfold minus
            rw [List.mem_filter]
            exact fun h => by simpa [q] using h.2
          · exact .inr q) y xy
      rw [List.take_succ_cons, List.flatten_cons, List.mem_append]
      rcases z with q | q
      · by_cases yl : y ∈ lf
        · refine .inr (.inl (Classical.byContradiction fun c => q ?_))
          unfold minus
          rw [List.mem_filter]
          exact ⟨yl, by simpa using c⟩
        · exact .inl yl
      · exact .inr (.inr q)
theorem LayO.sub {S : List Rl} {lf : W} {R : List W} (h : LayO S lf R) : ∀ l ∈ R, UpX l ∧ ∀ y ∈ l, y ∈ lf := by
  induction h with
  | nil => exact fun _ z => nomatch z
  | @cons lf pre post l x R e hp hx hu hm hr ih =>
    intro l2 hl2
    rcases List.mem_cons.mp hl2 with q | q
    · rw [q]
      exact ⟨hu, fun y hy => ((hm y).mp hy).1⟩
    · obtain ⟨a, b⟩ := ih l2 q
      exact ⟨a, fun y hy => (List.mem_filter.mp (b y hy)).1⟩
/-- what the program's next layer is -/
theorem lay_next {S : List Rl} {lf ns rest : W} {L : Str → W} {x : Str} {R : List W} (hL : ∀ x ∈ ns, ∀ y, y ∈ L x ↔ Lead S x y) (hs : ∀ z ∈ lf, z ∈ ns) (hu : UpX lf) (hf : lf.filter (rdyB lf L) = x :: rest) (h : LayO S (minus lf (layF lf L x)) R) : LayO S lf (layF lf L x :: R) := by
  have hmem : ∀ x ∈ lf, ∀ y, y ∈ layF lf L x ↔ y ∈ lf ∧ (y = x ∨ (Lead S x y ∧ Lead S y x)) := fun x hx y => by
    unfold layF
    rw [List.mem_filter]
    simp only [Bool.or_eq_true, decide_eq_true_eq, List.mem_filter]
    constructor
    · rintro ⟨a, b⟩
      exact ⟨a, b.elim .inl fun b => .inr ⟨(hL x (hs x hx) y).mp b.1, (hL y (hs y a) x).mp b.2⟩⟩
    · rintro ⟨a, b⟩
      exact ⟨a, b.elim .inl fun b => .inr ⟨(hL x (hs x hx) y).mpr b.1, (hL y (hs y a) x).mpr b.2⟩⟩
  have hrdy : ∀ x ∈ lf, rdyB lf L x = true ↔ RdyP S lf x := fun x hx => by
    unfold rdyB RdyP
    rw [List.all_eq_true]
    constructor
    · intro h y xy hy
      have z := h y ((hL x (hs x hx) y).mpr xy)
      rw [Bool.or_eq_true, decide_eq_true_eq, hmem x hx] at z
      rcases z with ⟨_, z⟩ | z
      · exact z.elim .inl fun z => .inr z.2
      · simp only [Bool.not_eq_true', decide_eq_false_iff_not] at z
        exact absurd hy z
    · intro h y hy
      have xy := (hL x (hs x hx) y).mp hy
      by_cases yl : y ∈ lf
      · rw [Bool.or_eq_true, decide_eq_true_eq, hmem x hx]
        exact .inl ⟨yl, (h y xy yl).elim .inl fun z => .inr ⟨xy, z⟩⟩
      · rw [decide_eq_false yl]
        simp
  obtain ⟨pre, post, e, hp, hx⟩ : ∃ pre post, lf = pre ++ x :: post ∧ (∀ y ∈ pre, rdyB lf L y = false) ∧ rdyB lf L x = true := by
    have key : ∀ (p : Str → Bool) (l : W) (x : Str) (rest : W), l.filter p = x :: rest → ∃ pre post, l = pre ++ x :: post ∧ (∀ y ∈ pre, p y = false) ∧ p x = true := by
      intro p l
      induction l with
      | nil => intro x rest h; exact absurd h (by simp)
      | cons a l ih =>
        intro x rest h
        rw [List.filter_cons] at h
        by_cases c : p a = true
        · rw [if_pos c] at h
          injection h with h1 h2
          exact ⟨[], l, by rw [h1]; rfl, (fun _ z => nomatch z), h1 ▸ c⟩
        · rw [if_neg c] at h
          obtain ⟨pre, post, e, hp, hx⟩ := ih x rest h
          refine ⟨a :: pre, post, by rw [e]; rfl, fun y hy => ?_, hx⟩
          rcases List.mem_cons.mp hy with q | q
          · rw [q]
            exact (Bool.not_eq_true _).mp c
          · exact hp y q
    exact key _ _ _ _ hf
  have hxl : x ∈ lf := by rw [e]; simp
  refine .cons e (fun y hy r => ?_) ((hrdy x hxl).mp hx) (hu.sublist List.filter_sublist) (hmem x hxl) h
  have yl : y ∈ lf := by rw [e]; simp [hy]
  have z := (hrdy y yl).mpr r
  rw [hp y hy] at z
  cases z
theorem rdy_first {S : List Rl} {lf ns : W} {L : Str → W} (hL : ∀ x ∈ ns, ∀ y, y ∈ L x ↔ Lead S x y) (hs : ∀ z ∈ lf, z ∈ ns) (ne : lf ≠ []) : ∃ x rest, lf.filter (rdyB lf L) = x :: rest := by
  obtain ⟨x, hx, hr⟩ := rdy_some (S := S) ne
  have z : x ∈ lf.filter (rdyB lf L) := by
    refine List.mem_filter.mpr ⟨hx, ?_⟩
    unfold rdyB
    rw [List.all_eq_true]
    intro y hy
    have xy := (hL x (hs x hx) y).mp hy
    by_cases yl : y ∈ lf
    · rw [Bool.or_eq_true, decide_eq_true_eq]
      left
      unfold layF
      rw [List.mem_filter]
      refine ⟨yl, ?_⟩
      simp only [Bool.or_eq_true, decide_eq_true_eq, List.mem_filter]
      exact (hr y xy yl).elim .inl fun q => .inr ⟨hy, (hL y (hs y yl) x).mpr q⟩
    · rw [decide_eq_false yl]
      simp
  match e : lf.filter (rdyB lf L), z with
  | x :: rest, _ => exact ⟨x, rest, rfl⟩
  | [], z => exact nomatch z
end Rw
namespace Rw
open PySem PySem.Spec PyProof.Rows L2
/-! ### layers -/
theorem scLayers : FnScope ["program", "reached", "found", "left", "layer"] ["program"] (defScope sLayers) := ⟨rfl, rfl, rfl, by decide +kernel, rfl, by decide +kernel, by decide +kernel⟩
theorem minus_less {lf l : W} {x : Str} (h : x ∈ lf) (h2 : x ∈ l) : (minus lf l).length < lf.length := by
  unfold minus
  have e : (lf.filter fun z => !decide (z ∈ l)).length ≤ lf.length := List.length_filter_le _ _
  refine Nat.lt_of_le_of_ne e fun q => ?_
  have z := (List.length_filter_eq_length_iff.mp q) x h
  rw [decide_eq_true h2] at z
  cases z
section
variable {P : Program} {w : World} {K : PySem.W.Frag} {mg : Str → Option Value} {base : Heap} {f : Addr} {fd : FuncData} {k : Nat}
def spLayers (K : PySem.W.Frag) (C CE : Addr) : Sp := fun vs H Q E => ∃ v : V, vs = [v] ∧ ((∃ (S : List Rl) (bd : W), PgAt K C H v S ∧ (∀ r ∈ S, IsR r) ∧ S.length < 76 ∧ (∀ z ∈ namesL S, z ∈ bd) ∧ bd.length ≤ 40 ∧
  ∀ H' D ys ns R, Same H H' → H D = none → H' D = some (.lst ys) → DpAll K H' ys (R.map wd) → IsW ns → (∀ z, z ∈ ns ↔ z ∈ namesL S) → LayO S ns R → Q (.ref D) H') ∨
  (∃ d, Dp K H v d ∧ ∀ dx, H dx = none → E (.ref CE) (some dx) (upd H dx (.xd [(("thing" : Str), v)]))))
theorem ok_layers {C CE pN f1 f2 f3 f4 f5 : Addr} {fd1 fd2 fd3 fd4 fd5 : FuncData} (F : Fun K "layers" "layers" sLayers f fd) (c : Cls K C) (hpN : PropOf K C "names" pN f3)
    (G1 : FnOk P w K mg base (L2.CX P w) (k + 1) f1 fd1 ["thing"] (spCheckProgram K C CE)) (b1 : Binds K fd1 ["thing"] []) (k1 : PySem.W.keepIn K (.ref f1) = true) (m1 : mg "check_program" = some (.ref f1))
    (G2 : FnOk P w K mg base CX0 (k + 1) f2 fd2 ["program"] (spReached K C)) (b2 : Binds K fd2 ["program"] []) (k2 : PySem.W.keepIn K (.ref f2) = true) (m2 : mg "_reached" = some (.ref f2))
    (G3 : FnOk P w K mg base CX0 k f3 fd3 ["self"] (spNames K C)) (b3 : Binds K fd3 ["self"] [])
    (G4 : FnOk P w K mg base CX0 (k + 1) f4 fd4 ["reached", "left"] (spNext K)) (b4 : Binds K fd4 ["reached", "left"] []) (k4 : PySem.W.keepIn K (.ref f4) = true) (m4 : mg "_next_layer" = some (.ref f4))
    (G5 : FnOk P w K mg base CX0 (k + 1) f5 fd5 ["names", "left_out"] (spWithout K)) (b5 : Binds K fd5 ["names", "left_out"] []) (k5 : PySem.W.keepIn K (.ref f5) = true) (m5 : mg "without" = some (.ref f5)) :
    FnOk P w K mg base (L2.CX P w) (k + 2) f fd ["program"] (spLayers K C CE) := by
  refine F.okX scLayers (fun vs H Q E h => ?_) (fun cdv A outer s H vs Q E hr h => ?_)
  · obtain ⟨v, rfl, _⟩ := h
    rfl
  obtain ⟨v, rfl, h⟩ := h
  refine ⟨_, pss_cons (ps_expr (pe_call G1 hr (by rfl) m1 k1 b1 .nil (passes_call (takes_of rfl rfl rfl rfl) (fun _ _ _ _ h => h)) (pa_cons (pv 0) pa_nil)))
    (pss_cons (ps_set (i := 1) scLayers.nd rfl (.inl rfl) (pe_call G2 hr (by rfl) m2 k2 b2 .nil pass0 (pa_cons (pv 0) pa_nil)))
    (pss_cons (ps_set (i := 2) scLayers.nd rfl (.inl rfl) (pe_lst pa_nil))
    (pss_cons (ps_set (i := 3) scLayers.nd rfl (.inl rfl) (pe_prop (pv 0) c hpN G3 hr b3 .nil pass0 rfl))
    (pss_cons (ps_while (passes_of rfl) (pt_truth (pv 3) fun _ => rfl)
      (pss_cons (ps_set (i := 4) scLayers.nd rfl (.inl rfl) (pe_call G4 hr (by rfl) m4 k4 b4 .nil pass0 (pa_cons (pv 1) (pa_cons (pv 3) pa_nil))))
      (pss_cons (ps_expr (pe_bm PySem.F.plainAttrs_list PySem.F.slot_list_append PySem.F.type_list_append mt_append (pv 2) (pa_cons (pv 4) pa_nil)))
      (pss_one (ps_set (i := 3) scLayers.nd rfl (.inl rfl) (pe_call G5 hr (by rfl) m5 k5 b5 .nil pass0 (pa_cons (pv 3) (pa_cons (pv 4) pa_nil))))))))
    (pss_one (ps_ret (pv 2))))))), ?_⟩
  rcases h with ⟨S, bd, hS, hI, few, hbd, lbd, q⟩ | ⟨d, hd, q⟩
  · refine ⟨v, rfl, v, rfl, .inl ⟨S, hS, ?_⟩⟩
    refine ⟨v, rfl, v, S, bd, rfl, hS, hI, few, hbd, lbd, fun H3 Fd ns ad L s3 hR hns hmem hL => ?_⟩
    refine ⟨by show 0 ≤ sizeLine; decide, fun D hD => ?_⟩
    have s4 := same_new hD (.lst [])
    have hD0 : H D = none := none_back s3 hD
    obtain ⟨a, dx, t0, ys0, rfl, i1', i2', i3'⟩ := id hS
    refine ⟨.ref a, rfl, a, dx, _, rfl, (s3.trans s4) _ _ i1', .ref a, S, bd, rfl, hS.same (s3.trans s4), hI, hbd, lbd, fun H5 tn ns2 s5 htn hns2 hmem2 => ?_⟩
    obtain rfl : ns = ns2 := upX_one hns.up hns2.up fun z => (hmem z).trans (hmem2 z).symm
    have n40 := hns.few
    dsimp only [gName, tSeq, tAsg, tC, List.set]
    refine while_by (fun σ H' => ∃ (lf : W) (t : Addr) (ys : List V) (R : List W) (y4 : Option V), σ = [some (.ref a), some (.ref Fd), some (.ref D), some (.ref t), y4] ∧ Same H3 H' ∧ H' D = some (.lst ys) ∧ DpAll K H' ys (R.map wd) ∧ SqT K H' t (lf.map V.str) ∧ UpX lf ∧ (∀ z ∈ lf, z ∈ ns) ∧ R.length + lf.length ≤ ns.length ∧ ∀ R2, LayO S lf R2 → LayO S ns (R ++ R2))
      (fun σ H' => 41 - (match H' D with | some (.lst ys) => ys.length | _ => 0)) ⟨ns, tn, [], [], _, rfl, s4.trans s5, s5 _ _ upd_same, .nil, htn, hns.up, fun _ h => h, by show 0 + _ ≤ _; omega, fun R2 h => h⟩ (fun σ H6 hP => ?_) (fun σ H2 Q1 Q2 m h => by
      obtain ⟨x, e, k, hk, q⟩ := h
      exact ⟨x, e, k, hk, m _ _ q⟩)
    obtain ⟨lf, t, ys, R, y4, rfl, s6, hD6, hys, ht, hup, hsub, hlen, hlay⟩ := hP
    have lys : ys.length = R.length := by rw [dpAll_len hys, List.length_map]
    refine ⟨.ref t, rfl, _, .inr (.inl ⟨_, ht, rfl⟩), ?_⟩
    have eE : (!(lf.map V.str).isEmpty) = !lf.isEmpty := by rw [List.isEmpty_map]
    rw [eE]
    refine ite2 (fun e => ?_) (fun e => ?_)
    · have ne : lf ≠ [] := fun z => by
        rw [z] at e
        cases e
      obtain ⟨x, rest, hf⟩ := rdy_first (S := S) hL hsub ne
      refine ⟨.ref Fd, rfl, .ref t, rfl, Fd, t, ns, lf, ad, L, x, rest, rfl, hR.same s6, n40, ht, hsub, Nat.le_trans (len_le (upX_nodup hup) hsub) n40, hf, fun H7 p s7 hp => ?_⟩
      have hD7 := s7 _ _ hD6
      have hxl : x ∈ lf := (List.mem_filter.mp (show x ∈ lf.filter (rdyB lf L) by rw [hf]; exact List.mem_cons_self)).1
      have hxx : x ∈ layF lf L x := by
        unfold layF
        rw [List.mem_filter]
        exact ⟨hxl, by simp⟩
      have less := minus_less hxl hxx
      have pos : 0 < lf.length := List.length_pos_iff.mpr ne
      refine ⟨.ref D, rfl, .inl ⟨rfl, _, SqL.of hD7⟩, .ref p, rfl, D, _, _, rfl, rfl, hD7, small_line' (by omega), ?_⟩
      have st : Stay H7 (upd H7 D (.lst (ys ++ [V.ref p]))) := Stay.put (by rw [hD7]; exact True.intro) _
      refine ⟨.ref t, rfl, .ref p, rfl, .ref t, .ref p, lf, layF lf L x, rfl, to_wd (st.seq (same_tup s7 ht)), .wd (to_wd (st.seq hp)), Nat.le_trans (len_le (upX_nodup hup) hsub) (by omega), fun H8 v8 s8 h8 => ?_⟩
      obtain ⟨t8, rfl, ht8⟩ := of_wd h8
      have hD8 := s8 _ _ (upd_same : (upd H7 D (.lst (ys ++ [V.ref p]))) D = _)
      refine ⟨⟨minus lf (layF lf L x), t8, ys ++ [.ref p], R ++ [layF lf L x], _, rfl, (same_put (s6.trans s7) hD).trans s8, hD8, ?_, ht8, hup.sublist List.filter_sublist, fun z hz => hsub z (List.mem_filter.mp hz).1, by rw [List.length_append]; show R.length + 1 + _ ≤ _; omega, fun R2 h => ?_⟩, ?_⟩
      · rw [List.map_append]
        exact dpAll_app ((((Stay.same s7).trans st).trans (Stay.same s8)).dpAll _ _ (okDs_wd R) hys) (.cons (to_wd ((st.trans (Stay.same s8)).seq hp)) .nil)
      · rw [List.append_assoc]
        exact hlay _ (lay_next hL hsub hup hf h)
      · show 41 - (match H8 D with | some (.lst ys) => ys.length | _ => 0) < 41 - (match H6 D with | some (.lst ys) => ys.length | _ => 0)
        rw [hD8, hD6]
        show 41 - (ys ++ [V.ref p]).length < 41 - ys.length
        rw [List.length_append]
        show 41 - (ys.length + 1) < _
        omega
    · have e' : lf = [] := by
        cases lf with
        | nil => rfl
        | cons a b => exact absurd rfl e
      subst e'
      have z := hlay [] .nil
      rw [List.append_nil] at z
      exact ⟨.ref D, rfl, q H6 D ys ns R (s3.trans s6) hD0 hD6 hys hns hmem z⟩
  · exact ⟨v, rfl, v, rfl, .inr ⟨d, hd, q⟩⟩
end
end Rw
namespace Rw
open PySem PySem.Spec PyProof.Rows L2
/-! ### sets of names as numbers -/
def num : W → W → Int
  | [], _ => 0
  | x :: own, w => (if x ∈ w then 1 else 0) + 2 * num own w
def bitOf : W → Str → Int
  | [], _ => 1
  | y :: own, x => if x = y then 1 else 2 * bitOf own x
theorem bitOf_cons (y : Str) (own : W) (x : Str) : bitOf (y :: own) x = if x = y then 1 else 2 * bitOf own x := rfl
theorem num_nn : ∀ own w : W, 0 ≤ num own w
  | [], _ => Int.le_refl 0
  | x :: own, w => by
    have h := num_nn own w
    unfold num
    split <;> omega
theorem num_lt : ∀ own w : W, num own w < 2 ^ own.length
  | [], _ => (by decide : (0 : Int) < 1)
  | x :: own, w => by
    have h := num_lt own w
    unfold num
    rw [List.length_cons, Int.pow_succ]
    split <;> omega
theorem num_cons (x : Str) (own w : W) : num (x :: own) w = (if x ∈ w then 1 else 0) + 2 * num own w := rfl
theorem bit_halves (c d x y : Int) (hc : c = 0 ∨ c = 1) (hd : d = 0 ∨ d = 1) : Builtin.bitAnd (c + 2 * x) (d + 2 * y) = (if c = 1 ∧ d = 1 then 1 else 0) + 2 * Builtin.bitAnd x y := by
  rw [PySem.W.kbt_halves]
  have e1 : (c + 2 * x) / 2 = x := by omega
  have e2 : (d + 2 * y) / 2 = y := by omega
  have e3 : (c + 2 * x) % 2 = c := by omega
  have e4 : (d + 2 * y) % 2 = d := by omega
  rw [e1, e2, e3, e4]
  omega
theorem one01 (p : Prop) [Decidable p] : (if p then (1 : Int) else 0) = 0 ∨ (if p then (1 : Int) else 0) = 1 := by
  split
  · exact .inr rfl
  · exact .inl rfl
theorem num_and : ∀ own a b : W, Builtin.bitAnd (num own a) (num own b) = num own (a.filter fun z => decide (z ∈ b))
  | [], _, _ => (by decide : Builtin.bitAnd 0 0 = 0)
  | x :: own, a, b => by
    rw [num_cons, num_cons, num_cons, bit_halves _ _ _ _ (one01 _) (one01 _), num_and own a b]
    congr 1
    by_cases h1 : x ∈ a <;> by_cases h2 : x ∈ b <;> simp [h1, h2]
theorem num_diff : ∀ own a b : W, Builtin.bitAnd (num own a) (Builtin.bitNot (num own b)) = num own (minus a b)
  | [], _, _ => (by decide : Builtin.bitAnd 0 (Builtin.bitNot 0) = 0)
  | x :: own, a, b => by
    have e : Builtin.bitNot (num (x :: own) b) = (if x ∈ b then (0 : Int) else 1) + 2 * Builtin.bitNot (num own b) := by
      rw [num_cons]
      unfold Builtin.bitNot
      split <;> omega
    rw [e, num_cons, num_cons, bit_halves _ _ _ _ (one01 _) (by split <;> simp), num_diff own a b]
    congr 1
    unfold minus
    by_cases h1 : x ∈ a <;> by_cases h2 : x ∈ b <;> simp [h1, h2]
theorem num_zero : ∀ {own w : W}, num own w = 0 ↔ ∀ x ∈ own, x ∉ w
  | [], w => by simp [num]
  | x :: own, w => by
    have h := num_nn own w
    have ih := @num_zero own w
    rw [num_cons, List.forall_mem_cons, ← ih]
    by_cases e : x ∈ w
    · rw [if_pos e]
      exact ⟨fun z => by omega, fun z => absurd e z.1⟩
    · rw [if_neg e]
      exact ⟨fun z => ⟨e, by omega⟩, fun z => by omega⟩
theorem num_same : ∀ {own a b : W}, num own a = num own b ↔ ∀ x ∈ own, (x ∈ a ↔ x ∈ b)
  | [], a, b => by simp [num]
  | x :: own, a, b => by
    have ih := @num_same own a b
    rw [num_cons, num_cons, List.forall_mem_cons, ← ih]
    by_cases e : x ∈ a <;> by_cases e' : x ∈ b <;> simp [e, e'] <;> omega
/-- the sum of the bits of a set without repetition -/
theorem num_more : ∀ {own : W} {y : Str} {w : W}, own.Nodup → y ∉ w → num own (y :: w) = (if y ∈ own then bitOf own y else 0) + num own w
  | [], y, w, _, _ => by simp [num]
  | x :: own, y, w, nd, hy => by
    obtain ⟨n1, n2⟩ := List.nodup_cons.mp nd
    have ih := num_more n2 hy
    rw [num_cons, num_cons, ih]
    rw [bitOf_cons]
    by_cases e : x = y
    · subst e
      rw [if_neg n1, if_pos List.mem_cons_self, if_pos List.mem_cons_self, if_pos rfl, if_neg hy]
      omega
    · have e1 : (x ∈ y :: w) ↔ x ∈ w := by
        rw [List.mem_cons]
        exact ⟨fun z => z.elim (fun z => absurd z e) id, .inr⟩
      have e2 : (y ∈ x :: own) ↔ y ∈ own := by
        rw [List.mem_cons]
        exact ⟨fun z => z.elim (fun z => absurd z.symm e) id, .inr⟩
      have e3 : ¬ y = x := fun z => e z.symm
      simp only [e1, e2, e3, if_false]
      split <;> split <;> omega
theorem num_nil : ∀ own : W, num own [] = 0
  | [] => rfl
  | x :: own => by
    rw [num_cons, num_nil own]
    simp
theorem num_sum {own : W} (nd : own.Nodup) : ∀ {w : W}, w.Nodup → ((w.filter fun z => decide (z ∈ own)).map (bitOf own)).sum = num own w
  | [], _ => by
    rw [num_nil]
    rfl
  | y :: w, h => by
    obtain ⟨n1, n2⟩ := List.nodup_cons.mp h
    rw [num_more nd n1, ← num_sum nd n2]
    by_cases e : y ∈ own
    · rw [List.filter_cons_of_pos (by simpa using e), List.map_cons, List.sum_cons, if_pos e]
    · rw [List.filter_cons_of_neg (by simpa using e), if_neg e, Int.zero_add]
theorem bit_nn : ∀ (own : W) (x : Str), 0 ≤ bitOf own x
  | [], _ => (by decide : (0 : Int) ≤ 1)
  | y :: own, x => by
    have h := bit_nn own x
    unfold bitOf
    split <;> omega
theorem bit_at' : ∀ {own : W} {i : Nat} {x : Str}, own.Nodup → own[i]? = some x → bitOf own x = 2 ^ i
  | [], i, x, _, h => by simp at h
  | y :: own, 0, x, _, h => by
    rw [List.getElem?_cons_zero, Option.some.injEq] at h
    subst h
    unfold bitOf
    rw [if_pos rfl]
    rfl
  | y :: own, i + 1, x, nd, h => by
    obtain ⟨n1, n2⟩ := List.nodup_cons.mp nd
    rw [List.getElem?_cons_succ] at h
    have ne : ¬ x = y := fun e => n1 (e ▸ List.mem_of_getElem? h)
    unfold bitOf
    rw [if_neg ne, bit_at' n2 h, Int.pow_succ]
    omega
/-! ### the numbers below a number, within it -/
theorem within_step : ∀ (n : Nat) (h t m : Int), h.toNat ≤ n → 0 < h → 0 ≤ m → Builtin.bitAnd h t = h → Builtin.bitAnd m t = m → m < h → m ≤ Builtin.bitAnd (h - 1) t
  | 0, h, t, m, e, h0, _, _, _, _ => by omega
  | n + 1, h, t, m, e, h0, m0, hh, hm, lt => by
    rw [PySem.W.kbt_halves] at hh hm ⊢
    have ih := within_step n (h / 2) (t / 2) (m / 2)
    by_cases odd : h % 2 = 1
    · have e1 : (h - 1) / 2 = h / 2 := by omega
      have e2 : (h - 1) % 2 = 0 := by omega
      rw [e1, e2]
      split at hh <;> split at hm <;> simp <;> omega
    · have e1 : (h - 1) / 2 = h / 2 - 1 := by omega
      have e2 : (h - 1) % 2 = 1 := by omega
      rw [e1, e2]
      have hh2 : Builtin.bitAnd (h / 2) (t / 2) = h / 2 := by
        split at hh
        · omega
        · omega
      have hm2 : Builtin.bitAnd (m / 2) (t / 2) = m / 2 := by
        split at hm <;> omega
      have z := ih (by omega) (by omega) (by omega) hh2 hm2 (by omega)
      split at hm <;> split <;> omega
theorem and_nn {x y : Int} (hx : 0 ≤ x) (hy : 0 ≤ y) : 0 ≤ Builtin.bitAnd x y ∧ Builtin.bitAnd x y ≤ x ∧ Builtin.bitAnd (Builtin.bitAnd x y) y = Builtin.bitAnd x y := by
  rw [bitAnd_pp hx hy]
  have e : (x.toNat &&& y.toNat) ≤ x.toNat := Nat.and_le_left
  refine ⟨Int.natCast_nonneg _, by omega, ?_⟩
  rw [bitAnd_pp (Int.natCast_nonneg _) hy, Int.toNat_natCast, Nat.and_assoc, Nat.and_self]
/-- every number within a set's number is the number of a part -/
theorem num_part : ∀ {own t : W} {m : Int}, own.Nodup → 0 ≤ m → Builtin.bitAnd m (num own t) = m → ∃ h : W, h.Sublist own ∧ (∀ x ∈ h, x ∈ t) ∧ num own h = m
  | [], t, m, _, m0, e => by
    refine ⟨[], List.Sublist.refl _, (fun x h => nomatch h), ?_⟩
    have z := (and_nn (show (0 : Int) ≤ 0 by decide) m0).2.1
    have z2 : Builtin.bitAnd m 0 = Builtin.bitAnd 0 m := bitAnd_comm _ _
    rw [show num [] t = 0 from rfl, z2] at e
    rw [show num [] [] = 0 from rfl]
    omega
  | x :: own, t, m, nd, m0, e => by
    obtain ⟨n1, n2⟩ := List.nodup_cons.mp nd
    rw [num_cons] at e
    have em : m = m % 2 + 2 * (m / 2) := by omega
    rw [em, bit_halves _ _ _ _ (by omega) (one01 _)] at e
    have q : Builtin.bitAnd (m / 2) (num own t) = m / 2 := by
      split at e <;> omega
    obtain ⟨h, s1, s2, s3⟩ := num_part n2 (by omega) q
    have hx : x ∉ h := fun z => n1 (s1.subset z)
    by_cases odd : m % 2 = 1
    · have hxt : x ∈ t := by
        by_cases z : x ∈ t
        · exact z
        · rw [if_neg z] at e
          rw [if_neg (fun z => by omega)] at e
          omega
      refine ⟨x :: h, List.cons_sublist_cons.mpr s1, fun z hz => (List.mem_cons.mp hz).elim (fun e => e ▸ hxt) (s2 z), ?_⟩
      rw [num_cons, if_pos List.mem_cons_self, (num_same (a := x :: h) (b := h)).mpr fun z hz => ?_, s3]
      · omega
      · rw [List.mem_cons]
        exact ⟨fun q => q.elim (fun q => absurd (q ▸ hz) n1) id, .inr⟩
    · refine ⟨h, s1.cons _, s2, ?_⟩
      rw [num_cons, if_neg hx, s3]
      omega
/-! ### all worlds of a row of names, ascending -/
def everyW : W → List W
  | [] => [[]]
  | x :: own => [] :: ((everyW own).map (fun t => x :: t) ++ (everyW own).tail)
theorem every_head : ∀ own : W, ∃ r, everyW own = [] :: r
  | [] => ⟨[], rfl⟩
  | x :: own => ⟨_, rfl⟩
theorem every_len : ∀ own : W, (everyW own).length = 2 ^ own.length
  | [] => rfl
  | x :: own => by
    obtain ⟨r, e⟩ := every_head own
    have ih := every_len own
    have p : 0 < 2 ^ own.length := Nat.pow_pos (by decide)
    unfold everyW
    rw [List.length_cons, List.length_append, List.length_map, List.length_tail, ih, List.length_cons, Nat.pow_succ]
    omega
theorem every_ne {own t : W} (h : t ∈ (everyW own).tail) : t ∈ everyW own := List.mem_of_mem_tail h
theorem mem_every : ∀ {own t : W}, t ∈ everyW own ↔ t.Sublist own
  | [], t => by
    unfold everyW
    rw [List.mem_singleton, List.sublist_nil]
  | x :: own, t => by
    obtain ⟨r, e⟩ := every_head own
    unfold everyW
    rw [List.mem_cons, List.mem_append, List.mem_map]
    constructor
    · rintro (rfl | ⟨s, hs, rfl⟩ | h)
      · exact List.nil_sublist _
      · exact List.cons_sublist_cons.mpr (mem_every.mp hs)
      · exact (mem_every.mp (every_ne h)).cons _
    · intro s
      cases s with
      | cons _ h =>
        have z := mem_every.mpr h
        rw [e, List.mem_cons] at z
        rcases z with z | z
        · exact .inl z
        · exact .inr (.inr (by rw [e]; exact z))
      | cons_cons _ h => exact .inr (.inl ⟨_, mem_every.mpr h, rfl⟩)
end Rw
namespace Rw
open PySem PySem.Spec PyProof.Rows L2
/-! ### a comprehension into a dict over any walk -/
theorem dc_it {J : It} {n : Nat} {G : Hp → Prop} {Y : Nat → Hp → V → Hp → Prop} (w : Walk J n G Y) {g : TG} {tt : L2.TT} {tk tv : TE} {vs : List Nat} {σ : L2.St} {H1 : Hp} {D : Addr} {Qd : Hp → Prop} (Pv : Nat → Hp → Prop) (h0 : Pv 0 (upd H1 D (.dK []))) (hG : ∀ i H, i ≤ n → Pv i H → G H)
    (hs : ∀ i x H H', i < n → Pv i H → Y i H x H' → g x (wipe σ vs) H' fun σ2 H2 => wipe σ2 vs = wipe σ vs ∧ tt σ2 H2 fun b H3 =>
      if b = true then tk σ2 H3 fun y H4 => tv σ2 H4 fun z H5 => ∃ kvs k, y = kV k ∧ H5 D = some (.dK kvs) ∧ kvs.length < sizeLine ∧ Pv (i + 1) (upd H5 D (.dK (putK kvs k z))) else Pv (i + 1) H3) (hd : ∀ H, Pv n H → Qd H) :
    ∃ W : Nat → Nat → Hp → Prop, (∃ m, W 0 m (upd H1 D (.dK []))) ∧ ∀ i m H, W i m H →
      (J.stop i H ∧ Qd H) ∨ (J.go i H ∧ ∃ Nx : Hp → Prop, (∀ H', Nx H' → ∃ m', m' < m ∧ W (i + 1) m' H') ∧ ∀ x H', J.yld i H x H' → g x (wipe σ vs) H' fun σ2 H2 => wipe σ2 vs = wipe σ vs ∧ tt σ2 H2 fun b H3 =>
        if b = true then tk σ2 H3 fun y H4 => tv σ2 H4 fun z H5 => ∃ kvs k, y = kV k ∧ H5 D = some (.dK kvs) ∧ kvs.length < sizeLine ∧ Nx (upd H5 D (.dK (putK kvs k z))) else Nx H3) := by
  refine ⟨fun i m H => m = n - i ∧ i ≤ n ∧ Pv i H, ⟨n, by simp, Nat.zero_le _, h0⟩, ?_⟩
  rintro i m H ⟨rfl, hi, p⟩
  have q := hG i H hi p
  by_cases hlt : i < n
  · refine .inr ⟨w.goes i H hlt q, Pv (i + 1), fun H' p' => ⟨n - (i + 1), by omega, rfl, hlt, p'⟩, fun x H' y => hs i x H H' hlt p (w.yields i H x H' hlt q y)⟩
  · have e : i = n := by omega
    subst e
    exact .inl ⟨w.stops H q, hd H p⟩
theorem walk_enumT {K : PySem.W.Frag} {a : Addr} {xs : List V} : Walk (Ietup K a) xs.length (fun H => SqT K H a xs) (YPair (fun i => some (.int (i : Nat))) (fun i => xs[i]?)) := by
  refine ⟨fun i _ hi q => ⟨xs, xs[i], q, by simp [hi]⟩, fun _ q => ⟨xs, q, rfl⟩, fun i H v H' _ q y => ?_⟩
  obtain ⟨T, x, h1, h2, h3, h4⟩ := y
  exact ⟨T, .int (i : Nat), x, h1, h2, h3, rfl, h4 xs q⟩
/-! ### _bits_of -/
/-- the dict of names and their bits, the first n of them -/
def BD (own : W) (ns : W) : HO := .dK (ns.map fun z => (.inr z, .int (bitOf own z)))
theorem valBD {own : W} : ∀ {ns : W} {z : Str}, valV (ns.map fun z => ((.inr z : Key), V.int (bitOf own z))) (.inr z) = if z ∈ ns then some (V.int (bitOf own z)) else none
  | [], z => rfl
  | y :: ns, z => by
    have ih := @valBD own ns z
    unfold valV at ih ⊢
    rw [List.map_cons, List.find?_cons]
    by_cases e : z = y
    · subst e
      simp
    · have e' : ¬ ((.inr y : Key) = .inr z) := fun q => e (Sum.inr.inj q).symm
      simp only [e', decide_false]
      rw [ih]
      simp [e]
theorem idx_new1 {ns : W} {i : Nat} {z : Str} (nd : ns.Nodup) (hz : ns[i]? = some z) : z ∉ ns.take i := fun h => by
  obtain ⟨j, hj, e⟩ := List.getElem_of_mem h
  rw [List.length_take] at hj
  rw [List.getElem_take] at e
  obtain ⟨hi, e2⟩ := List.getElem?_eq_some_iff.mp hz
  have z2 := (List.getElem_inj (h₀ := by omega) (h₁ := hi) nd).mp (e.trans e2.symm)
  omega
theorem scBitsOf : FnScope ["names", "place", "name"] ["names"] (defScope sBitsOf) := ⟨rfl, rfl, rfl, by decide +kernel, rfl, by decide +kernel, by decide +kernel⟩
section
variable {P : Program} {w : World} {K : PySem.W.Frag} {mg : Str → Option Value} {base : Heap} {f : Addr} {fd : FuncData} {k : Nat}
def spBitsOf (K : PySem.W.Frag) : Sp := fun vs H Q _ => ∃ (a : Addr) (own : W), vs = [.ref a] ∧ SqT K H a (own.map V.str) ∧ own.Nodup ∧ own.length ≤ 40 ∧ ∀ H' D, Same H H' → H D = none → H' D = some (BD own own) → Q (.ref D) H'
theorem ok_bitsOf (F : Fun K "_bits_of" "_bits_of" sBitsOf f fd) (T : Bl mg) : FnOk P w K mg base CX0 (k + 1) f fd ["names"] (spBitsOf K) := by
  refine F.ok scBitsOf (fun vs H Q E h => ?_) (fun cdv A outer s H vs Q E hr h => ?_)
  · obtain ⟨a, own, rfl, _⟩ := h
    rfl
  obtain ⟨a, own, rfl, hT, nd, few, q⟩ := h
  have nl := few
  refine ⟨_, pss_one (ps_ret (pe_dc (own := [("place", 1), ("name", 2)]) (g := gTup K 2 (gCons (gName 1) (gCons (gName 2) gNil))) (tk := tVar 2) (tv := tOp (rI CPow fun i j => .int (i * 2 ^ j.toNat)) (tC (.int 1)) (tVar 1)) (by rfl) scBitsOf.nd (pi_enumT (by rfl) T.enum (pa_cons (pv 0) pa_nil)) (blkOk_by (N := ["names", "place", "name"]) (sc := defScope sBitsOf) (by decide +kernel))
    (fun _ _ _ _ _ => pg_tup (by rfl) (pgs_cons (pg_name (i := 1) scBitsOf.nd rfl (.inl rfl)) (pgs_cons (pg_name (i := 2) scBitsOf.nd rfl (.inl rfl)) pgs_nil))) (fun _ _ _ _ _ => pts_nil) (fun _ _ _ _ _ => pv 2) (fun _ _ _ _ _ => pe_op op_shl pe_int (pv 1)))), ?_⟩
  refine ⟨.ref a, rfl, a, _, rfl, hT, fun D hD => ?_⟩
  refine dc_it walk_enumT (fun i H2 => Same H H2 ∧ H2 D = some (BD own (own.take i))) ⟨same_new hD _, upd_same⟩ (fun i H2 _ h => same_tup h.1 hT) (fun i x H2 H3 hi h hy => ?_) (fun H2 h => ?_)
  · obtain ⟨sm, hd⟩ := h
    obtain ⟨t, x1, x2, rfl, ht, rfl, e1, e2⟩ := hy
    obtain ⟨z, hz, rfl⟩ := map_at e2
    cases e1
    have tD : t ≠ D := fun e => by rw [e, hd] at ht; cases ht
    have hd3 : upd H2 t (.tup [.int (i : Nat), .str z]) D = some (BD own (own.take i)) := by rw [upd_ne (Ne.symm tD)]; exact hd
    rw [List.length_map] at hi
    refine ⟨t, [.int (i : Nat), .str z], rfl, SqT.of upd_same, rfl, .int (i : Nat), [.str z], rfl, .str z, [], rfl, rfl, rfl, .str z, rfl, .int (i : Nat), rfl, 1, (i : Int), rfl, rfl, ⟨by omega, by omega, by decide⟩, ?_⟩
    refine ⟨_, .inr z, rfl, hd3, small_line' (by rw [List.length_map, List.length_take]; omega), same_put (sm.trans (same_new ht _)) hD, ?_⟩
    rw [upd_same]
    have new : z ∉ own.take i := idx_new1 nd hz
    have e : ((own.take i).map fun y => ((.inr y : Key), V.int (bitOf own y))).any (fun kv => decide (kv.1 = .inr z)) = false := by
      rw [List.any_eq_false]
      intro p hp
      obtain ⟨y, hy, rfl⟩ := List.mem_map.mp hp
      simp only [decide_eq_true_eq]
      exact fun q => new (Sum.inr.inj q ▸ hy)
    unfold BD putK
    rw [if_neg (by rw [e]; exact Bool.false_ne_true), take_snoc hz, List.map_append]
    have e1 : ((1 : Int) * 2 ^ (i : Int).toNat) = bitOf own z := by
      rw [show (i : Int).toNat = i from rfl, Int.one_mul, ← bit_at' nd hz]
    show some (HO.dK (_ ++ [(Sum.inr z, V.int ((1 : Int) * 2 ^ (i : Int).toNat))])) = _
    rw [e1]
    rfl
  · obtain ⟨sm, hd⟩ := h
    rw [List.length_map, List.take_length] at hd
    exact q H2 D sm hD hd
end
/-! ### _number -/
theorem scNumber : FnScope ["world", "bits", "name"] ["world", "bits"] (defScope sNumber) := ⟨rfl, rfl, rfl, by decide +kernel, rfl, by decide +kernel, by decide +kernel⟩
theorem filt_take {α : Type} {p : α → Bool} {l : List α} {i : Nat} {x : α} (h : l[i]? = some x) : (l.take (i + 1)).filter p = (l.take i).filter p ++ (if p x then [x] else []) := by
  rw [take_snoc h, List.filter_append]
  cases e : p x with
  | true => simp [e]
  | false => simp [e]
section
variable {P : Program} {w : World} {K : PySem.W.Frag} {mg : Str → Option Value} {base : Heap} {f : Addr} {fd : FuncData} {k : Nat}
def spNumber (K : PySem.W.Frag) : Sp := fun vs H Q _ => ∃ (x : V) (b : Addr) (ns own : W), vs = [x, .ref b] ∧ Dp K H x (wd ns) ∧ H b = some (BD own own) ∧ own.Nodup ∧ ns.Nodup ∧ ns.length ≤ 1000 ∧ ∀ H', Same H H' → Q (.int (num own ns)) H'
theorem ok_number (F : Fun K "_number" "_number" sNumber f fd) (T : Bl mg) (ms : mg "sum" = none) : FnOk P w K mg base CX0 (k + 1) f fd ["world", "bits"] (spNumber K) := by
  refine F.ok scNumber (fun vs H Q E h => ?_) (fun cdv A outer s H vs Q E hr h => ?_)
  · obtain ⟨x, b, ns, own, rfl, _⟩ := h
    rfl
  obtain ⟨x, b, ns, own, rfl, hx, hb, nd, nn, few, q⟩ := h
  obtain ⟨a, rfl, hT⟩ := of_wd hx
  have hu := hu_of hr
  refine ⟨_, pss_one (ps_ret (pe_callB (cr_sum rfl) (by rfl) ms (by decide +kernel) (pa_cons (pe_lc (own := [("name", 2)]) (g := gName 2) (tt := tTest (tDIn (tVar 2) (tVar 1))) (te := tDGet (tVar 1) (tVar 2)) (by rfl) scNumber.nd (pi_tup (pv 0)) (blkOk_by (N := ["world", "bits", "name"]) (sc := defScope sNumber) (by decide +kernel))
        (fun _ _ _ _ _ => pg_name (i := 2) scNumber.nd rfl (Or.inl rfl)) (fun _ _ _ _ _ => pts_one (pt_cmp (pc_din hu (pv 2) (pv 1)) (by rfl))) (fun _ _ _ _ _ => pe_dget hu (pv 1) (pv 2) (fun _ _ => rfl))) pa_nil))), ?_⟩
  refine ⟨.ref a, rfl, a, rfl, ⟨_, hT⟩, fun D hD => ?_⟩
  refine lc_tup (xs := ns.map V.str) (fun i H1 => Same H H1 ∧ H1 D = some (.lst ((((ns.take i).filter fun z => decide (z ∈ own)).map (bitOf own)).map V.int))) ⟨same_new hD _, upd_same⟩ (fun i H1 _ hI => same_tup hI.1 hT) (fun i x H1 hx hI => ?_) (fun H1 hI => ?_)
  · obtain ⟨sm, hd⟩ := hI
    obtain ⟨z, hz, rfl⟩ := map_at hx
    have hb1 := sm _ _ hb
    by_cases e : z ∈ own
    · have hv : some (V.int (bitOf own z)) = valV (own.map fun z => ((.inr z : Key), V.int (bitOf own z))) (.inr z) := by rw [valBD, if_pos e]
      refine ⟨rfl, .str z, rfl, .ref b, rfl, b, some (.int (bitOf own z)), rfl, .inl ⟨_, .inr z, .inl hb1, rfl, hv⟩, true, rfl, iteT ?_⟩
      refine ⟨.ref b, rfl, .str z, rfl, b, .int (bitOf own z), rfl, .inl ⟨_, .inr z, .inl hb1, rfl, hv⟩, _, hd, small_line' ?_, same_put sm hD, ?_⟩
      · rw [List.length_map, List.length_map]
        have := List.length_filter_le (fun z => decide (z ∈ own)) (ns.take i)
        rw [List.length_take] at this
        omega
      · rw [upd_same, filt_take hz, if_pos (decide_eq_true e), List.map_append, List.map_append]
        rfl
    · have hv : none = valV (own.map fun z => ((.inr z : Key), V.int (bitOf own z))) (.inr z) := by rw [valBD, if_neg e]
      refine ⟨rfl, .str z, rfl, .ref b, rfl, b, none, rfl, .inl ⟨_, .inr z, .inl hb1, rfl, hv⟩, false, rfl, iteF ⟨sm, ?_⟩⟩
      rw [hd, filt_take hz, if_neg (by simpa using e), List.append_nil]
  · obtain ⟨sm, hd⟩ := hI
    rw [List.length_map, List.take_length] at hd
    refine ⟨D, ((ns.filter fun z => decide (z ∈ own)).map (bitOf own)), rfl, SqL.of hd, ?_⟩
    rw [num_sum nd nn]
    exact q H1 sm
end
end Rw
namespace Rw
open PySem PySem.Spec PyProof.Rows L2
/-! ### _numbered -/
abbrev nNumbered : List Str := ["program", "bits", "rows", "heads", "denied", "needs", "bars"]
theorem scNumbered : FnScope nNumbered ["program", "bits"] (defScope sNumbered) := ⟨rfl, rfl, rfl, by decide +kernel, rfl, by decide +kernel, by decide +kernel⟩
/-- a rule in numbers -/
abbrev N4 : Type := Int × Int × Int × Int
def numR (own : W) (r : Rl) : N4 := (num own r.1, num own r.2.1, num own r.2.2.1, num own r.2.2.2)
def d4 (n : N4) : PyData := .tuple [.int n.1, .int n.2.1, .int n.2.2.1, .int n.2.2.2]
theorem ok_d4 (n : N4) : okD (d4 n) = true := rfl
/-- a list of data -/
def L4 (K : PySem.W.Frag) (H : Hp) (l : Addr) (R : List N4) : Prop := ∃ ys, H l = some (.lst ys) ∧ DpAll K H ys (R.map d4)
theorem okDs_d4 (R : List N4) : okDs (R.map d4) = true := okDs_all fun d hd => by
  obtain ⟨n, _, rfl⟩ := List.mem_map.mp hd
  exact ok_d4 n
theorem L4.same {K : PySem.W.Frag} {H H' : Hp} {l : Addr} {R : List N4} (h : L4 K H l R) (e : Same H H') : L4 K H' l R := by
  obtain ⟨ys, h1, h2⟩ := h
  exact ⟨ys, e _ _ h1, (Stay.same e).dpAll _ _ (okDs_d4 R) h2⟩
theorem of_d4 {K : PySem.W.Frag} {H : Hp} {x : V} {n : N4} (h : Dp K H x (d4 n)) : ∃ a, x = .ref a ∧ SqT K H a [.int n.1, .int n.2.1, .int n.2.2.1, .int n.2.2.2] := by
  unfold d4 at h
  cases h with
  | @tup a xs _ hT hxs =>
    cases hxs with
    | cons h1 t =>
      cases t with
      | cons h2 t =>
        cases t with
        | cons h3 t =>
          cases t with
          | cons h4 t =>
            cases t
            cases h1
            cases h2
            cases h3
            cases h4
            exact ⟨a, rfl, hT⟩
theorem to_d4 {K : PySem.W.Frag} {H : Hp} {a : Addr} {n : N4} (h : SqT K H a [.int n.1, .int n.2.1, .int n.2.2.1, .int n.2.2.2]) : Dp K H (.ref a) (d4 n) := .tup h (.cons (.int _) (.cons (.int _) (.cons (.int _) (.cons (.int _) .nil))))
section
variable {P : Program} {w : World} {K : PySem.W.Frag} {mg : Str → Option Value} {base : Heap} {f : Addr} {fd : FuncData} {k : Nat}
def spNumbered (K : PySem.W.Frag) (C : Addr) : Sp := fun vs H Q _ => ∃ (v : V) (b : Addr) (S : List Rl) (own : W), vs = [v, .ref b] ∧ PgAt K C H v S ∧ (∀ r ∈ S, IsR r) ∧ S.length < 76 ∧ H b = some (BD own own) ∧ own.Nodup ∧ ∀ H' l, Same H H' → H l = none → L4 K H' l (S.map (numR own)) → Q (.ref l) H'
theorem ok_numbered {C pr f1 f2 : Addr} {fd1 fd2 : FuncData} (F : Fun K "_numbered" "_numbered" sNumbered f fd) (T : Bl mg) (c : Cls K C) (hp : PropOf K C "rules" pr f2)
    (G1 : FnOk P w K mg base CX0 (k + 1) f1 fd1 ["world", "bits"] (spNumber K)) (b1 : Binds K fd1 ["world", "bits"] []) (k1 : PySem.W.keepIn K (.ref f1) = true) (m1 : mg "_number" = some (.ref f1))
    (G2 : FnOk P w K mg base CX0 k f2 fd2 ["self"] (spRules K C)) (b2 : Binds K fd2 ["self"] []) : FnOk P w K mg base CX0 (k + 2) f fd ["program", "bits"] (spNumbered K C) := by
  refine F.ok scNumbered (fun vs H Q E h => ?_) (fun cdv A outer s H vs Q E hr h => ?_)
  · obtain ⟨v, b, S, own, rfl, _⟩ := h
    rfl
  obtain ⟨v, b, S, own, rfl, hS, hI, few, hb, nd, q⟩ := h
  refine ⟨_, pss_cons (ps_set (i := 2) scNumbered.nd rfl (.inl rfl) (pe_lst pa_nil))
    (pss_cons (ps_for PassesOwn.never rfl (pi_tup (pe_prop (pv 0) c hp G2 hr b2 .nil pass0 rfl)) (pg_tup (by rfl) (pgs_cons (pg_name (i := 3) scNumbered.nd rfl (.inl rfl)) (pgs_cons (pg_name (i := 4) scNumbered.nd rfl (.inl rfl)) (pgs_cons (pg_name (i := 5) scNumbered.nd rfl (.inl rfl)) (pgs_cons (pg_name (i := 6) scNumbered.nd rfl (.inl rfl)) pgs_nil)))))
      (pss_one (ps_expr (pe_bm PySem.F.plainAttrs_list PySem.F.slot_list_append PySem.F.type_list_append mt_append (pv 2) (pa_cons (pe_tup
        (pa_cons (pe_call G1 hr (by rfl) m1 k1 b1 .nil pass0 (pa_cons (pv 3) (pa_cons (pv 1) pa_nil)))
        (pa_cons (pe_call G1 hr (by rfl) m1 k1 b1 .nil pass0 (pa_cons (pv 4) (pa_cons (pv 1) pa_nil)))
        (pa_cons (pe_call G1 hr (by rfl) m1 k1 b1 .nil pass0 (pa_cons (pv 5) (pa_cons (pv 1) pa_nil)))
        (pa_cons (pe_call G1 hr (by rfl) m1 k1 b1 .nil pass0 (pa_cons (pv 6) (pa_cons (pv 1) pa_nil))) pa_nil))))) pa_nil)))))
    (pss_one (ps_ret (pv 2)))), ?_⟩
  refine ⟨by show 0 ≤ sizeLine; decide, fun d hd0 => ?_⟩
  have s0 := same_new hd0 (.lst [])
  have hdS : (upd H d (.lst [])) d = some (.lst []) := upd_same
  let H0 : Hp := upd H d (.lst [])
  have mutd : Mut (H0 d) := by
    show Mut ((upd H d (.lst [])) d)
    rw [hdS]
    exact True.intro
  have hS1 := hS.same s0
  obtain ⟨a, dx, t0, ys0, rfl, i1, i2, i3⟩ := id hS1
  refine ⟨.ref a, rfl, a, dx, _, rfl, i1, .ref a, S, rfl, hS1, fun t ys ht hys => ?_⟩
  have yl : ys.length = S.length := by rw [dpAll_len hys, List.length_map]
  refine ⟨t, rfl, ⟨_, ht⟩, ?_⟩
  refine for_tup (xs := ys) (fun i σ H2 => (∃ y3 y4 y5 y6, σ = [some (.ref a), some (.ref b), some (.ref d), y3, y4, y5, y6]) ∧ Same H H2 ∧ Bar d H0 H2 ∧ L4 K H2 d ((S.take i).map (numR own))) ⟨⟨_, _, _, _, rfl⟩, s0, fun _ _ _ e => e, [], hdS, .nil⟩ (fun i σ H2 _ hI2 => ?_) (fun i x σ H2 hx hI2 => ?_) (fun σ H2 hI2 => ?_)
  · exact (hI2.2.2.1.stay mutd).seq ht
  · obtain ⟨⟨y3, y4, y5, y6, rfl⟩, sm, bar, zs, hd2, hzs⟩ := hI2
    obtain ⟨dd, hdd, hxd⟩ := dpAll_at' hys hx
    obtain ⟨r, hr0, rfl⟩ := map_at hdd
    have hr' := hI r (List.mem_of_getElem? hr0)
    have st : Stay H0 H2 := bar.stay mutd
    obtain ⟨b0, v1, v2, v3, v4, rfl, hT, h1, h2, h3, h4⟩ := of_rd (st.rd hxd)
    have hb2 := sm _ _ hb
    refine ⟨b0, _, rfl, hT, rfl, _, _, rfl, _, _, rfl, _, _, rfl, _, [], rfl, rfl, ?_⟩
    refine ⟨.ref d, rfl, .inl ⟨rfl, zs, SqL.of hd2⟩, ?_⟩
    refine ⟨v1, rfl, .ref b, rfl, v1, b, r.1, own, rfl, h1, hb2, nd, upX_nodup hr'.h.up, by have := hr'.h.few; omega, fun H3 s3 => ?_⟩
    refine ⟨v2, rfl, .ref b, rfl, v2, b, r.2.1, own, rfl, (Stay.same s3).wd h2, s3 _ _ hb2, nd, upX_nodup hr'.d.up, by have := hr'.d.few; omega, fun H4 s4 => ?_⟩
    have s24 := s3.trans s4
    refine ⟨v3, rfl, .ref b, rfl, v3, b, r.2.2.1, own, rfl, (Stay.same s24).wd h3, s24 _ _ hb2, nd, upX_nodup hr'.n.up, by have := hr'.n.few; omega, fun H5 s5 => ?_⟩
    have s25 := s24.trans s5
    refine ⟨v4, rfl, .ref b, rfl, v4, b, r.2.2.2, own, rfl, (Stay.same s25).wd h4, s25 _ _ hb2, nd, upX_nodup hr'.b.up, by have := hr'.b.few; omega, fun H6 s6 => ?_⟩
    have s26 := s25.trans s6
    refine ⟨by show 4 ≤ sizeLine; decide, fun u hu => ?_⟩
    have s7 := same_new hu (.tup [.int (num own r.1), .int (num own r.2.1), .int (num own r.2.2.1), .int (num own r.2.2.2)])
    have s27 := s26.trans s7
    have hd7 := s27 _ _ hd2
    have il : i < S.length := (List.getElem?_eq_some_iff.mp hr0).1
    have m7 : Mut ((upd H6 u (.tup [.int (num own r.1), .int (num own r.2.1), .int (num own r.2.2.1), .int (num own r.2.2.2)])) d) := by
      rw [hd7]
      exact True.intro
    refine ⟨d, zs, _, rfl, rfl, hd7, small_line' (by rw [dpAll_len hzs, List.length_map, List.length_map, List.length_take]; omega), ?_⟩
    have st8 := Stay.put m7 (.lst (zs ++ [.ref u]))
    refine ⟨⟨_, _, _, _, rfl⟩, same_put (sm.trans s27) hd0, (bar.trans (.same s27)).trans .draw, zs ++ [.ref u], upd_same, ?_⟩
    rw [take_snoc hr0, List.map_append, List.map_append]
    refine dpAll_app (((Stay.same s27).trans st8).dpAll _ _ (okDs_d4 _) hzs) (.cons (st8.dp _ _ (ok_d4 _) (to_d4 (SqT.of upd_same))) .nil)
  · obtain ⟨⟨y3, y4, y5, y6, rfl⟩, sm, bar, hL⟩ := hI2
    rw [yl, List.take_length] at hL
    exact ⟨.ref d, rfl, q H2 d sm hd0 hL⟩
end
end Rw
namespace Rw
open PySem PySem.Spec PyProof.Rows L2
/-! ### _agree, _all_met -/
abbrev nAgree : List Str := ["rows", "here", "there", "heads", "denied", "needs", "bars"]
theorem scAgree : FnScope nAgree ["rows", "here", "there"] (defScope sAgree) := ⟨rfl, rfl, rfl, by decide +kernel, rfl, by decide +kernel, by decide +kernel⟩
theorem scAllMet : FnScope ["urgent", "here", "heads", "needs"] ["urgent", "here"] (defScope sAllMet) := ⟨rfl, rfl, rfl, by decide +kernel, rfl, by decide +kernel, by decide +kernel⟩
def nz (i : Int) : Bool := i != 0
def passI (n : N4) (here there : Int) : Bool := nz (Builtin.bitAnd n.2.2.1 (Builtin.bitNot here)) || (nz (Builtin.bitAnd n.2.2.2 there) || (nz (Builtin.bitAnd n.1 here) || nz (Builtin.bitAnd n.2.1 (Builtin.bitNot there))))
def agreeI (R : List N4) (here there : Int) : Bool := R.all fun n => passI n here there
theorem all_take12 {α : Type} {p : α → Bool} {S : List α} {i : Nat} {r : α} (hr : S[i]? = some r) (h : (S.take i).all p = true) (b : p r = true) : (S.take (i + 1)).all p = true := by
  rw [take_snoc hr, List.all_append, h]
  simp [b]
theorem all_no12 {α : Type} {p : α → Bool} {S : List α} {i : Nat} {r : α} (hr : S[i]? = some r) (b : p r = false) : S.all p = false := by
  rw [List.all_eq_false]
  exact ⟨r, List.mem_of_getElem? hr, by simp [b]⟩
section
variable {P : Program} {w : World} {K : PySem.W.Frag} {mg : Str → Option Value} {base : Heap} {f : Addr} {fd : FuncData} {k : Nat}
def spAgree (K : PySem.W.Frag) : Sp := fun vs H Q _ => ∃ (l : Addr) (h t : Int) (R : List N4), vs = [.ref l, .int h, .int t] ∧ L4 K H l R ∧ Q (.bl (agreeI R h t)) H
theorem ok_agree (F : Fun K "_agree" "_agree" sAgree f fd) : FnOk P w K mg base CX0 (k + 1) f fd ["rows", "here", "there"] (spAgree K) := by
  refine F.ok scAgree (fun vs H Q E h => ?_) (fun cdv A outer s H vs Q E hr h => ?_)
  · obtain ⟨l, h, t, R, rfl, _⟩ := h
    rfl
  obtain ⟨l, h, t, R, rfl, ⟨ys, hl, hys⟩, q⟩ := h
  refine ⟨_, pss_cons (ps_for PassesOwn.never rfl (pi_list (pv 0)) (pg_tup (by rfl) (pgs_cons (pg_name (i := 3) scAgree.nd rfl (.inl rfl)) (pgs_cons (pg_name (i := 4) scAgree.nd rfl (.inl rfl)) (pgs_cons (pg_name (i := 5) scAgree.nd rfl (.inl rfl)) (pgs_cons (pg_name (i := 6) scAgree.nd rfl (.inl rfl)) pgs_nil)))))
      (pss_one (ps_if (pt_not (PW.pt
        (pw_or (pt_truth (pe_op op_and (pv 5) (pe_un un_inv (pv 1))) (by intro _; rfl))
        (pw_or (pt_truth (pe_op op_and (pv 6) (pv 2)) (by intro _; rfl))
        (pw_or (pt_truth (pe_op op_and (pv 3) (pv 1)) (by intro _; rfl))
        (pw_or1 (pt_truth (pe_op op_and (pv 4) (pe_un un_inv (pv 2))) (by intro _; rfl))))))))
        (pss_one (ps_ret pe_bl)) pss_nil)))
    (pss_one (ps_ret pe_bl)), ?_⟩
  have yl : ys.length = R.length := by rw [dpAll_len hys, List.length_map]
  refine ⟨.ref l, rfl, l, rfl, ⟨_, SqL.of hl⟩, ?_⟩
  refine for_list (xs := ys) (fun i σ H2 => (∃ y3 y4 y5 y6, σ = [some (.ref l), some (.int h), some (.int t), y3, y4, y5, y6]) ∧ H2 = H ∧ (R.take i).all (fun n => passI n h t) = true) ⟨⟨_, _, _, _, rfl⟩, rfl, rfl⟩ (fun i σ H2 _ hI2 => by rw [hI2.2.1]; exact SqL.of hl) (fun i x σ H2 hx hI2 => ?_) (fun σ H2 hI2 => ?_)
  · obtain ⟨⟨y3, y4, y5, y6, rfl⟩, rfl, ha⟩ := hI2
    obtain ⟨dd, hdd, hxd⟩ := dpAll_at' hys hx
    obtain ⟨n, hn, rfl⟩ := map_at hdd
    obtain ⟨u, rfl, hT⟩ := of_d4 hxd
    refine ⟨u, _, rfl, hT, rfl, _, _, rfl, _, _, rfl, _, _, rfl, _, [], rfl, rfl, ?_⟩
    have no : passI n h t = false → Q (.bl false) H2 := fun e => by
      rw [show agreeI R h t = false from all_no12 hn e] at q
      exact q
    have yes : passI n h t = true → (∃ y3 y4 y5 y6, [some (V.ref l), some (.int h), some (.int t), some (.int n.1), some (.int n.2.1), some (.int n.2.2.1), some (.int n.2.2.2)] = [some (.ref l), some (.int h), some (.int t), y3, y4, y5, y6]) ∧ H2 = H2 ∧ (R.take (i + 1)).all (fun n => passI n h t) = true := fun e => ⟨⟨_, _, _, _, rfl⟩, rfl, all_take12 hn ha e⟩
    refine ⟨.int n.2.2.1, rfl, .int h, rfl, h, rfl, _, _, rfl, rfl, nz (Builtin.bitAnd n.2.2.1 (Builtin.bitNot h)), rfl, ite2 (fun e => ?_) (fun e => ?_)⟩
    · exact iteF (yes (by unfold passI; rw [e]; rfl))
    refine ⟨.int n.2.2.2, rfl, .int t, rfl, _, _, rfl, rfl, nz (Builtin.bitAnd n.2.2.2 t), rfl, ite2 (fun e2 => ?_) (fun e2 => ?_)⟩
    · exact iteF (yes (by unfold passI; rw [e2]; simp))
    refine ⟨.int n.1, rfl, .int h, rfl, _, _, rfl, rfl, nz (Builtin.bitAnd n.1 h), rfl, ite2 (fun e3 => ?_) (fun e3 => ?_)⟩
    · exact iteF (yes (by unfold passI; rw [e3]; simp))
    refine ⟨.int n.2.1, rfl, .int t, rfl, t, rfl, _, _, rfl, rfl, nz (Builtin.bitAnd n.2.1 (Builtin.bitNot t)), rfl, ?_⟩
    have p4 : passI n h t = nz (Builtin.bitAnd n.2.1 (Builtin.bitNot t)) := by
      unfold passI
      simp [Bool.eq_false_iff.mpr e, Bool.eq_false_iff.mpr e2, Bool.eq_false_iff.mpr e3]
    cases e4 : nz (Builtin.bitAnd n.2.1 (Builtin.bitNot t)) with
    | true => exact iteF (yes (p4.trans e4))
    | false => exact iteT (no (p4.trans e4))
  · obtain ⟨⟨y3, y4, y5, y6, rfl⟩, rfl, ha⟩ := hI2
    rw [yl, List.take_length] at ha
    rw [show agreeI R h t = true from ha] at q
    exact q
/-- rules of heads and needs -/
abbrev N2 : Type := Int × Int
def d2 (n : N2) : PyData := .tuple [.int n.1, .int n.2]
theorem ok_d2 (n : N2) : okD (d2 n) = true := rfl
def L2' (K : PySem.W.Frag) (H : Hp) (l : Addr) (R : List N2) : Prop := ∃ ys, H l = some (.lst ys) ∧ DpAll K H ys (R.map d2)
theorem okDs_d2 (R : List N2) : okDs (R.map d2) = true := okDs_all fun d hd => by
  obtain ⟨n, _, rfl⟩ := List.mem_map.mp hd
  exact ok_d2 n
theorem of_d2 {K : PySem.W.Frag} {H : Hp} {x : V} {n : N2} (h : Dp K H x (d2 n)) : ∃ a, x = .ref a ∧ SqT K H a [.int n.1, .int n.2] := by
  unfold d2 at h
  cases h with
  | @tup a xs _ hT hxs =>
    cases hxs with
    | cons h1 t =>
      cases t with
      | cons h2 t =>
        cases t
        cases h1
        cases h2
        exact ⟨a, rfl, hT⟩
theorem to_d2 {K : PySem.W.Frag} {H : Hp} {a : Addr} {n : N2} (h : SqT K H a [.int n.1, .int n.2]) : Dp K H (.ref a) (d2 n) := .tup h (.cons (.int _) (.cons (.int _) .nil))
def metI (n : N2) (here : Int) : Bool := nz (Builtin.bitAnd n.2 (Builtin.bitNot here)) || nz (Builtin.bitAnd n.1 here)
def allMetI (R : List N2) (here : Int) : Bool := R.all fun n => metI n here
def spAllMet (K : PySem.W.Frag) : Sp := fun vs H Q _ => ∃ (l : Addr) (h : Int) (R : List N2), vs = [.ref l, .int h] ∧ L2' K H l R ∧ Q (.bl (allMetI R h)) H
theorem ok_allMet (F : Fun K "_all_met" "_all_met" sAllMet f fd) : FnOk P w K mg base CX0 (k + 1) f fd ["urgent", "here"] (spAllMet K) := by
  refine F.ok scAllMet (fun vs H Q E h => ?_) (fun cdv A outer s H vs Q E hr h => ?_)
  · obtain ⟨l, h, R, rfl, _⟩ := h
    rfl
  obtain ⟨l, h, R, rfl, ⟨ys, hl, hys⟩, q⟩ := h
  refine ⟨_, pss_cons (ps_for PassesOwn.never rfl (pi_list (pv 0)) (pg_tup (by rfl) (pgs_cons (pg_name (i := 2) scAllMet.nd rfl (.inl rfl)) (pgs_cons (pg_name (i := 3) scAllMet.nd rfl (.inl rfl)) pgs_nil)))
      (pss_one (ps_if (pt_not (PW.pt
        (pw_or (pt_truth (pe_op op_and (pv 3) (pe_un un_inv (pv 1))) (by intro _; rfl))
        (pw_or1 (pt_truth (pe_op op_and (pv 2) (pv 1)) (by intro _; rfl))))))
        (pss_one (ps_ret pe_bl)) pss_nil)))
    (pss_one (ps_ret pe_bl)), ?_⟩
  have yl : ys.length = R.length := by rw [dpAll_len hys, List.length_map]
  refine ⟨.ref l, rfl, l, rfl, ⟨_, SqL.of hl⟩, ?_⟩
  refine for_list (xs := ys) (fun i σ H2 => (∃ y3 y4, σ = [some (.ref l), some (.int h), y3, y4]) ∧ H2 = H ∧ (R.take i).all (fun n => metI n h) = true) ⟨⟨_, _, rfl⟩, rfl, rfl⟩ (fun i σ H2 _ hI2 => by rw [hI2.2.1]; exact SqL.of hl) (fun i x σ H2 hx hI2 => ?_) (fun σ H2 hI2 => ?_)
  · obtain ⟨⟨y3, y4, rfl⟩, rfl, ha⟩ := hI2
    obtain ⟨dd, hdd, hxd⟩ := dpAll_at' hys hx
    obtain ⟨n, hn, rfl⟩ := map_at hdd
    obtain ⟨u, rfl, hT⟩ := of_d2 hxd
    refine ⟨u, _, rfl, hT, rfl, _, _, rfl, _, [], rfl, rfl, ?_⟩
    have no : metI n h = false → Q (.bl false) H2 := fun e => by
      rw [show allMetI R h = false from all_no12 hn e] at q
      exact q
    have yes : metI n h = true → (∃ y3 y4, [some (V.ref l), some (.int h), some (.int n.1), some (.int n.2)] = [some (.ref l), some (.int h), y3, y4]) ∧ H2 = H2 ∧ (R.take (i + 1)).all (fun n => metI n h) = true := fun e => ⟨⟨_, _, rfl⟩, rfl, all_take12 hn ha e⟩
    refine ⟨.int n.2, rfl, .int h, rfl, h, rfl, _, _, rfl, rfl, nz (Builtin.bitAnd n.2 (Builtin.bitNot h)), rfl, ite2 (fun e => ?_) (fun e => ?_)⟩
    · exact iteF (yes (by unfold metI; rw [e]; rfl))
    refine ⟨.int n.1, rfl, .int h, rfl, _, _, rfl, rfl, nz (Builtin.bitAnd n.1 h), rfl, ?_⟩
    have p4 : metI n h = nz (Builtin.bitAnd n.1 h) := by
      unfold metI
      simp [Bool.eq_false_iff.mpr e]
    cases e4 : nz (Builtin.bitAnd n.1 h) with
    | true => exact iteF (yes (p4.trans e4))
    | false => exact iteT (no (p4.trans e4))
  · obtain ⟨⟨y3, y4, rfl⟩, rfl, ha⟩ := hI2
    rw [yl, List.take_length] at ha
    rw [show allMetI R h = true from ha] at q
    exact q
end
end Rw
namespace Rw
open PySem PySem.Spec PyProof.Rows L2
/-! ### _is_founded -/
abbrev nIsFounded : List Str := ["rows", "there", "urgent", "heads", "denied", "needs", "bars", "here"]
theorem scIsFounded : FnScope nIsFounded ["rows", "there"] (defScope sIsFounded) := ⟨rfl, rfl, rfl, by decide +kernel, rfl, by decide +kernel, by decide +kernel⟩
def urgB (t : Int) (n : N4) : Bool := !(nz (Builtin.bitAnd n.2.2.2 t) || (nz (Builtin.bitAnd n.2.1 (Builtin.bitNot t)) || nz (Builtin.bitAnd n.2.2.1 (Builtin.bitNot t))))
def urgI (R : List N4) (t : Int) : List N2 := (R.filter (urgB t)).map fun n => (n.1, n.2.2.1)
theorem urg_take {R : List N4} {t : Int} {i : Nat} {n : N4} (h : R[i]? = some n) : urgI (R.take (i + 1)) t = urgI (R.take i) t ++ (if urgB t n = true then [(n.1, n.2.2.1)] else []) := by
  unfold urgI
  rw [filt_take h, List.map_append]
  cases e : urgB t n with
  | true => rfl
  | false => rfl
def FoundI (R : List N4) (t : Int) : Prop := agreeI R t t = true ∧ ∀ m, 0 ≤ m → m < t → Builtin.bitAnd m t = m → allMetI (urgI R t) m = false
section
variable {P : Program} {w : World} {K : PySem.W.Frag} {mg : Str → Option Value} {base : Heap} {f : Addr} {fd : FuncData} {k : Nat}
def spIsFounded (K : PySem.W.Frag) : Sp := fun vs H Q _ => ∃ (l : Addr) (t : Int) (R : List N4), vs = [.ref l, .int t] ∧ L4 K H l R ∧ R.length < 76 ∧ 0 ≤ t ∧ ∀ b H', Same H H' → (b = true ↔ FoundI R t) → Q (.bl b) H'
theorem ok_isFounded {f1 f2 : Addr} {fd1 fd2 : FuncData} (F : Fun K "_is_founded" "_is_founded" sIsFounded f fd)
    (G1 : FnOk P w K mg base CX0 k f1 fd1 ["rows", "here", "there"] (spAgree K)) (b1 : Binds K fd1 ["rows", "here", "there"] []) (k1 : PySem.W.keepIn K (.ref f1) = true) (m1 : mg "_agree" = some (.ref f1))
    (G2 : FnOk P w K mg base CX0 k f2 fd2 ["urgent", "here"] (spAllMet K)) (b2 : Binds K fd2 ["urgent", "here"] []) (k2 : PySem.W.keepIn K (.ref f2) = true) (m2 : mg "_all_met" = some (.ref f2)) : FnOk P w K mg base CX0 (k + 1) f fd ["rows", "there"] (spIsFounded K) := by
  refine F.ok scIsFounded (fun vs H Q E h => ?_) (fun cdv A outer s H vs Q E hr h => ?_)
  · obtain ⟨l, t, R, rfl, _⟩ := h
    rfl
  obtain ⟨l, t, R, rfl, hL, few, t0, q⟩ := h
  obtain ⟨ys, hl, hys⟩ := id hL
  refine ⟨_, pss_cons (ps_if (pt_not (pt_val (pe_call G1 hr (by rfl) m1 k1 b1 .nil pass0 (pa_cons (pv 0) (pa_cons (pv 1) (pa_cons (pv 1) pa_nil)))))) (pss_one (ps_ret pe_bl)) pss_nil)
    (pss_cons (ps_set (i := 2) scIsFounded.nd rfl (.inl rfl) (pe_lst pa_nil))
    (pss_cons (ps_for PassesOwn.never rfl (pi_list (pv 0)) (pg_tup (by rfl) (pgs_cons (pg_name (i := 3) scIsFounded.nd rfl (.inl rfl)) (pgs_cons (pg_name (i := 4) scIsFounded.nd rfl (.inl rfl)) (pgs_cons (pg_name (i := 5) scIsFounded.nd rfl (.inl rfl)) (pgs_cons (pg_name (i := 6) scIsFounded.nd rfl (.inl rfl)) pgs_nil)))))
      (pss_one (ps_if (pt_not (PW.pt
        (pw_or (pt_truth (pe_op op_and (pv 6) (pv 1)) (by intro _; rfl))
        (pw_or (pt_truth (pe_op op_and (pv 4) (pe_un un_inv (pv 1))) (by intro _; rfl))
        (pw_or1 (pt_truth (pe_op op_and (pv 5) (pe_un un_inv (pv 1))) (by intro _; rfl)))))))
        (pss_one (ps_expr (pe_bm PySem.F.plainAttrs_list PySem.F.slot_list_append PySem.F.type_list_append mt_append (pv 2) (pa_cons (pe_tup (pa_cons (pv 3) (pa_cons (pv 5) pa_nil))) pa_nil)))) pss_nil)))
    (pss_cons (ps_set (i := 7) scIsFounded.nd rfl (.inl rfl) (pv 1))
    (pss_cons (ps_while PassesOwn.never (pt_truth (pv 7) (by intro _; rfl))
      (pss_cons (ps_set (i := 7) scIsFounded.nd rfl (.inl rfl) (pe_op op_and (pe_op op_sub (pv 7) pe_int) (pv 1)))
      (pss_one (ps_if (pt_val (pe_call G2 hr (by rfl) m2 k2 b2 .nil pass0 (pa_cons (pv 2) (pa_cons (pv 7) pa_nil)))) (pss_one (ps_ret pe_bl)) pss_nil))))
    (pss_one (ps_ret pe_bl)))))), ?_⟩
  have yl : ys.length = R.length := by rw [dpAll_len hys, List.length_map]
  refine ⟨.ref l, rfl, .int t, rfl, .int t, rfl, l, t, t, R, rfl, hL, _, rfl, ?_⟩
  cases ag : agreeI R t t with
  | false => exact iteT (q false H (fun _ _ e => e) ⟨(fun z => nomatch z), fun z => by rw [z.1] at ag; exact nomatch ag⟩)
  | true =>
  refine iteF ?_
  refine ⟨by show 0 ≤ sizeLine; decide, fun d hd0 => ?_⟩
  have s0 := same_new hd0 (.lst [])
  have hdS : (upd H d (.lst [])) d = some (.lst []) := upd_same
  let H0 : Hp := upd H d (.lst [])
  have mutd : Mut (H0 d) := by
    show Mut ((upd H d (.lst [])) d)
    rw [hdS]
    exact True.intro
  have nld : l ≠ d := fun z => by
    rw [z, hd0] at hl
    cases hl
  refine ⟨.ref l, rfl, l, rfl, ⟨_, SqL.of (s0 _ _ hl)⟩, ?_⟩
  refine for_list (xs := ys) (fun i σ H2 => (∃ y3 y4 y5 y6, σ = [some (.ref l), some (.int t), some (.ref d), y3, y4, y5, y6, none]) ∧ Same H H2 ∧ Bar d H0 H2 ∧ L2' K H2 d (urgI (R.take i) t)) ⟨⟨_, _, _, _, rfl⟩, s0, fun _ _ _ e => e, [], hdS, .nil⟩ (fun i σ H2 _ hI2 => SqL.of (hI2.2.1 _ _ hl)) (fun i x σ H2 hx hI2 => ?_) (fun σ H2 hI2 => ?_)
  · obtain ⟨⟨y3, y4, y5, y6, rfl⟩, sm, bar, zs, hd2, hzs⟩ := hI2
    obtain ⟨dd, hdd, hxd⟩ := dpAll_at' hys hx
    obtain ⟨n, hn, rfl⟩ := map_at hdd
    obtain ⟨u, rfl, hT⟩ := of_d4 (dp_same sm _ _ hxd)
    refine ⟨u, _, rfl, hT, rfl, _, _, rfl, _, _, rfl, _, _, rfl, _, [], rfl, rfl, ?_⟩
    have no : urgB t n = false → (∃ y3 y4 y5 y6, [some (V.ref l), some (.int t), some (.ref d), some (.int n.1), some (.int n.2.1), some (.int n.2.2.1), some (.int n.2.2.2), none] = [some (.ref l), some (.int t), some (.ref d), y3, y4, y5, y6, none]) ∧ Same H H2 ∧ Bar d H0 H2 ∧ L2' K H2 d (urgI (R.take (i + 1)) t) := fun e => ⟨⟨_, _, _, _, rfl⟩, sm, bar, by rw [urg_take hn, e]; exact ⟨zs, hd2, by simpa using hzs⟩⟩
    refine ⟨.int n.2.2.2, rfl, .int t, rfl, _, _, rfl, rfl, nz (Builtin.bitAnd n.2.2.2 t), rfl, ite2 (fun e => ?_) (fun e => ?_)⟩
    · exact iteF (no (by unfold urgB; rw [e]; rfl))
    refine ⟨.int n.2.1, rfl, .int t, rfl, t, rfl, _, _, rfl, rfl, nz (Builtin.bitAnd n.2.1 (Builtin.bitNot t)), rfl, ite2 (fun e2 => ?_) (fun e2 => ?_)⟩
    · exact iteF (no (by unfold urgB; rw [e2]; simp))
    refine ⟨.int n.2.2.1, rfl, .int t, rfl, t, rfl, _, _, rfl, rfl, nz (Builtin.bitAnd n.2.2.1 (Builtin.bitNot t)), rfl, ?_⟩
    have p4 : urgB t n = !nz (Builtin.bitAnd n.2.2.1 (Builtin.bitNot t)) := by
      unfold urgB
      simp [Bool.eq_false_iff.mpr e, Bool.eq_false_iff.mpr e2]
    cases e4 : nz (Builtin.bitAnd n.2.2.1 (Builtin.bitNot t)) with
    | true => exact iteF (no (by rw [p4, e4]; rfl))
    | false =>
      refine iteT ?_
      refine ⟨.ref d, rfl, .inl ⟨rfl, zs, SqL.of hd2⟩, .int n.1, rfl, .int n.2.2.1, rfl, by show 2 ≤ sizeLine; decide, fun v hv => ?_⟩
      have s7 := same_new hv (.tup [.int n.1, .int n.2.2.1])
      have hd7 := s7 _ _ hd2
      have il : i < R.length := (List.getElem?_eq_some_iff.mp hn).1
      have m7 : Mut ((upd H2 v (.tup [.int n.1, .int n.2.2.1])) d) := by
        rw [hd7]
        exact True.intro
      have zl : zs.length ≤ i := by
        rw [dpAll_len hzs, List.length_map]
        unfold urgI
        rw [List.length_map]
        have := List.length_filter_le (urgB t) (R.take i)
        rw [List.length_take] at this
        omega
      refine ⟨d, zs, _, rfl, rfl, hd7, small_line' (by omega), ?_⟩
      have st8 := Stay.put m7 (.lst (zs ++ [.ref v]))
      refine ⟨⟨_, _, _, _, rfl⟩, same_put (sm.trans s7) hd0, (bar.trans (.same s7)).trans .draw, zs ++ [.ref v], upd_same, ?_⟩
      rw [urg_take hn, if_pos (by rw [p4, e4]; rfl), List.map_append]
      exact dpAll_app (((Stay.same s7).trans st8).dpAll _ _ (okDs_d2 _) hzs) (.cons (st8.dp _ _ (ok_d2 _) (to_d2 (SqT.of upd_same))) .nil)
  · obtain ⟨⟨y3, y4, y5, y6, rfl⟩, sm, bar, hU⟩ := hI2
    rw [yl, List.take_length] at hU
    dsimp only [gName, tSeq, tAsg]
    refine ⟨.int t, rfl, ?_⟩
    have tt : Builtin.bitAnd t t = t := by
      rw [bitAnd_pp t0 t0, Nat.and_self]
      omega
    refine while_by (fun σ H' => ∃ h, (∃ y3 y4 y5 y6, σ = [some (.ref l), some (.int t), some (.ref d), y3, y4, y5, y6, some (.int h)]) ∧ H' = H2 ∧ 0 ≤ h ∧ h ≤ t ∧ Builtin.bitAnd h t = h ∧ ∀ m, h ≤ m → m < t → Builtin.bitAnd m t = m → allMetI (urgI R t) m = false)
      (fun σ _ => match σ[7]? with | some (some (V.int m)) => m.toNat | _ => 0) ⟨t, ⟨_, _, _, _, rfl⟩, rfl, t0, Int.le_refl _, tt, fun m a b => absurd a (by omega)⟩ (fun σ H' hP => ?_) (fun σ H' Q1 Q2 m h => ?_)
    · obtain ⟨h, ⟨x3, x4, x5, x6, rfl⟩, rfl, h0, hle, hw, hno⟩ := hP
      refine ⟨.int h, rfl, nz h, rfl, ite2 (fun e => ?_) (fun e => ?_)⟩
      · have hn : h ≠ 0 := by simpa [nz] using e
        have hp : 0 < h := by omega
        refine ⟨.int h, rfl, h, 1, rfl, rfl, .int t, rfl, _, _, rfl, rfl, ?_⟩
        obtain ⟨g0, g1, g2⟩ := and_nn (show 0 ≤ h - 1 by omega) t0
        have all' : ∀ m, Builtin.bitAnd (h - 1) t ≤ m → m < t → Builtin.bitAnd m t = m → m = Builtin.bitAnd (h - 1) t ∨ allMetI (urgI R t) m = false := fun m a b c => by
          by_cases lt : m < h
          · have z := within_step h.toNat h t m (Nat.le_refl _) hp (by omega) hw c lt
            exact .inl (by omega)
          · exact .inr (hno m (by omega) b c)
        refine ⟨.ref d, rfl, .int (Builtin.bitAnd (h - 1) t), rfl, d, Builtin.bitAnd (h - 1) t, urgI R t, rfl, hU, _, rfl, ?_⟩
        cases e2 : allMetI (urgI R t) (Builtin.bitAnd (h - 1) t) with
        | true =>
          refine iteT (q false _ sm ⟨(fun z => nomatch z), fun z => ?_⟩)
          rw [z.2 _ g0 (by omega) g2] at e2
          exact nomatch e2
        | false =>
          refine iteF ⟨⟨_, ⟨_, _, _, _, rfl⟩, rfl, g0, by omega, g2, fun m a b c => ?_⟩, ?_⟩
          · rcases all' m a b c with z | z
            · rw [z]
              exact e2
            · exact z
          · show (Builtin.bitAnd (h - 1) t).toNat < h.toNat
            omega
      · have hn : h = 0 := by simpa [nz] using e
        subst hn
        exact q true _ sm ⟨fun _ => ⟨ag, fun m m0 => hno m m0⟩, fun _ => rfl⟩
    · obtain ⟨x, h1, kk, h2, h3⟩ := h
      exact ⟨x, h1, kk, h2, m _ _ h3⟩
end
end Rw
namespace Rw
open PySem PySem.Spec PyProof.Rows L2
/-! ### t[::-1], t a tuple: always a new one -/
section
variable {prog : Program} {w : World} {A : Around} {E : Value → Shared → Prop} {s : Shared}
theorem rev_adjust (n : Nat) : Builtin.Slice.sliceAdjust none none (-1) (n : Int) = ((n : Int) - 1, -1) := by
  unfold Builtin.Slice.sliceAdjust
  simp
theorem rev_places (n : Nat) : Builtin.Slice.slicePlaces ((n : Int) - 1) (-1) (-1) = n := by
  unfold Builtin.Slice.slicePlaces
  have h1 : ¬ ((-1 : Int) > 0) := by decide
  rw [if_neg h1]
  by_cases h : (n : Int) - 1 > -1
  · rw [if_pos h, show (-(-1) : Int) = 1 by decide, Int.ediv_one]
    omega
  · rw [if_neg h]
    omega
theorem fm_congr {α β : Type} {f g : α → Option β} : ∀ {l : List α}, (∀ k ∈ l, f k = g k) → l.filterMap f = l.filterMap g
  | [], _ => rfl
  | a :: l, h => by
    rw [List.filterMap_cons, List.filterMap_cons, h a List.mem_cons_self, fm_congr fun k hk => h k (List.mem_cons_of_mem _ hk)]
theorem rev_pick (xs : Array Value) : ((List.range xs.size).filterMap fun (k : Nat) => xs[(((xs.size : Int) - 1) + (k : Int) * (-1)).toNat]?).toArray = xs.toList.reverse.toArray := by
  have e : ∀ k ∈ List.range xs.size, xs[(((xs.size : Int) - 1) + (k : Int) * (-1)).toNat]? = xs[xs.size - 1 - k]? := fun k hk => by
    have := List.mem_range.mp hk
    congr 1
    omega
  rw [fm_congr e, show (fun k => xs[xs.size - 1 - k]?) = (fun x : Nat => xs[x]?) ∘ fun k => xs.size - 1 - k from rfl, ← List.filterMap_map, PySem.W.krv_range, List.filterMap_reverse, PySem.W.krv_all]
theorem sliceApplied_rev {sl : Addr} {vl vu vs : Value} {n : Nat} {Q : Int × Int × Nat → Shared → Prop} (hs : s.heap.IsSliceOf sl vl vu vs) (pl : IsPart vl none) (pu : IsPart vu none) (ps : IsPart vs (some (-1)))
    (h : Q ((n : Int) - 1, -1, n) s) : wpAny (model prog w) A (Builtin.Slice.sliceApplied (.ref sl) (pure (n : Int))) Q E s := by
  obtain ⟨os, hos, hcs, hds⟩ := id hs
  unfold Builtin.Slice.sliceApplied Builtin.Slice.sliceFields
  refine wpAny_bind (wpAny_bind (wpAny_field hos hds (x := vl) rfl (wpAny_bind (wpAny_field hos hds (x := vu) rfl (wpAny_bind (wpAny_field hos hds (x := vs) rfl (wpAny_pure ?_)))))))
  refine wpAny_bind (HT.slicePart_ ps ?_)
  show wpAny _ _ (if ((-1 : Int) == 0) = true then _ else _) _ _ s
  rw [if_neg (by decide)]
  refine wpAny_bind (HT.slicePart_ pl (wpAny_bind (HT.slicePart_ pu (wpAny_bind (wpAny_pure ?_)))))
  show wpAny _ _ (match Builtin.Slice.sliceAdjust none none (-1) (n : Int) with | (lo, hi) => pure (lo, (-1 : Int), Builtin.Slice.slicePlaces lo hi (-1))) _ _ s
  rw [rev_adjust n]
  show wpAny _ _ (pure ((n : Int) - 1, (-1 : Int), Builtin.Slice.slicePlaces ((n : Int) - 1) (-1) (-1))) _ _ s
  rw [rev_places]
  exact wpAny_pure h
theorem getItem_tuple_rev {t sl : Addr} {items : Array Value} {vl vu vs : Value} {Q : Value → Shared → Prop} (ht : IsTup s.heap t items) (hs : s.heap.IsSliceOf sl vl vu vs) (pl : IsPart vl none) (pu : IsPart vu none) (ps : IsPart vs (some (-1)))
    (h : Q (.ref s.heap.objs.size) { s with heap := s.heap.push { cls := .type "tuple", data := .seq items.toList.reverse.toArray } })
    (hsz : items.size ≤ sizeLine) : wpAny (model prog w) A (getItem (.ref t) (.ref sl)) Q E s := by
  have htake : sizeOk (.seq items.toList.reverse.toArray) := by
    show items.toList.reverse.toArray.size ≤ sizeLine
    rw [List.size_toArray, List.length_reverse, Array.length_toList]
    exact hsz
  obtain ⟨os, hos, hcs, hds⟩ := id hs
  have hTs : s.TypeIs (.ref sl) "slice" := ⟨os, hos, hcs⟩
  unfold getItem
  try with_reducible refine wpAny_holding ?_
  first | refine wpAny_bind (wpAny_pure ?_) | skip
  refine wpAny_bind (wpAny_sequenceKey ht.typeIs (by decide) ?_)
  refine wpAny_bind (wpAny_callSpecial?_slot (name := Str.ofString "__getitem__") ht.typeIs PyProof.Rows.slot_tuple_getitem
    (wpAny_call_entry PyProof.Rows.slot_tuple_getitem ht.typeIs PyProof.Rows.entry_tuple_getitem ?_ (PyProof.Rows.args_tuple_getitem _ _)))
  show wpAny _ _ (Builtin.Tuple.tupleItemsOf (.ref t) >>= _) _ _ s
  refine wpAny_bind (PyProof.Rows.tupleItemsOf_ ht ?_)
  refine wpAny_bind (wpAny_typeOf hTs ?_)
  rw [if_pos (by decide)]
  refine wpAny_bind (sliceApplied_rev hs pl pu ps ?_)
  have hno : ¬ ((((items.size : Int) - 1) == 0 && (-1 : Int) == 1 && items.size == items.size) = true) := by
    intro q
    rw [Bool.and_eq_true, Bool.and_eq_true] at q
    exact absurd q.1.2 (by decide)
  show wpAny _ _ (if (((items.size : Int) - 1) == 0 && (-1 : Int) == 1 && items.size == items.size) = true then _ else _) _ _ s
  rw [if_neg hno, rev_pick]
  first
    | exact wpAny_bind (m := Builtin.Tuple.tupleExact _) (wpAny_newObj_type (wpAny_pure ⟨_, rfl, wpAny_pure h⟩) htake)
    | exact wpAny_bind (m := Builtin.Tuple.tupleExact _) (wpAny_newObj_type (wpAny_bind (wpAny_pure (wpAny_pure ⟨_, rfl, wpAny_pure h⟩))) htake)
    | exact wpAny_bind (wpAny_bind (m := Builtin.Tuple.tupleExact _) (wpAny_newObj_type (wpAny_pure (wpAny_pure ⟨_, rfl, wpAny_pure h⟩)) htake))
    | exact wpAny_bind (wpAny_bind (m := Builtin.Tuple.tupleExact _) (wpAny_newObj_type (wpAny_pure ⟨_, rfl, wpAny_pure h⟩) htake))
end
section
variable {X : Cx}
def tRevT (K : PySem.W.Frag) (te : TE) : TE := fun σ H Q => te σ H fun x H1 => ∃ a xs, x = .ref a ∧ SqT K H1 a xs ∧ ∀ p, H1 p = none → Q (.ref p) (upd H1 p (.tup xs.reverse))
theorem pe_revT {e : Expr} {te : TE} {k : Nat} {p1 p2 p3 pos : Pos} (he : PE X e te) : PE X (.Subscript e (.Slice none none (some (.UnaryOp .USub (.Constant (.int 1) k p1) p2)) p3) pos) (tRevT X.K te) := by
  refine ⟨fun pins s σ H Q I h => ?_⟩
  refine Subscript_ (thn (he.run pins s σ H _ I h) fun v s1 ⟨x, H1, I1, r1, q1⟩ => ?_)
  obtain ⟨a, xs, ex, hx, q⟩ := q1
  subst ex
  cases r1
  have hst : PO X (some (.UnaryOp .USub (.Constant (.int 1) k p1) p2)) (tPart (tUn (rU fun i => .int (-i)) (tC (.int 1)))) := po_some (pe_un un_neg pe_int)
  refine wpAny_Slice (thn (po_none.run pins s1 σ H1 (fun o H2 => o = none ∧ H2 = H1) I1 ⟨rfl, rfl⟩) fun vl s2 ⟨l, H2, I2, pl, el, e2⟩ => ?_)
  subst el e2
  refine thn (po_none.run pins s2 σ H2 (fun o H3 => o = none ∧ H3 = H2) I2 ⟨rfl, rfl⟩) fun vu s3 ⟨u, H3, I3, pu, eu, e3⟩ => ?_
  subst eu e3
  refine thn (hst.run pins s3 σ H3 (fun o H4 => o = some (-1) ∧ H4 = H3) I3 ⟨1, rfl, -1, rfl, rfl, rfl⟩) fun vs s4 ⟨o, H4, I4, ps, eo, e4⟩ => ?_
  subst eo e4
  have I5 : Inv X pins σ H4 { s4 with heap := s4.heap.push { cls := .type "slice", data := .fields #[vl, vu, vs] } } := I4.kept (t' := s4.toks) fun b ob q => Heap.get?_push_of_some _ q
  obtain ⟨its, r, ht, hz⟩ := I5.tuple hx
  have hlen := r.length
  show wpAny (model X.prog X.w) X.A (subscriptTail e (.Slice none none (some (.UnaryOp .USub (.Constant (.int 1) k p1) p2)) p3) (.ref a) (.ref s4.heap.objs.size)) (EP X pins σ Q) X.xe { s4 with heap := s4.heap.push { cls := .type "slice", data := .fields #[vl, vu, vs] } }
  refine tail_any (ops := [.ref a, .ref s4.heap.objs.size]) ht.typeIs (PyProof.Rows.slot_tuple_getitem.lookup) ?_ (by with_unfolding_all rfl)
  refine getItem_tuple_rev ht (Heap.IsSliceOf.new _ vl vu vs) pl pu ps ?_ (by rw [List.size_toArray]; omega)
  refine ⟨.ref _, _, I5.laid (t' := s4.toks) (o := .tup xs.reverse) (fun b ob q => Heap.get?_push_of_some _ q) (Nat.le_refl _) ?_, rfl, q _ (I5.hok.fresh (Nat.le_refl _))⟩
  exact ⟨by rw [List.length_reverse]; exact hz, _, r.reverse, IsTup.new _ _⟩
end
end Rw
namespace Rw
open PySem PySem.Spec PyProof.Rows L2
/-! ### _every_world -/
abbrev nEvery : List Str := ["names", "found", "name", "begun", "world"]
theorem scEvery : FnScope nEvery ["names"] (defScope sEvery) := ⟨rfl, rfl, rfl, by decide +kernel, rfl, by decide +kernel, by decide +kernel⟩
/-- a list of worlds -/
def WLs (K : PySem.W.Frag) (H : Hp) (l : Addr) (S : List W) : Prop := ∃ ys, H l = some (.lst ys) ∧ DpAll K H ys (S.map wd)
theorem okDs_wds (S : List W) : okDs (S.map wd) = true := okDs_all fun d hd => by
  obtain ⟨n, _, rfl⟩ := List.mem_map.mp hd
  exact ok_wd n
theorem WLs.same {K : PySem.W.Frag} {H H' : Hp} {l : Addr} {S : List W} (h : WLs K H l S) (e : Same H H') : WLs K H' l S := by
  obtain ⟨ys, h1, h2⟩ := h
  exact ⟨ys, e _ _ h1, (Stay.same e).dpAll _ _ (okDs_wds S) h2⟩
theorem dps_app12 {K : PySem.W.Frag} {H : Hp} {ys : List V} {es : List PyData} (h2 : DpAll K H ys es) : ∀ {xs : List V} {ds : List PyData}, DpAll K H xs ds → DpAll K H (xs ++ ys) (ds ++ es)
  | [], [], .nil => h2
  | _ :: _, _ :: _, .cons h t => .cons h (dps_app12 h2 t)
theorem dps_tail {K : PySem.W.Frag} {H : Hp} : ∀ {xs : List V} {ds : List PyData}, DpAll K H xs ds → DpAll K H xs.tail ds.tail
  | [], [], .nil => .nil
  | _ :: _, _ :: _, .cons h t => t
theorem rev_at {own : W} {i : Nat} {x : V} (h : (own.map V.str).reverse[i]? = some x) : ∃ z, x = .str z ∧ i < own.length ∧ own.drop (own.length - (i + 1)) = z :: own.drop (own.length - i) := by
  obtain ⟨hi, e⟩ := List.getElem?_eq_some_iff.mp h
  have hi' : i < own.length := by simpa using hi
  rw [List.getElem_reverse, List.getElem_map] at e
  have e3 : (own.map V.str).length - 1 - i = own.length - (i + 1) := by
    rw [List.length_map]
    omega
  have lt : own.length - (i + 1) < own.length := by omega
  refine ⟨own[own.length - (i + 1)], ?_, hi', ?_⟩
  · rw [← e]
    congr 1
    simp only [e3]
  · rw [List.drop_eq_getElem_cons lt, show own.length - (i + 1) + 1 = own.length - i by omega]
theorem cut_tail (xs : List V) (h : 1 ≤ xs.length) : cutV xs (some 1) none = xs.tail := by
  cases xs with
  | nil => exact absurd h (by simp)
  | cons x xs =>
    unfold cutV
    have e1 : HT.sIx (x :: xs).length 0 (some 1) = 1 := by
      have z := HT.sIx_nat (x :: xs).length 0 1
      rw [show ((1 : Nat) : Int) = 1 from rfl] at z
      rw [z, List.length_cons]
      omega
    rw [e1, HT.sIx_none]
    simp
section
variable {P : Program} {w : World} {K : PySem.W.Frag} {mg : Str → Option Value} {base : Heap} {f : Addr} {fd : FuncData} {k : Nat}
def spEvery (K : PySem.W.Frag) : Sp := fun vs H Q _ => ∃ (a : Addr) (own : W), vs = [.ref a] ∧ SqT K H a (own.map V.str) ∧ own.length ≤ 10 ∧ ∀ H' l, Same H H' → H l = none → WLs K H' l (everyW own) → Q (.ref l) H'
theorem ok_every (F : Fun K "_every_world" "_every_world" sEvery f fd) : FnOk P w K mg base CX0 (k + 1) f fd ["names"] (spEvery K) := by
  refine F.ok scEvery (fun vs H Q E h => ?_) (fun cdv A outer s H vs Q E hr h => ?_)
  · obtain ⟨a, own, rfl, _⟩ := h
    rfl
  obtain ⟨a, own, rfl, hT, few, q⟩ := h
  refine ⟨_, pss_cons (ps_set (i := 1) scEvery.nd rfl (.inl rfl) (pe_lst (pa_cons (pe_tup pa_nil) pa_nil)))
    (pss_cons (ps_for PassesOwn.never rfl (pi_tup (pe_revT (pv 0))) (pg_name (i := 2) scEvery.nd rfl (.inr rfl))
      (pss_cons (ps_setLc (i := 3) (own := [("world", 4)]) (g := gName 4) (te := tTup (tCons (tVar 2) (StX.tStar K (tVar 4) tNil))) (by rfl) scEvery.nd rfl rfl (sw_true rfl rfl rfl (by decide +kernel)) (pi_list (pv 1)) (blkOk_by (N := nEvery) (sc := defScope sEvery) (by decide +kernel))
        (fun _ _ _ _ _ => pg_name (i := 4) scEvery.nd rfl (Or.inl rfl)) (fun _ _ _ _ _ => pts_nil) (fun _ _ _ _ _ => pe_tup (pa_cons (pv 2) (StX.pa_star (pv 4) pa_nil))))
      (pss_one (ps_set (i := 1) scEvery.nd rfl (.inl rfl) (pe_op op_cat (pe_op op_cat (pe_lst (pa_cons (pe_tup pa_nil) pa_nil)) (pv 3)) (pe_slice sl_list (pv 1) (po_some pe_int) po_none))))))
    (pss_one (ps_ret (pv 1)))), ?_⟩
  refine ⟨by show 0 ≤ sizeLine; decide, fun t0 ht0 => ?_⟩
  have s0 := same_new ht0 (.tup [])
  refine ⟨by show 1 ≤ sizeLine; decide, fun l0 hl0 => ?_⟩
  have s1 := same_new hl0 (.lst [.ref t0])
  have s01 := s0.trans s1
  refine ⟨.ref a, rfl, a, _, rfl, same_tup s01 hT, fun r hr0 => ?_⟩
  have s2 := same_new hr0 (.tup (own.map V.str).reverse)
  have s02 := s01.trans s2
  refine ⟨r, rfl, ⟨_, SqT.of upd_same⟩, ?_⟩
  let HR : Hp := upd (upd (upd H t0 (.tup [])) l0 (.lst [.ref t0])) r (.tup (own.map V.str).reverse)
  have hrT : SqT K HR r (own.map V.str).reverse := SqT.of upd_same
  refine for_tup (xs := (own.map V.str).reverse) (fun i σ H2 => (∃ l y2 y3, σ = [some (.ref a), some (.ref l), y2, y3, none] ∧ H l = none ∧ WLs K H2 l (everyW (own.drop (own.length - i)))) ∧ Same HR H2) ⟨⟨l0, _, _, rfl, none_back s0 hl0, ?_⟩, fun _ _ e => e⟩ (fun i σ H2 _ hI2 => same_tup hI2.2 hrT) (fun i x σ H2 hx hI2 => ?_) (fun σ H2 hI2 => ?_)
  · rw [Nat.sub_zero, List.drop_length]
    refine ⟨[.ref t0], s2 _ _ upd_same, .cons (to_wd (ns := []) ?_) .nil⟩
    exact same_tup (s1.trans s2) (SqT.of upd_same)
  · obtain ⟨⟨l, y2, y3, rfl, hln, ys, hl, hys⟩, sm⟩ := hI2
    obtain ⟨z, rfl, il, ed⟩ := rev_at hx
    rw [ed]
    generalize hS : everyW (own.drop (own.length - i)) = S at hys
    have Sl : S.length ≤ 1024 := by
      rw [← hS, every_len, List.length_drop]
      have : 2 ^ (own.length - (own.length - i)) ≤ 2 ^ 10 := Nat.pow_le_pow_right (by decide) (by omega)
      omega
    have S1 : 1 ≤ S.length := by
      rw [← hS, every_len]
      exact Nat.pow_pos (by decide)
    have yl : ys.length = S.length := by rw [dpAll_len hys, List.length_map]
    have en : everyW (z :: own.drop (own.length - i)) = [] :: (S.map (fun t => z :: t) ++ S.tail) := by
      show [] :: ((everyW (own.drop (own.length - i))).map (fun t => z :: t) ++ (everyW (own.drop (own.length - i))).tail) = _
      rw [hS]
    rw [en]
    refine ⟨.ref l, rfl, l, rfl, ⟨_, SqL.of hl⟩, fun D hD => ?_⟩
    refine lc_list (xs := ys) (fun j H3 => Same H2 H3 ∧ ∃ zs, H3 D = some (.lst zs) ∧ DpAll K H3 zs ((S.take j).map fun t => wd (z :: t))) ⟨same_new hD _, [], upd_same, .nil⟩ (fun j H3 _ h => SqL.of (h.1 _ _ hl)) (fun j y H3 hy h => ?_) (fun H3 h => ?_)
    · obtain ⟨s3, zs, hd, hzs⟩ := h
      obtain ⟨de, hde, hyd⟩ := dpAll_at' hys hy
      obtain ⟨t, ht, rfl⟩ := map_at hde
      obtain ⟨b, rfl, hB⟩ := of_wd ((Stay.same s3).wd hyd)
      have tl : t.length ≤ 10 := by
        have z2 : t ∈ S := List.mem_of_getElem? ht
        rw [← hS] at z2
        have := (mem_every.mp z2).length_le
        rw [List.length_drop] at this
        omega
      refine ⟨rfl, .str z, rfl, .ref b, rfl, b, _, rfl, .inl hB, ?_⟩
      refine ⟨by
        show (V.str z :: (t.map V.str ++ [])).length ≤ sizeLine
        rw [List.append_nil, List.length_cons, List.length_map]
        exact small_line (by omega), fun u hu => ?_⟩
      have eu : (V.str z :: (t.map V.str ++ [])) = (z :: t).map V.str := by
        rw [List.append_nil]
        rfl
      rw [eu]
      have s4 := same_new hu (.tup ((z :: t).map V.str))
      have hd4 := s4 _ _ hd
      have m4 : Mut ((upd H3 u (.tup ((z :: t).map V.str))) D) := by
        rw [hd4]
        exact True.intro
      have jl : j < S.length := (List.getElem?_eq_some_iff.mp ht).1
      have st5 := Stay.put m4 (.lst (zs ++ [.ref u]))
      refine ⟨zs, hd4, small_line' (by rw [dpAll_len hzs, List.length_map, List.length_take]; omega), same_put (s3.trans s4) hD, zs ++ [.ref u], upd_same, ?_⟩
      rw [take_snoc ht, List.map_append]
      refine dps_app12 (.cons (st5.wd (to_wd (SqT.of upd_same))) .nil) (((Stay.same s4).trans st5).dpAll _ _ (okDs_all fun d hd => ?_) hzs)
      obtain ⟨q, _, rfl⟩ := List.mem_map.mp hd
      exact ok_wd _
    · obtain ⟨s3, zs, hd, hzs⟩ := h
      rw [yl, List.take_length] at hzs
      have zl : zs.length = S.length := by rw [dpAll_len hzs, List.length_map]
      refine ⟨by show 0 ≤ sizeLine; decide, fun t1 ht1 => ?_⟩
      have s4 := same_new ht1 (.tup [])
      refine ⟨by show 1 ≤ sizeLine; decide, fun l1 hl1 => ?_⟩
      have s5 := same_new hl1 (.lst [.ref t1])
      have s45 := s4.trans s5
      refine ⟨.ref D, rfl, l1, D, [.ref t1], zs, rfl, rfl, upd_same, s45 _ _ hd, small_line (by rw [List.length_singleton, zl]; omega), fun p hp => ?_⟩
      have s6 := same_new hp (.lst ([.ref t1] ++ zs))
      have s46 := s45.trans s6
      refine ⟨.ref l, rfl, 1, rfl, l, ys, rfl, SqL.of ((s3.trans s46) _ _ hl), fun p2 hp2 => ?_⟩
      rw [cut_tail ys (by omega)]
      have s7 := same_new hp2 (.lst ys.tail)
      have s47 := s46.trans s7
      refine ⟨p, p2, [.ref t1] ++ zs, ys.tail, rfl, rfl, s7 _ _ upd_same, upd_same, small_line (by rw [List.length_append, List.length_singleton, List.length_tail]; omega), fun p3 hp3 => ?_⟩
      have s8 := same_new hp3 (.lst ([.ref t1] ++ zs ++ ys.tail))
      have s48 := s47.trans s8
      have sAll := sm.trans (s3.trans s48)
      refine ⟨⟨p3, _, _, rfl, none_back (s02.trans (sm.trans (s3.trans s47))) hp3, _, upd_same, ?_⟩, sAll⟩
      rw [List.map_cons, List.map_append, List.map_map, ← List.cons_append]
      have h1 := (Stay.same s48).dpAll _ _ (okDs_all fun d hd => by
        obtain ⟨q, _, rfl⟩ := List.mem_map.mp hd
        exact ok_wd _) hzs
      have h2 := (Stay.same (s3.trans s48)).dpAll _ _ (okDs_wds S) hys
      have h3 : DpAll K _ ys.tail (S.map wd).tail := dps_tail h2
      rw [← List.map_tail] at h3
      refine dps_app12 h3 (.cons ?_ h1)
      exact to_wd (ns := []) (same_tup (s5.trans (s6.trans (s7.trans s8))) (SqT.of upd_same))
  · obtain ⟨⟨l, y2, y3, rfl, hln, hW⟩, sm⟩ := hI2
    rw [List.length_reverse, List.length_map, Nat.sub_self, List.drop_zero] at hW
    exact ⟨.ref l, rfl, q H2 l (s02.trans sm) hln hW⟩
end
end Rw
namespace Rw
open PySem PySem.Spec PyProof.Rows L2
/-! ### answers, is_answer -/
abbrev nAnswers : List Str := ["program", "own", "bits", "rows", "world"]
theorem scAnswers : FnScope nAnswers ["program"] (defScope sAnswers) := ⟨rfl, rfl, rfl, by decide +kernel, rfl, by decide +kernel, by decide +kernel⟩
/-- a set of names is an answer, told by numbers -/
noncomputable def fdB (S : List Rl) (own w : W) : Bool := @decide (FoundI (S.map (numR own)) (num own w)) (Classical.propDecidable _)
theorem fdB_of {S : List Rl} {own w : W} {b : Bool} (h : b = true ↔ FoundI (S.map (numR own)) (num own w)) : b = fdB S own w := by
  unfold fdB
  cases b with
  | true => exact (@decide_eq_true _ (Classical.propDecidable _) (h.mp rfl)).symm
  | false => exact (@decide_eq_false _ (Classical.propDecidable _) (fun z => nomatch h.mpr z)).symm
theorem few_own {S : List Rl} {own bd : W} (h : IsW own) (m : ∀ z, z ∈ own ↔ z ∈ namesL S) (hb : ∀ z ∈ namesL S, z ∈ bd) : own.length ≤ bd.length := len_le (upX_nodup h.up) fun z hz => hb z ((m z).mp hz)
section
variable {P : Program} {w : World} {K : PySem.W.Frag} {mg : Str → Option Value} {base : Heap} {f : Addr} {fd : FuncData} {k : Nat}
def spAnswers (K : PySem.W.Frag) (C CP : Addr) : Sp := fun vs H Q E => ∃ v : V, vs = [v] ∧ ((∃ (S : List Rl) (bd : W), PgAt K C H v S ∧ (∀ r ∈ S, IsR r) ∧ S.length < 76 ∧ (∀ z ∈ namesL S, z ∈ bd) ∧ bd.length ≤ 10 ∧ ∀ H' l own, Same H H' → H l = none → IsW own → (∀ z, z ∈ own ↔ z ∈ namesL S) → WLs K H' l ((everyW own).filter (fdB S own)) → Q (.ref l) H') ∨
  (∃ d, Dp K H v d ∧ ∀ dx, H dx = none → E (.ref CP) (some dx) (upd H dx (.xd [(("thing" : Str), v)]))))
theorem ok_answers {C CP pN f1 f2 f3 f4 f5 f6 f7 : Addr} {fd1 fd2 fd3 fd4 fd5 fd6 fd7 : FuncData} (F : Fun K "answers" "answers" sAnswers f fd) (c : Cls K C) (hp : PropOf K C "names" pN f2)
    (G1 : FnOk P w K mg base (L2.CX P w) (k + 1) f1 fd1 ["thing"] (spCheckProgram K C CP)) (b1 : Binds K fd1 ["thing"] []) (k1 : PySem.W.keepIn K (.ref f1) = true) (m1 : mg "check_program" = some (.ref f1))
    (G2 : FnOk P w K mg base CX0 k f2 fd2 ["self"] (spNames K C)) (b2 : Binds K fd2 ["self"] [])
    (G3 : FnOk P w K mg base CX0 (k + 1) f3 fd3 ["names"] (spBitsOf K)) (b3 : Binds K fd3 ["names"] []) (k3 : PySem.W.keepIn K (.ref f3) = true) (m3 : mg "_bits_of" = some (.ref f3))
    (G4 : FnOk P w K mg base CX0 (k + 1) f4 fd4 ["program", "bits"] (spNumbered K C)) (b4 : Binds K fd4 ["program", "bits"] []) (k4 : PySem.W.keepIn K (.ref f4) = true) (m4 : mg "_numbered" = some (.ref f4))
    (G5 : FnOk P w K mg base CX0 (k + 1) f5 fd5 ["names"] (spEvery K)) (b5 : Binds K fd5 ["names"] []) (k5 : PySem.W.keepIn K (.ref f5) = true) (m5 : mg "_every_world" = some (.ref f5))
    (G6 : FnOk P w K mg base CX0 (k + 1) f6 fd6 ["rows", "there"] (spIsFounded K)) (b6 : Binds K fd6 ["rows", "there"] []) (k6 : PySem.W.keepIn K (.ref f6) = true) (m6 : mg "_is_founded" = some (.ref f6))
    (G7 : FnOk P w K mg base CX0 (k + 1) f7 fd7 ["world", "bits"] (spNumber K)) (b7 : Binds K fd7 ["world", "bits"] []) (k7 : PySem.W.keepIn K (.ref f7) = true) (m7 : mg "_number" = some (.ref f7)) :
    FnOk P w K mg base (L2.CX P w) (k + 2) f fd ["program"] (spAnswers K C CP) := by
  refine F.okX scAnswers (fun vs H Q E h => ?_) (fun cdv A outer s H vs Q E hr h => ?_)
  · obtain ⟨v, rfl, _⟩ := h
    rfl
  obtain ⟨v, rfl, h⟩ := h
  refine ⟨_, pss_cons (ps_expr (pe_call G1 hr (by rfl) m1 k1 b1 .nil (passes_call (takes_of rfl rfl rfl rfl) (fun _ _ _ _ h => h)) (pa_cons (pv 0) pa_nil)))
    (pss_cons (ps_set (i := 1) scAnswers.nd rfl (.inl rfl) (pe_prop (pv 0) c hp G2 hr b2 .nil pass0 rfl))
    (pss_cons (ps_set (i := 2) scAnswers.nd rfl (.inr rfl) (pe_call G3 hr (by rfl) m3 k3 b3 .nil pass0 (pa_cons (pv 1) pa_nil)))
    (pss_cons (ps_set (i := 3) scAnswers.nd rfl (.inr rfl) (pe_call G4 hr (by rfl) m4 k4 b4 .nil pass0 (pa_cons (pv 0) (pa_cons (pv 2) pa_nil))))
    (pss_one (ps_ret (pe_lc (own := [("world", 4)]) (g := gName 4) (by rfl) scAnswers.nd (pi_list (pe_call G5 hr (by rfl) m5 k5 b5 .nil pass0 (pa_cons (pv 1) pa_nil))) (blkOk_by (N := nAnswers) (sc := defScope sAnswers) (by decide +kernel))
        (fun _ _ _ _ _ => pg_name (i := 4) scAnswers.nd rfl (Or.inl rfl)) (fun _ _ _ _ _ => pts_one (pt_val (pe_call G6 hr (by rfl) m6 k6 b6 .nil pass0 (pa_cons (pv 3) (pa_cons (pe_call G7 hr (by rfl) m7 k7 b7 .nil pass0 (pa_cons (pv 4) (pa_cons (pv 2) pa_nil))) pa_nil))))) (fun _ _ _ _ _ => pv 4))))))), ?_⟩
  rcases h with ⟨S, bd, hS, hI, few, hbd, lbd, q⟩ | ⟨d, hd, q⟩
  · refine ⟨v, rfl, v, rfl, .inl ⟨S, hS, ?_⟩⟩
    obtain ⟨a, dx, t0, ys0, rfl, i1, i2, i3⟩ := id hS
    refine ⟨.ref a, rfl, a, dx, _, rfl, i1, .ref a, S, bd, rfl, hS, hI, hbd, by omega, fun H1 tn own s1 htn hown hmem => ?_⟩
    have ol := few_own hown hmem hbd
    have nd := upX_nodup hown.up
    refine ⟨.ref tn, rfl, tn, own, rfl, htn, nd, by omega, fun H2 D s2 hD hB => ?_⟩
    have s12 := s1.trans s2
    refine ⟨.ref a, rfl, .ref D, rfl, .ref a, D, S, own, rfl, hS.same s12, hI, few, hB, nd, fun H3 l s3 hl hL => ?_⟩
    refine ⟨.ref tn, rfl, tn, own, rfl, same_tup (s2.trans s3) htn, by omega, fun H4 e s4 he hW => ?_⟩
    obtain ⟨ys, hy, hys⟩ := id hW
    have s14 := s12.trans (s3.trans s4)
    have yl : ys.length = (everyW own).length := by rw [dpAll_len hys, List.length_map]
    have el : (everyW own).length ≤ 1024 := by
      rw [every_len]
      exact Nat.pow_le_pow_right (n := 2) (by decide) (show own.length ≤ 10 by omega)
    refine ⟨e, rfl, ⟨_, SqL.of hy⟩, fun DD hDD => ?_⟩
    refine lc_list (xs := ys) (fun i H5 => Same H4 H5 ∧ WLs K H5 DD (((everyW own).take i).filter (fdB S own))) ⟨same_new hDD _, [], upd_same, .nil⟩ (fun i H5 _ h => SqL.of (h.1 _ _ hy)) (fun i y H5 hyi h => ?_) (fun H5 h => ?_)
    · obtain ⟨s5, zs, hd5, hzs⟩ := h
      obtain ⟨de, hde, hyd⟩ := dpAll_at' hys hyi
      obtain ⟨t, ht, rfl⟩ := map_at hde
      have hyd5 := (Stay.same s5).wd hyd
      have sub : t.Sublist own := mem_every.mp (List.mem_of_getElem? ht)
      have tl := sub.length_le
      refine ⟨rfl, .ref l, rfl, y, rfl, .ref D, rfl, y, D, t, own, rfl, hyd5, (s3.trans (s4.trans s5)) _ _ hB, nd, nd.sublist sub, by omega, fun H6 s6 => ?_⟩
      have s56 := s4.trans (s5.trans s6)
      refine ⟨l, num own t, _, rfl, hL.same s56, by rw [List.length_map]; exact few, num_nn own t, fun b H7 s7 hb => ⟨b, rfl, ?_⟩⟩
      have eb := fdB_of hb
      have s57 := s5.trans (s6.trans s7)
      have hd7 := (s6.trans s7) _ _ hd5
      have hzs7 := (Stay.same (s6.trans s7)).dpAll _ _ (okDs_wds _) hzs
      cases b with
      | false =>
        refine iteF ⟨s57, ?_⟩
        rw [filt_take ht, if_neg (by rw [← eb]; exact Bool.false_ne_true), List.append_nil]
        exact ⟨zs, hd7, hzs7⟩
      | true =>
        refine iteT ⟨y, rfl, zs, hd7, small_line' ?_, same_put s57 hDD, ?_⟩
        · rw [dpAll_len hzs, List.length_map]
          have := List.length_filter_le (fdB S own) ((everyW own).take i)
          rw [List.length_take] at this
          omega
        · rw [filt_take ht, if_pos eb.symm]
          have m7 : Mut (H7 DD) := by
            rw [hd7]
            exact True.intro
          have st8 := Stay.put m7 (.lst (zs ++ [y]))
          refine ⟨zs ++ [y], upd_same, ?_⟩
          rw [List.map_append]
          exact dps_app12 (.cons (((Stay.same (s6.trans s7)).trans st8).wd hyd5) .nil) (st8.dpAll _ _ (okDs_wds _) hzs7)
    · obtain ⟨s5, hW5⟩ := h
      rw [yl, List.take_length] at hW5
      exact q H5 DD own (s14.trans s5) (none_back s14 hDD) hown hmem hW5
  · exact ⟨v, rfl, v, rfl, .inr ⟨d, hd, q⟩⟩
end
end Rw
namespace Rw
open PySem PySem.Spec PyProof.Rows L2
/-! ### worlds that are tuples made here -/
def Tp (H : Hp) (y : V) (t : W) : Prop := ∃ b, y = .ref b ∧ H b = some (.tup (t.map V.str))
inductive TpAll (H : Hp) : List V → List W → Prop
  | nil : TpAll H [] []
  | cons {y ys t S} : Tp H y t → TpAll H ys S → TpAll H (y :: ys) (t :: S)
theorem Tp.wd {K : PySem.W.Frag} {H : Hp} {y : V} {t : W} (h : Tp H y t) : Dp K H y (wd t) := by
  obtain ⟨b, rfl, e⟩ := h
  exact to_wd (SqT.of e)
theorem TpAll.dp {K : PySem.W.Frag} {H : Hp} : ∀ {ys : List V} {S : List W}, TpAll H ys S → DpAll K H ys (S.map wd)
  | _, _, .nil => .nil
  | _, _, .cons h t => .cons h.wd t.dp
theorem TpAll.len {H : Hp} : ∀ {ys : List V} {S : List W}, TpAll H ys S → ys.length = S.length
  | _, _, .nil => rfl
  | _, _, .cons _ t => by rw [List.length_cons, List.length_cons, t.len]
theorem TpAll.at' {H : Hp} : ∀ {ys : List V} {S : List W} {i : Nat} {y : V}, TpAll H ys S → ys[i]? = some y → ∃ t, S[i]? = some t ∧ Tp H y t
  | _, _, _, _, .nil, e => by simp at e
  | _, _, 0, _, .cons h _, e => ⟨_, rfl, by rw [← Option.some.inj e]; exact h⟩
  | _, _, i + 1, _, .cons _ t, e => t.at' (i := i) e
theorem TpAll.app {H : Hp} {zs : List V} {S' : List W} (h2 : TpAll H zs S') : ∀ {ys : List V} {S : List W}, TpAll H ys S → TpAll H (ys ++ zs) (S ++ S')
  | _, _, .nil => h2
  | _, _, .cons h t => .cons h (TpAll.app h2 t)
theorem TpAll.tail {H : Hp} : ∀ {ys : List V} {S : List W}, TpAll H ys S → TpAll H ys.tail S.tail
  | _, _, .nil => .nil
  | _, _, .cons _ t => t
/-- tuples stay -/
def Tups (H H' : Hp) : Prop := ∀ b xs, H b = some (.tup xs) → H' b = some (.tup xs)
theorem TpAll.go {H H' : Hp} (e : Tups H H') : ∀ {ys : List V} {S : List W}, TpAll H ys S → TpAll H' ys S
  | _, _, .nil => .nil
  | _, _, .cons ⟨b, r, h⟩ t => .cons ⟨b, r, e _ _ h⟩ (TpAll.go e t)
theorem Tups.of {H H' : Hp} (e : Same H H') : Tups H H' := fun b xs h => e _ _ h
theorem Tups.trans {H H' H'' : Hp} (a : Tups H H') (b : Tups H' H'') : Tups H H'' := fun c xs h => b _ _ (a _ _ h)
theorem Tups.put {H : Hp} {D : Addr} {zs : List V} {o : HO} (h : H D = some (.lst zs)) : Tups H (upd H D o) := fun b xs e => by
  rw [upd_ne (fun z => by rw [z, h] at e; cases e)]
  exact e
def TLs (H : Hp) (l : Addr) (S : List W) : Prop := ∃ ys, H l = some (.lst ys) ∧ TpAll H ys S
section
variable {P : Program} {w : World} {K : PySem.W.Frag} {mg : Str → Option Value} {base : Heap} {f : Addr} {fd : FuncData} {k : Nat}
def spEveryT (K : PySem.W.Frag) : Sp := fun vs H Q _ => ∃ (a : Addr) (own : W), vs = [.ref a] ∧ SqT K H a (own.map V.str) ∧ own.length ≤ 10 ∧ ∀ H' l, Same H H' → H l = none → TLs H' l (everyW own) → Q (.ref l) H'
theorem ok_everyT (F : Fun K "_every_world" "_every_world" sEvery f fd) : FnOk P w K mg base CX0 (k + 1) f fd ["names"] (spEveryT K) := by
  refine F.ok scEvery (fun vs H Q E h => ?_) (fun cdv A outer s H vs Q E hr h => ?_)
  · obtain ⟨a, own, rfl, _⟩ := h
    rfl
  obtain ⟨a, own, rfl, hT, few, q⟩ := h
  refine ⟨_, pss_cons (ps_set (i := 1) scEvery.nd rfl (.inl rfl) (pe_lst (pa_cons (pe_tup pa_nil) pa_nil)))
    (pss_cons (ps_for PassesOwn.never rfl (pi_tup (pe_revT (pv 0))) (pg_name (i := 2) scEvery.nd rfl (.inr rfl))
      (pss_cons (ps_setLc (i := 3) (own := [("world", 4)]) (g := gName 4) (te := tTup (tCons (tVar 2) (StX.tStar K (tVar 4) tNil))) (by rfl) scEvery.nd rfl rfl (sw_true rfl rfl rfl (by decide +kernel)) (pi_list (pv 1)) (blkOk_by (N := nEvery) (sc := defScope sEvery) (by decide +kernel))
        (fun _ _ _ _ _ => pg_name (i := 4) scEvery.nd rfl (Or.inl rfl)) (fun _ _ _ _ _ => pts_nil) (fun _ _ _ _ _ => pe_tup (pa_cons (pv 2) (StX.pa_star (pv 4) pa_nil))))
      (pss_one (ps_set (i := 1) scEvery.nd rfl (.inl rfl) (pe_op op_cat (pe_op op_cat (pe_lst (pa_cons (pe_tup pa_nil) pa_nil)) (pv 3)) (pe_slice sl_list (pv 1) (po_some pe_int) po_none))))))
    (pss_one (ps_ret (pv 1)))), ?_⟩
  refine ⟨by show 0 ≤ sizeLine; decide, fun t0 ht0 => ?_⟩
  have s0 := same_new ht0 (.tup [])
  refine ⟨by show 1 ≤ sizeLine; decide, fun l0 hl0 => ?_⟩
  have s1 := same_new hl0 (.lst [.ref t0])
  have s01 := s0.trans s1
  refine ⟨.ref a, rfl, a, _, rfl, same_tup s01 hT, fun r hr0 => ?_⟩
  have s2 := same_new hr0 (.tup (own.map V.str).reverse)
  have s02 := s01.trans s2
  refine ⟨r, rfl, ⟨_, SqT.of upd_same⟩, ?_⟩
  let HR : Hp := upd (upd (upd H t0 (.tup [])) l0 (.lst [.ref t0])) r (.tup (own.map V.str).reverse)
  have hrT : SqT K HR r (own.map V.str).reverse := SqT.of upd_same
  refine for_tup (xs := (own.map V.str).reverse) (fun i σ H2 => (∃ l y2 y3, σ = [some (.ref a), some (.ref l), y2, y3, none] ∧ H l = none ∧ TLs H2 l (everyW (own.drop (own.length - i)))) ∧ Same HR H2) ⟨⟨l0, _, _, rfl, none_back s0 hl0, ?_⟩, fun _ _ e => e⟩ (fun i σ H2 _ hI2 => same_tup hI2.2 hrT) (fun i x σ H2 hx hI2 => ?_) (fun σ H2 hI2 => ?_)
  · rw [Nat.sub_zero, List.drop_length]
    refine ⟨[.ref t0], s2 _ _ upd_same, .cons ⟨t0, rfl, (s1.trans s2) _ _ upd_same⟩ .nil⟩
  · obtain ⟨⟨l, y2, y3, rfl, hln, ys, hl, hys⟩, sm⟩ := hI2
    obtain ⟨z, rfl, il, ed⟩ := rev_at hx
    rw [ed]
    generalize hS : everyW (own.drop (own.length - i)) = S at hys
    have Sl : S.length ≤ 1024 := by
      rw [← hS, every_len, List.length_drop]
      have : 2 ^ (own.length - (own.length - i)) ≤ 2 ^ 10 := Nat.pow_le_pow_right (by decide) (by omega)
      omega
    have S1 : 1 ≤ S.length := by
      rw [← hS, every_len]
      exact Nat.pow_pos (by decide)
    have yl : ys.length = S.length := hys.len
    have en : everyW (z :: own.drop (own.length - i)) = [] :: (S.map (fun t => z :: t) ++ S.tail) := by
      show [] :: ((everyW (own.drop (own.length - i))).map (fun t => z :: t) ++ (everyW (own.drop (own.length - i))).tail) = _
      rw [hS]
    rw [en]
    refine ⟨.ref l, rfl, l, rfl, ⟨_, SqL.of hl⟩, fun D hD => ?_⟩
    refine lc_list (xs := ys) (fun j H3 => Same H2 H3 ∧ ∃ zs, H3 D = some (.lst zs) ∧ TpAll H3 zs ((S.take j).map fun t => z :: t)) ⟨same_new hD _, [], upd_same, .nil⟩ (fun j H3 _ h => SqL.of (h.1 _ _ hl)) (fun j y H3 hy h => ?_) (fun H3 h => ?_)
    · obtain ⟨s3, zs, hd, hzs⟩ := h
      obtain ⟨t, ht, b, rfl, hb0⟩ := hys.at' hy
      have hB : SqT K H3 b (t.map V.str) := SqT.of (s3 _ _ hb0)
      have tl : t.length ≤ 10 := by
        have z2 : t ∈ S := List.mem_of_getElem? ht
        rw [← hS] at z2
        have := (mem_every.mp z2).length_le
        rw [List.length_drop] at this
        omega
      refine ⟨rfl, .str z, rfl, .ref b, rfl, b, _, rfl, .inl hB, ?_⟩
      refine ⟨by
        show (V.str z :: (t.map V.str ++ [])).length ≤ sizeLine
        rw [List.append_nil, List.length_cons, List.length_map]
        exact small_line (by omega), fun u hu => ?_⟩
      have eu : (V.str z :: (t.map V.str ++ [])) = (z :: t).map V.str := by
        rw [List.append_nil]
        rfl
      rw [eu]
      have s4 := same_new hu (.tup ((z :: t).map V.str))
      have hd4 := s4 _ _ hd
      have m4 : Mut ((upd H3 u (.tup ((z :: t).map V.str))) D) := by
        rw [hd4]
        exact True.intro
      have jl : j < S.length := (List.getElem?_eq_some_iff.mp ht).1
      refine ⟨zs, hd4, small_line' (by rw [hzs.len, List.length_map, List.length_take]; omega), same_put (s3.trans s4) hD, zs ++ [.ref u], upd_same, ?_⟩
      rw [take_snoc ht, List.map_append]
      have g1 := Tups.put (o := .lst (zs ++ [.ref u])) hd4
      exact TpAll.app (.cons ⟨u, rfl, g1 _ _ upd_same⟩ .nil) (TpAll.go ((Tups.of s4).trans g1) hzs)
    · obtain ⟨s3, zs, hd, hzs⟩ := h
      rw [yl, List.take_length] at hzs
      have zl : zs.length = S.length := by rw [hzs.len, List.length_map]
      refine ⟨by show 0 ≤ sizeLine; decide, fun t1 ht1 => ?_⟩
      have s4 := same_new ht1 (.tup [])
      refine ⟨by show 1 ≤ sizeLine; decide, fun l1 hl1 => ?_⟩
      have s5 := same_new hl1 (.lst [.ref t1])
      have s45 := s4.trans s5
      refine ⟨.ref D, rfl, l1, D, [.ref t1], zs, rfl, rfl, upd_same, s45 _ _ hd, small_line (by rw [List.length_singleton, zl]; omega), fun p hp => ?_⟩
      have s6 := same_new hp (.lst ([.ref t1] ++ zs))
      have s46 := s45.trans s6
      refine ⟨.ref l, rfl, 1, rfl, l, ys, rfl, SqL.of ((s3.trans s46) _ _ hl), fun p2 hp2 => ?_⟩
      rw [cut_tail ys (by omega)]
      have s7 := same_new hp2 (.lst ys.tail)
      have s47 := s46.trans s7
      refine ⟨p, p2, [.ref t1] ++ zs, ys.tail, rfl, rfl, s7 _ _ upd_same, upd_same, small_line (by rw [List.length_append, List.length_singleton, List.length_tail]; omega), fun p3 hp3 => ?_⟩
      have s8 := same_new hp3 (.lst ([.ref t1] ++ zs ++ ys.tail))
      have s48 := s47.trans s8
      have sAll := sm.trans (s3.trans s48)
      refine ⟨⟨p3, _, _, rfl, none_back (s02.trans (sm.trans (s3.trans s47))) hp3, _, upd_same, ?_⟩, sAll⟩
      rw [← List.cons_append]
      have h1 := TpAll.go (Tups.of s48) hzs
      have h2 := TpAll.tail (TpAll.go (Tups.of (s3.trans s48)) hys)
      exact TpAll.app h2 (.cons ⟨t1, rfl, (s5.trans (s6.trans (s7.trans s8))) _ _ upd_same⟩ h1)
  · obtain ⟨⟨l, y2, y3, rfl, hln, hW⟩, sm⟩ := hI2
    rw [List.length_reverse, List.length_map, Nat.sub_self, List.drop_zero] at hW
    exact ⟨.ref l, rfl, q H2 l (s02.trans sm) hln hW⟩
end
end Rw
namespace Rw
open PySem PySem.Spec PyProof.Rows L2 GenW
/-! ### for and if in a generator's body -/
section
variable {prog : Program} {w : World} {A : Around} {R : GenEnd} {Y : Protocol} {n : Nat} {s₀ : Shared} {fs : List Frame} {s : Shared} {env : Env}
def noted (env : Env) (x : Value) : Sem PySem.Fin := (do noteFrame x env; theTreesLotGoes x : Sem Unit).wrap (fun _ => .raise x) .raise id id
theorem seg_forLoop {target : Expr} {it : Value} {body : List Stmt}
    (h : wpAny (model prog w) (A.over (.forLoop target it body [] env) fs) (pyNext it) (fun r s' => match r with
        | none => Seg (model prog w) A R Y n s₀ (.block [] env) ((model prog w).den (.block [] env)) fs s'
        | some v => wpAny (model prog w) (A.over (.forLoop target it body [] env) fs) (letOwnedTupleGo target it v) (fun _ s1 =>
            wpAny (model prog w) (A.over (.forLoop target it body [] env) fs) (assign target env v) (fun _ s2 =>
              Seg (model prog w) A R Y n s₀ (.forLoop target it body [] env) ((execs body env).wrap (fun f => match f with
                | .next | .cont => .pure (.again (.forLoop target it body [] env))
                | .brk => .pure (.done .next)
                | .ret v => .pure (.done (.ret v))) (noted env) id id) fs s2)
              (fun x s' => Seg (model prog w) A R Y n s₀ (.forLoop target it body [] env) (noted env x) fs s') s1)
            (fun x s' => Seg (model prog w) A R Y n s₀ (.forLoop target it body [] env) (noted env x) fs s') s')
      (fun x s' => Seg (model prog w) A R Y n s₀ (.forLoop target it body [] env) (noted env x) fs s') s) :
    Seg (model prog w) A R Y n s₀ (.forLoop target it body [] env) ((model prog w).den (.forLoop target it body [] env)) fs s := by
  show Seg _ A R Y n s₀ _ ((forTurn target it body [] env).onRaise (fun x => do noteFrame x env; theTreesLotGoes x)) fs s
  rw [Sem.onRaise_eq_wrap]
  have eN : (fun e => (do noteFrame e env; theTreesLotGoes e : Sem Unit).bind fun _ => (.raise e : Sem PySem.Fin)) = noted env := by
    funext e
    unfold noted
    rw [Sem.bind_eq_wrap]
  have eN' : (fun e => ((fun x => do noteFrame x env; theTreesLotGoes x : Value → Sem Unit) e).bind fun _ => (.raise e : Sem PySem.Fin)) = noted env := eN
  rw [eN']
  unfold forTurn
  refine seg_bind_wrap (wpAny_standAt ?_)
  refine seg_bind_wrap (wpAny_onRaise (wpAny_mono h (fun r s1 h1 => ?_) fun x s1 hx => wpAny_standAt hx))
  cases r with
  | none =>
    show Seg _ A R Y n s₀ _ (.pure (.again (.block [] env))) fs s1
    exact seg_again rfl h1
  | some v =>
    refine seg_bind_wrap (wpAny_mono h1 (fun _ s2 h2 => ?_) fun x s2 hx => hx)
    refine seg_bind_wrap (wpAny_mono h2 (fun _ s3 h3 => ?_) fun x s3 hx => hx)
    rw [Sem.bind_eq_wrap', Sem.wrap_wrap]
    exact Eq.mpr (congrArg (fun t => Seg (model prog w) A R Y n s₀ (.forLoop target it body [] env) t fs s3) (Sem.wrap_congr (execs body env) _ _ (fun f => by cases f <;> rfl) (fun e => rfl))) h3
theorem seg_For {target iter : Expr} {body : List Stmt} {pos : Pos} {c : Code} {K : Flow → Sem PySem.Fin} {J : Value → Sem PySem.Fin} {gd : Bool → Bool} {lv : List Value → List Value}
    (h : wpAny (model prog w) (A.over c fs) (eval iter env) (fun x s1 => wpAny (model prog w) (A.over c fs) (pyIter x) (fun it s2 => ∀ p,
      Seg (model prog w) A R Y n s₀ (.forLoop target it body [] env) ((model prog w).den (.forLoop target it body [] env))
        (.ret (fun r => ((match r with | .ok f => (.pure f : Sem Flow) | .error e => .raise e).onRaise (cameBack env)).wrap K J gd lv) none (gd false) (lv []) c p [] :: fs) s2)
        (fun x s' => Seg (model prog w) A R Y n s₀ c (J x) fs s') s1) (fun x s' => Seg (model prog w) A R Y n s₀ c (J x) fs s') s)
    (hs : ∀ x, foldedSetIterable iter env x = pure x) :
    Seg (model prog w) A R Y n s₀ c ((exec (.For target iter body [] pos) env).wrap K J gd lv) fs s := by
  rw [exec_For]
  refine seg_bind_wrap (wpAny_standAt ?_)
  refine seg_bind_wrap (wpAny_mono h (fun x s1 h1 => ?_) fun x s1 hx => hx)
  refine seg_bind_wrap (wpAny_of_eq (hs x) ?_)
  refine seg_bind_wrap (wpAny_standAt ?_)
  refine seg_bind_wrap (wpAny_holding (wpAny_mono h1 (fun it s2 h2 => ?_) fun x s2 hx => hx))
  exact seg_call h2
end
section
variable {X : Cx}
def tGIf (c : TT) (t u : TGn) : TGn := fun D ys σ H => c σ H fun b H1 => if b = true then t D ys σ H1 else u D ys σ H1
theorem gs_if {test : Expr} {body orelse : List Stmt} {pos : Pos} {tc : TT} {t u : TGn} (hc : PT X test tc) (ha : GSs X body t) (hb : GSs X orelse u) : GS X (.If test body orelse pos) (tGIf tc t u) := by
  refine ⟨fun A S ip R n ys s₀ c fs K J gd lv s σ H D g hn k hI ht => ?_⟩
  rw [arm_exec_If]
  refine seg_bind_wrap (wpAny_standAt ?_)
  refine seg_bind_wrap ?_
  rw [g.over]
  obtain ⟨acc, cc, r, I⟩ := hI
  refine wpAny_mono (hc.run _ s σ H _ I ht) (fun b s' hb' => ?_) fun x s' hx => k.exc n s₀ x s' hx
  obtain ⟨H1, I1, q1⟩ := hb'
  cases b with
  | true =>
    rw [if_pos rfl] at q1
    exact ha.run A S ip R n ys s₀ c fs K J gd lv s' σ H1 D g hn k ⟨acc, cc, r, I1⟩ q1
  | false =>
    rw [if_neg Bool.false_ne_true] at q1
    exact hb.run A S ip R n ys s₀ c fs K J gd lv s' σ H1 D g hn k ⟨acc, cc, r, I1⟩ q1
def tGFor (wi : TI) (g : TG) (tb : TGn) : TGn := fun D ys σ H => wi σ H fun J H1 => ∃ W : Nat → Nat → List V → L2.St → Hp → Prop, (∃ m, W 0 m ys σ H1) ∧ ∀ i m ys σ H, W i m ys σ H →
  (J.stop i H ∧ D.nx ys σ H) ∨ (J.go i H ∧ ∃ N : List V → L2.St → Hp → Prop, (∀ ys' σ' H', N ys' σ' H' → ∃ m', m' < m ∧ W (i + 1) m' ys' σ' H') ∧
    ∀ x H', J.yld i H x H' → g x σ H' fun σ2 H2 => tb { D with nx := N, ct := N, bk := D.nx } ys σ2 H2)
theorem gs_for {tg iter : Expr} {body : List Stmt} {pos : Pos} {wi : TI} {g : TG} {tb : TGn} (hp : PassesOwn (model X.prog X.w) X.A X.env X.xe) (hc : X.calm = true) (hi : PI X tg iter wi) (hg : PG X tg g) (hb : GSs X body tb)
    (hs : ∀ x, foldedSetIterable iter X.env x = pure x := by intro _; rfl) : GS X (.For tg iter body [] pos) (tGFor wi g tb) := by
  refine ⟨fun A S ip R n ys s₀ c fs K J gd lv s σ H D gc hn k hI ht => ?_⟩
  refine seg_For ?_ hs
  rw [gc.over]
  obtain ⟨acc, cc, r, I⟩ := hI
  refine wpAny_mono (hi.run _ s σ H _ I ht) (fun v s1 h1 => ?_) fun x s' hx => k.exc n s₀ x s' hx
  refine wpAny_mono h1 (fun itv s2 h2 => ?_) fun x s' hx => k.exc n s₀ x s' hx
  obtain ⟨it, fp, tn, J0, H2, e, I2, T, st2, f2, W, ⟨m0, w0⟩, turn⟩ := h2
  subst e
  intro p
  have neS : ∀ b ∈ fp, b ≠ S := fun b hb z => (f2 b hb).2.2.2.2.2 (S, lstObj acc cc) (List.mem_append_right _ List.mem_cons_self) z.symm
  have statG : ∀ {acc' : Array Value} {c' : Nat} {H' : Hp}, (∀ b ∈ fp, H' b = none) → ∀ b ∈ fp, FpOk X ((S, lstObj acc' c') :: ip) H' b := fun {acc' c' H'} hn b hb => by
    obtain ⟨f0, fa, fb, fc, fd, fe⟩ := f2 b hb
    refine ⟨hn b hb, fa, fb, fc, fd, fun p hp => ?_⟩
    rcases List.mem_append.mp hp with hp | hp
    · exact fe p (List.mem_append_left _ hp)
    · rcases List.mem_cons.mp hp with rfl | hp
      · exact (neS b hb).symm
      · exact fe p (List.mem_append_right _ (List.mem_cons_of_mem _ hp))
  have gl := fun (kk : Result → Sem PySem.Fin) => gc_loop (k := kk) (c' := .forLoop tg (.ref it) body [] X.env) (l := lv []) (kp := []) (p := p) gc rfl rfl
  have loop : ∀ (m i n : Nat) (ys : List V) (s₀ s : Shared) (σ : L2.St) (H : Hp), n + ys.length = sizeLine → W i m ys σ H → GI X S ip ys σ H s → tn i s.heap → (∀ b ∈ fp, H b = none) →
      Seg (model X.prog X.w) A R (GY X S) n s₀ (.forLoop tg (.ref it) body [] X.env) ((model X.prog X.w).den (.forLoop tg (.ref it) body [] X.env))
        (.ret (fun r => ((match r with | .ok f => (.pure f : Sem Flow) | .error e => .raise e).onRaise (cameBack X.env)).wrap K J gd lv) none (gd false) (lv []) c p [] :: fs) s := by
    intro m
    induction m using Nat.strongRecOn with
    | ind m ih =>
      intro i n ys s₀ s σ H hn w hI st fr
      have ee : ∀ (n : Nat) (s₀ : Shared) (x : Value) (s' : Shared), X.xe x s' → Seg (model X.prog X.w) A R (GY X S) n s₀ (.forLoop tg (.ref it) body [] X.env) (noted X.env x)
          (.ret (fun r => ((match r with | .ok f => (.pure f : Sem Flow) | .error e => .raise e).onRaise (cameBack X.env)).wrap K J gd lv) none (gd false) (lv []) c p [] :: fs) s' := fun n s₀ x s' hx => by
        unfold noted
        refine seg_wrap ?_
        rw [(gl _).over]
        refine wpAny_bind (wpAny_mono (hp x s' hx) (fun _ s'' hcb => wpAny_theTreesLotGoes ?_) fun y s'' hcb => ?_)
        · exact seg_leaf (.error x) (seg_cameBack gc k hcb)
        · exact seg_leaf (.error y) (seg_cameBack gc k hcb)
      refine seg_forLoop ?_
      rw [(gl _).over]
      obtain ⟨acc1, c1, r1, I1⟩ := hI
      rcases turn i m ys σ H w with ⟨stop, qn⟩ | ⟨go, N, hN, step⟩
      · refine wpAny_mono (T.done X rfl rfl rfl hc i _ s σ H X.xe I1 (statG fr) st stop) (fun rr s4 h4 => ?_) fun x s' hx => ee n s₀ x s' hx
        obtain ⟨hr, I4⟩ := h4
        subst hr
        show Seg _ A R _ n s₀ _ ((execs [] X.env).onRaise _ >>= fun f => pure (Fin.done f)) _ s4
        exact seg_leaf (.ok .next) (k.ok n ys s₀ s4 .next hn ⟨σ, H, ⟨acc1, c1, r1, I4⟩, qn⟩)
      · refine wpAny_mono (T.item X rfl rfl rfl hc i _ s σ H X.xe I1 (statG fr) st go) (fun rr s4 h4 => ?_) fun x s' hx => ee n s₀ x s' hx
        obtain ⟨u, hr, h4⟩ := h4
        subst hr
        refine wpAny_mono h4 (fun _ s5 h5 => ?_) fun x s' hx => ee n s₀ x s' hx
        obtain ⟨x, H5, I5, r5, y5, st5, fr5⟩ := h5
        have I5' : Inv X ((S, lstObj acc1 c1) :: (ip ++ pinsAt fp s5.heap)) σ H5 s5 := I5.pinned (statG fr5) (T.obj _ _ st5)
        refine wpAny_mono (hg.run _ s5 σ H5 x u _ I5' r5 (step x H5 y5)) (fun _ s6 h6 => ?_) fun x s' hx => ee n s₀ x s' hx
        obtain ⟨σ6, H6, I6, q6⟩ := h6
        have gl2 := fun (kk : Result → Sem PySem.Fin) => (gl kk)
        have gcb : GC X S (ip ++ pinsAt fp s5.heap) A (.forLoop tg (.ref it) body [] X.env) (.ret (fun r => ((match r with | .ok f => (.pure f : Sem Flow) | .error e => .raise e).onRaise (cameBack X.env)).wrap K J gd lv) none (gd false) (lv []) c p [] :: fs) id := by
          obtain ⟨g1, g2, g3, g4, g5, g6, g7⟩ := gl (fun r => ((match r with | .ok f => (.pure f : Sem Flow) | .error e => .raise e).onRaise (cameBack X.env)).wrap K J gd lv)
          refine ⟨g1, fun p hp => ?_, g3, g4, g5, g6, g7⟩
          rcases List.mem_append.mp hp with hp | hp
          · exact g2 p hp
          · exact neS _ (of_pinsAt hp).1
        have out : ∀ {ys' : List V} {σ7 : L2.St} {H7 : Hp} {s7 : Shared}, GI X S (ip ++ pinsAt fp s5.heap) ys' σ7 H7 s7 → GI X S ip ys' σ7 H7 s7 := fun {ys' σ7 H7 s7} h => by
          obtain ⟨a7, c7, r7, I7⟩ := h
          exact ⟨a7, c7, r7, Inv.unpinned (pins := (S, lstObj a7 c7) :: ip) (pl := pinsAt fp s5.heap) I7⟩
        refine hb.run A S _ R n ys s₀ _ _ _ _ id id s6 σ6 H6 { D with nx := N, ct := N, bk := D.nx } gcb hn ⟨fun n' ys' s₀' s7 f hn' hq => ?_, fun n' s₀' x s7 hx => ee n' s₀' x s7 hx⟩ ⟨acc1, c1, r1, I6⟩ q6
        have again : ∀ {σ7 : L2.St} {H7 : Hp}, GI X S (ip ++ pinsAt fp s5.heap) ys' σ7 H7 s7 → N ys' σ7 H7 → Seg (model X.prog X.w) A R (GY X S) n' s₀' (.forLoop tg (.ref it) body [] X.env) (.pure (.again (.forLoop tg (.ref it) body [] X.env)))
            (.ret (fun r => ((match r with | .ok f => (.pure f : Sem Flow) | .error e => .raise e).onRaise (cameBack X.env)).wrap K J gd lv) none (gd false) (lv []) c p [] :: fs) s7 := fun {σ7 H7} I7 n7 => by
          obtain ⟨m', hm, w7⟩ := hN ys' σ7 H7 n7
          obtain ⟨a7, c7, r7, J7⟩ := id I7
          have pinned : ∀ b ∈ fp, ∀ o, s5.heap.get? b = some o → s7.heap.get? b = some o ∧ H7 b = none := fun b hb o e => by
            have := J7.pin (b, o) (List.mem_append_right _ (List.mem_cons_of_mem _ (List.mem_append_right _ (mem_pinsAt hb e))))
            exact ⟨this.1, this.2.1⟩
          refine seg_again rfl (ih m' hm (i + 1) n' ys' s₀' s7 σ7 H7 hn' w7 (out I7) (T.keep _ _ _ st5 fun b hb o e => (pinned b hb o e).1) fun b hb => ?_)
          obtain ⟨o, e, _⟩ := T.obj _ _ st5 b hb
          exact (pinned b hb o e).2
        cases f with
        | next => obtain ⟨σ7, H7, I7, n7⟩ := hq; exact again I7 n7
        | cont => obtain ⟨σ7, H7, I7, n7⟩ := hq; exact again I7 n7
        | brk => obtain ⟨σ7, H7, I7, q7⟩ := hq; exact seg_leaf (.ok .next) (k.ok n' ys' s₀' s7 .next hn' ⟨σ7, H7, out I7, q7⟩)
        | ret v => obtain ⟨x7, σ7, H7, I7, r7, q7⟩ := hq; exact seg_leaf (.ok (.ret v)) (k.ok n' ys' s₀' s7 (.ret v) hn' ⟨x7, σ7, H7, out I7, r7, q7⟩)
  exact loop m0 0 n ys s₀ s2 σ H2 hn w0 ⟨acc, cc, r, I2⟩ st2 fun b hb => (f2 b hb).1
end
/-- a walk over a list in a generator's body -/
theorem for_listG {K : PySem.W.Frag} {a : Addr} {xs : List V} {g : TG} {tb : TGn} {D : GEnds} {ys : List V} {σ : L2.St} {H : Hp} (Pv : Nat → List V → L2.St → Hp → Prop) (h0 : Pv 0 ys σ H) (hl : ∀ i ys σ H, i ≤ xs.length → Pv i ys σ H → SqL K H a xs)
    (hs : ∀ i x ys σ H, xs[i]? = some x → Pv i ys σ H → g x σ H fun σ2 H2 => tb { D with nx := Pv (i + 1), ct := Pv (i + 1), bk := D.nx } ys σ2 H2) (hd : ∀ ys σ H, Pv xs.length ys σ H → D.nx ys σ H) :
    ∃ W : Nat → Nat → List V → L2.St → Hp → Prop, (∃ m, W 0 m ys σ H) ∧ ∀ i m ys σ H, W i m ys σ H →
      ((Itl K a).stop i H ∧ D.nx ys σ H) ∨ ((Itl K a).go i H ∧ ∃ N : List V → L2.St → Hp → Prop, (∀ ys' σ' H', N ys' σ' H' → ∃ m', m' < m ∧ W (i + 1) m' ys' σ' H') ∧ ∀ x H', (Itl K a).yld i H x H' → g x σ H' fun σ2 H2 => tb { D with nx := N, ct := N, bk := D.nx } ys σ2 H2) := by
  refine ⟨fun i m ys σ H => m = xs.length - i ∧ i ≤ xs.length ∧ Pv i ys σ H, ⟨xs.length, by simp, Nat.zero_le _, h0⟩, ?_⟩
  rintro i m ys σ H ⟨rfl, hi, p⟩
  have q := hl i ys σ H hi p
  by_cases hlt : i < xs.length
  · refine .inr ⟨⟨xs, xs[i], q, by simp [hlt]⟩, Pv (i + 1), fun ys' σ' H' p' => ⟨xs.length - (i + 1), by omega, rfl, hlt, p'⟩, fun x H' y => ?_⟩
    obtain ⟨e, y⟩ := y
    subst e
    exact hs i x ys σ _ (y xs q) p
  · have e : i = xs.length := by omega
    subst e
    exact .inl ⟨⟨xs, q, Nat.le_refl _⟩, hd ys σ H p⟩
end Rw
namespace Rw
open PySem PySem.Spec PyProof.Rows L2 GenW
/-! ### a generator whose consumer has objects of its own, that change while it sleeps -/
/-- what the consumer's objects are, by what was handed out -/
abbrev CsT := List Addr → List V → Heap → Prop
/-- from one turn to the next: the consumer has changed what is its own (as), and has made more (as') -/
structure Asleep (as as' : List Addr) (s s' : Shared) : Prop where
  os : s'.os = s.os
  bare : AllBare s'.gens
  keep : ∀ b o, b ∉ as → s.heap.get? b = some o → s'.heap.get? b = some o
  more : ∀ b ∈ as', b ∈ as ∨ s.heap.objs.size ≤ b
  own : ∀ b ∈ as', ∃ o, s'.heap.get? b = some o ∧ ∀ v, o.data ≠ .cell v
/-- what the consumer knows holds as long as its own objects stand -/
def Holds (Cs : CsT) : Prop := ∀ as ys h h', (∀ b ∈ as, ∀ o, h.get? b = some o → h'.get? b = some o) → Cs as ys h → Cs as ys h'
def FarC (X : Cx) (ip : List (Addr × Obj)) (b : Addr) : Prop := X.s_0.heap.objs.size ≤ b ∧ b ≠ X.env.locals ∧ (∀ x c, X.env.cells.lookup x = some c → c ≠ b) ∧ ∀ p ∈ X.pn ++ ip, p.1 ≠ b
def Awake (X : Cx) (Cs : CsT) (ip : List (Addr × Obj)) (ys : List V) (σ : L2.St) (H : Hp) (s : Shared) : Prop :=
  ∃ (as : List Addr) (ps : List (Addr × Obj)), ps.map (·.1) = as ∧ (∀ b ∈ as, FarC X ip b) ∧ Inv X (ps ++ ip) σ H s ∧ Cs as ys s.heap
section
variable {X : Cx} {as : List Addr} {Cs : CsT} {ip : List (Addr × Obj)} {ys : List V} {σ : L2.St} {H : Hp} {s s' : Shared}
theorem objs_of {h : Heap} : ∀ {as : List Addr}, (∀ b ∈ as, ∃ o, h.get? b = some o ∧ ∀ v, o.data ≠ .cell v) → ∃ ps : List (Addr × Obj), ps.map (·.1) = as ∧ ∀ p ∈ ps, h.get? p.1 = some p.2 ∧ ∀ v, p.2.data ≠ .cell v
  | [], _ => ⟨[], rfl, fun _ z => nomatch z⟩
  | b :: as, q => by
    obtain ⟨o, h1, h2⟩ := q b List.mem_cons_self
    obtain ⟨ps, e, h3⟩ := objs_of fun c hc => q c (List.mem_cons_of_mem _ hc)
    refine ⟨(b, o) :: ps, by rw [List.map_cons, e], fun p hp => ?_⟩
    rcases List.mem_cons.mp hp with rfl | hp
    · exact ⟨h1, h2⟩
    · exact h3 p hp
/-- what the pins say of the consumer's objects -/
theorem pins_at {ps : List (Addr × Obj)} (e : ps.map (·.1) = as) (I : Inv X (ps ++ ip) σ H s) : ∀ b ∈ as, H b = none ∧ b ≠ X.env.locals ∧ b ∉ X.fs ∧ ∃ o, (b, o) ∈ ps ∧ s.heap.get? b = some o := fun b hb => by
  rw [← e] at hb
  obtain ⟨p, hp, rfl⟩ := List.mem_map.mp hb
  obtain ⟨h1, h2, h3, h4, _⟩ := I.pin p (List.mem_append_right _ (List.mem_append_left _ hp))
  exact ⟨h2, h3, h4, p.2, hp, h1⟩
/-- run on: the consumer's objects stay -/
theorem kept_cs {ps : List (Addr × Obj)} (hC : Holds Cs) {σ' : L2.St} {H' : Hp} (e : ps.map (·.1) = as) (I : Inv X (ps ++ ip) σ H s) (c : Cs as ys s.heap) (I' : Inv X (ps ++ ip) σ' H' s') : Cs as ys s'.heap := hC _ _ _ _ (fun b hb o eo => by
  obtain ⟨_, _, _, o', ho', e'⟩ := pins_at e I b hb
  rw [e'] at eo
  rw [← Option.some.inj eo]
  exact (I'.pin (b, o') (List.mem_append_right _ (List.mem_append_left _ ho'))).1) c
theorem Awake.ran {ps : List (Addr × Obj)} (hC : Holds Cs) {σ' : L2.St} {H' : Hp} (e : ps.map (·.1) = as) (f : ∀ b ∈ as, FarC X ip b) (I : Inv X (ps ++ ip) σ H s) (c : Cs as ys s.heap) (I' : Inv X (ps ++ ip) σ' H' s') : Awake X Cs ip ys σ' H' s' := by
  exact ⟨as, ps, e, f, I', kept_cs hC e I c I'⟩
/-- woken again -/
theorem woken {as' : List Addr} {ps : List (Addr × Obj)} {x : V} (e : ps.map (·.1) = as) (f : ∀ b ∈ as, FarC X ip b) (I : Inv X (ps ++ ip) σ H s) (z : Asleep as as' s s') (c : Cs as' (ys ++ [x]) s'.heap) : Awake X Cs ip (ys ++ [x]) σ H s' := by
  have at_ := pins_at e I
  have I0 : Inv X ip σ H s := I.pins_of fun p hp => I.pin p (List.mem_append_right _ (List.mem_append_right _ hp))
  have nt : ∀ b u, H b = some u → b ∉ as := fun b u q hb => by
    have := (at_ b hb).1
    rw [q] at this
    cases this
  obtain ⟨z1, z2, z3, z5, z4⟩ := z
  obtain ⟨hh, g, d, t, o⟩ := s'
  have ho : o = s.os := z1
  subst ho
  have nl : X.env.locals ∉ as := fun hb => (f _ hb).2.1 rfl
  have J : Inv X ip σ H { s with heap := hh, gens := g, drawn := d, toks := t } := by
    refine I0.step (ch := as) (fun b hb => ?_) (fun b ob _ _ hc q _ => z3 b ob hc q) (fun b ob _ _ hc q _ => ⟨ob.slots, z3 b ob hc q⟩) (fun _ _ _ _ n => n) (fun b ob hc q => ⟨ob, z3 b ob hc q⟩)
      (fun _ _ q => q) (fun _ _ _ q => q) (fun b ps q => ⟨#[], by rw [q]; simp⟩) (fun m hm => ?_) (fun b u q => ?_) z2
    · obtain ⟨f1, f2, f3, f4⟩ := f b hb
      exact ⟨.inr f1, f2, f3, f4⟩
    · obtain ⟨ob, es, ep, ho, r⟩ := hm
      exact ⟨ob, es, ep, z3 _ ob nl ho, r⟩
    · refine (I0.hok b u q).stay (fun c v hc y => z3 c v ?_ y) (fun _ y => y) fun _ _ y => y
      rcases hc with y | y
      · rw [y]; exact nt b u q
      · exact nt c _ y
  obtain ⟨ps', e', hp'⟩ := objs_of (h := hh) z4
  have new : ∀ b ∈ as', H b = none ∧ b ≠ X.env.locals ∧ b ∉ X.fs ∧ FarC X ip b := fun b hb => by
    rcases z5 b hb with hb | hb
    · obtain ⟨q1, q2, q3, _⟩ := at_ b hb
      exact ⟨q1, q2, q3, f b hb⟩
    · refine ⟨I0.hok.fresh hb, Nat.ne_of_gt (Nat.lt_of_lt_of_le I0.lt hb), I0.nofs hb, Nat.le_trans I0.sz hb, Nat.ne_of_gt (Nat.lt_of_lt_of_le I0.lt hb), fun x cc ec q => ?_, fun p hp q => ?_⟩
      · obtain ⟨v, ob, ho, _⟩ := I0.cell x cc ec
        have := Heap.lt_size ho
        rw [q] at this
        exact absurd (Nat.lt_of_lt_of_le this hb) (Nat.lt_irrefl _)
      · have := Heap.lt_size (I0.pin p hp).1
        rw [q] at this
        exact absurd (Nat.lt_of_lt_of_le this hb) (Nat.lt_irrefl _)
  refine ⟨as', ps', e', fun b hb => (new b hb).2.2.2, J.pins_of fun p hp => ?_, c⟩
  rcases List.mem_append.mp hp with hp | hp
  · have hb : p.1 ∈ as' := by rw [← e']; exact List.mem_map.mpr ⟨p, hp, rfl⟩
    obtain ⟨q1, q2, q3, _⟩ := new p.1 hb
    exact ⟨(hp' p hp).1, q1, q2, q3, (hp' p hp).2⟩
  · exact J.pin p (List.mem_append_right _ hp)
end
/-! ### the protocol -/
def ProtC (X : Cx) (Cs : CsT) : Protocol := fun n s₀ v s kap =>
  ∃ ys x ip σ H as ps, n + 1 + ys.length = sizeLine ∧ RelV x v ∧ ps.map (·.1) = as ∧ (∀ b ∈ as, FarC X ip b) ∧ Inv X (ps ++ ip) σ H s ∧ Cs as ys s.heap ∧ ∀ as' s', Asleep as as' s s' → Cs as' (ys ++ [x]) s'.heap → kap (.send .none) s'
def EndC (X : Cx) (Cs : CsT) (Q : List V → VK) (F : Value → Shared → Prop) : GenEnd := fun n s₀ r s => match r with
  | .ok (.ret u) => ∃ ys v ip σ H, n + ys.length = sizeLine ∧ Awake X Cs ip ys σ H s ∧ RelV v u ∧ Q ys v H
  | .ok _ => False
  | .error e => F e s
def FlowC (X : Cx) (Cs : CsT) (ip : List (Addr × Obj)) (D : GEnds) (ys : List V) (f : Flow) (s : Shared) : Prop :=
  match f with
  | .next => ∃ σ H, Awake X Cs ip ys σ H s ∧ D.nx ys σ H
  | .brk => ∃ σ H, Awake X Cs ip ys σ H s ∧ D.bk ys σ H
  | .cont => ∃ σ H, Awake X Cs ip ys σ H s ∧ D.ct ys σ H
  | .ret u => ∃ v σ H, Awake X Cs ip ys σ H s ∧ RelV v u ∧ D.rt ys v H
/-- where the code stands, and what follows -/
structure PlaceC (X : Cx) (Cs : CsT) (A : Around) (c : Code) (fs : List Frame) (gd : Bool → Bool) : Prop where
  co : Holds Cs
  over : A.over c fs = X.A
  split : splitAtGen fs = none
  guard : fs.any Frame.guarded = false
  gd : gd false = false
structure NextC (X : Cx) (Cs : CsT) (ip : List (Addr × Obj)) (A : Around) (R : GenEnd) (c : Code) (fs : List Frame) (K : Flow → Sem PySem.Fin) (J : Value → Sem PySem.Fin) (D : GEnds) : Prop where
  ok : ∀ (n : Nat) (ys : List V) (s₀ s : Shared) (f : Flow), n + ys.length = sizeLine → FlowC X Cs ip D ys f s → Seg (model X.prog X.w) A R (ProtC X Cs) n s₀ c (K f) fs s
  exc : ∀ (n : Nat) (s₀ : Shared) (e : Value) (s : Shared), X.xe e s → Seg (model X.prog X.w) A R (ProtC X Cs) n s₀ c (J e) fs s
/-- a piece of a generator's body, told by its reading -/
def RunsC (X : Cx) (m : Sem Flow) (t : TGn) : Prop :=
  ∀ (A : Around) (Cs : CsT) (ip : List (Addr × Obj)) (R : GenEnd) (n : Nat) (ys : List V) (s₀ : Shared) (c : Code) (fs : List Frame) (K : Flow → Sem PySem.Fin) (J : Value → Sem PySem.Fin) (gd : Bool → Bool) (lv : List Value → List Value) (s : Shared) (σ : L2.St) (H : Hp) (D : GEnds),
    PlaceC X Cs A c fs gd → n + ys.length = sizeLine → NextC X Cs ip A R c fs K J D → Awake X Cs ip ys σ H s → t D ys σ H →
    Seg (model X.prog X.w) A R (ProtC X Cs) n s₀ c (m.wrap K J gd lv) fs s
structure CS (X : Cx) (st : Stmt) (t : TGn) : Prop where
  run : RunsC X (exec st X.env) t
structure CSs (X : Cx) (st : List Stmt) (t : TGn) : Prop where
  run : RunsC X (execs st X.env) t
section
variable {X : Cx} {st : Stmt} {rest : List Stmt}
theorem flow_of {as : List Addr} {Cs : CsT} {ps ip : List (Addr × Obj)} {s s' : Shared} {D : GEnds} {ys : List V} {σ : L2.St} {H : Hp} {f : Flow} (hC : Holds Cs) (e : ps.map (·.1) = as) (fa : ∀ b ∈ as, FarC X ip b) (I : Inv X (ps ++ ip) σ H s) (c : Cs as ys s.heap) (h : SP X (ps ++ ip) (D.at ys) f s') : FlowC X Cs ip D ys f s' := by
  cases f with
  | next => obtain ⟨σ', H', I', q⟩ := h; exact ⟨σ', H', Awake.ran hC e fa I c I', q⟩
  | brk => obtain ⟨σ', H', I', q⟩ := h; exact ⟨σ', H', Awake.ran hC e fa I c I', q⟩
  | cont => obtain ⟨σ', H', I', q⟩ := h; exact ⟨σ', H', Awake.ran hC e fa I c I', q⟩
  | ret u => obtain ⟨v, σ', H', I', r, q⟩ := h; exact ⟨v, σ', H', Awake.ran hC e fa I c I', r, q⟩
theorem cs_ps {t : TS} (h : PS X st t) : CS X st (tPlain t) := ⟨fun A Cs ip R n ys s₀ c fs K J gd lv s σ H D g hn k hI ht => by
  obtain ⟨as, ps, e, fa, I, cs⟩ := hI
  refine seg_wrap ?_
  rw [g.over]
  exact wpAny_mono (h.run _ s σ H (D.at ys) I ht) (fun f s' hs => k.ok n ys s₀ s' f hn (flow_of g.co e fa I cs hs)) fun x s' hx => k.exc n s₀ x s' hx⟩
theorem css_nil : CSs X [] tG0 := ⟨fun A Cs ip R n ys s₀ c fs K J gd lv s σ H D g hn k hI ht => seg_execs_nil (k.ok n ys s₀ s .next hn ⟨σ, H, hI, ht⟩)⟩
theorem css_cons {t u : TGn} (a : CS X st t) (b : CSs X rest u) : CSs X (st :: rest) (tGThen t u) := ⟨fun A Cs ip R n ys s₀ c fs K J gd lv s σ H D g hn k hI ht => by
  refine seg_execs_cons (a.run A Cs ip R n ys s₀ c fs _ J gd lv s σ H { D with nx := fun ys' σ' H' => u D ys' σ' H' } g hn ⟨fun n' ys' s₀' s' f hn' hs => ?_, k.exc⟩ hI ht)
  cases f with
  | next =>
    obtain ⟨σ', H', I', q⟩ := hs
    exact b.run A Cs ip R n' ys' s₀' c fs K J gd lv s' σ' H' D g hn' k I' q
  | brk => exact k.ok n' ys' s₀' s' .brk hn' hs
  | cont => exact k.ok n' ys' s₀' s' .cont hn' hs
  | ret u => exact k.ok n' ys' s₀' s' (.ret u) hn' hs⟩
theorem cs_yield {e : Expr} {yp pos : Pos} {te : TE} (he : PE X e te) (hco : X.env.scope.isCoroutine = false := by rfl) (hi : interactive X.env = false := by rfl) : CS X (.Expr (.Yield (some e) yp) pos) (tGYield te) := ⟨fun A Cs ip R n ys s₀ c fs K J gd lv s σ H D g hn k hI ht => by
  obtain ⟨hlt, ht⟩ := ht
  obtain ⟨n, rfl⟩ : ∃ m, n = m + 1 := ⟨n - 1, by omega⟩
  obtain ⟨as, ps, ep, fa, I, cs⟩ := hI
  refine seg_Expr_Yield g.split g.gd g.guard ?_ hco hi
  rw [g.over]
  refine wpAny_mono (he.run _ s σ H _ I ht) (fun v s' hv => ?_) fun x s' hx => k.exc _ s₀ x s' hx
  obtain ⟨x, H1, I1, rv, q⟩ := hv
  obtain ⟨as2, ps2, e2, f2, J2, c2⟩ := Awake.ran g.co ep fa I cs I1
  intro kap hk
  refine ⟨ys, x, ip, σ, H1, as2, ps2, hn, rv, e2, f2, J2, c2, fun as' s'' z zc => hk .none s'' ?_⟩
  refine k.ok n (ys ++ [x]) s'' s'' .next ?_ ⟨σ, H1, woken e2 f2 J2 z zc, q⟩
  rw [List.length_append, List.length_singleton]; omega⟩
theorem cs_if {test : Expr} {body orelse : List Stmt} {pos : Pos} {tc : TT} {t u : TGn} (hc : PT X test tc) (ha : CSs X body t) (hb : CSs X orelse u) : CS X (.If test body orelse pos) (tGIf tc t u) := ⟨fun A Cs ip R n ys s₀ c fs K J gd lv s σ H D g hn k hI ht => by
  rw [arm_exec_If]
  refine seg_bind_wrap (wpAny_standAt ?_)
  refine seg_bind_wrap ?_
  rw [g.over]
  obtain ⟨as, ps, ep, fa, I, cs⟩ := hI
  refine wpAny_mono (hc.run _ s σ H _ I ht) (fun b s' hb' => ?_) fun x s' hx => k.exc n s₀ x s' hx
  obtain ⟨H1, I1, q1⟩ := hb'
  have G1 := Awake.ran g.co ep fa I cs I1
  cases b with
  | true =>
    rw [if_pos rfl] at q1
    exact ha.run A Cs ip R n ys s₀ c fs K J gd lv s' σ H1 D g hn k G1 q1
  | false =>
    rw [if_neg Bool.false_ne_true] at q1
    exact hb.run A Cs ip R n ys s₀ c fs K J gd lv s' σ H1 D g hn k G1 q1⟩
theorem placeC_loop {Cs : CsT} {A : Around} {c c' : Code} {fs : List Frame} {gd : Bool → Bool} {k : Result → Sem PySem.Fin} {l kp : List Value} {p : Pos} (g : PlaceC X Cs A c fs gd) (hw : c'.weight = 0) (hu : c'.cUnits = 0) :
    PlaceC X Cs A c' (.ret k none (gd false) l c p kp :: fs) id := by
  refine ⟨g.co, (over_loop hw hu).trans g.over, ?_, ?_, rfl⟩
  · show (splitAtGen fs).map _ = none
    rw [g.split]
    rfl
  · show (gd false || fs.any Frame.guarded) = false
    rw [g.gd, g.guard]
    rfl
theorem seg_backC {Cs : CsT} {ip : List (Addr × Obj)} {A : Around} {R : GenEnd} {c : Code} {fs : List Frame} {K : Flow → Sem PySem.Fin} {J : Value → Sem PySem.Fin} {gd : Bool → Bool} {lv : List Value → List Value} {D : GEnds} {n : Nat} {s₀ s : Shared} {e : Value}
    (g : PlaceC X Cs A c fs gd) (k : NextC X Cs ip A R c fs K J D) (h : cameBackBy (model X.prog X.w) X.A X.env X.xe e s) :
    Seg (model X.prog X.w) A R (ProtC X Cs) n s₀ c (((Sem.raise e : Sem Flow).onRaise (cameBack X.env)).wrap K J gd lv) fs s := by
  show Seg _ _ _ _ _ _ _ (((cameBack X.env e).bind fun _ => (Sem.raise e : Sem Flow)).wrap K J gd lv) _ _
  rw [Sem.bind_eq_wrap, Sem.wrap_wrap]
  refine seg_wrap ?_
  rw [g.over]
  exact wpAny_mono h (fun _ s' hx => k.exc n s₀ e s' hx) fun x s' hx => k.exc n s₀ x s' hx
theorem cs_for {tg iter : Expr} {body : List Stmt} {pos : Pos} {wi : TI} {g : TG} {tb : TGn} (hp : PassesOwn (model X.prog X.w) X.A X.env X.xe) (hc : X.calm = true) (hi : PI X tg iter wi) (hg : PG X tg g) (hb : CSs X body tb)
    (hs : ∀ x, foldedSetIterable iter X.env x = pure x := by intro _; rfl) : CS X (.For tg iter body [] pos) (tGFor wi g tb) := by
  refine ⟨fun A Cs ip R n ys s₀ c fs K J gd lv s σ H D gc hn k hI ht => ?_⟩
  refine seg_For ?_ hs
  rw [gc.over]
  obtain ⟨as, ps, ep, fa, I, cs⟩ := hI
  refine wpAny_mono (hi.run _ s σ H _ I ht) (fun v s1 h1 => ?_) fun x s' hx => k.exc n s₀ x s' hx
  refine wpAny_mono h1 (fun itv s2 h2 => ?_) fun x s' hx => k.exc n s₀ x s' hx
  obtain ⟨it, fp, tn, J0, H2, e, I2, T, st2, f2, W, ⟨m0, w0⟩, turn⟩ := h2
  subst e
  intro p
  let fr : Frame := .ret (fun r => ((match r with | .ok f => (.pure f : Sem Flow) | .error e => .raise e).onRaise (cameBack X.env)).wrap K J gd lv) none (gd false) (lv []) c p []
  have gl : PlaceC X Cs A (.forLoop tg (.ref it) body [] X.env) (fr :: fs) id := placeC_loop gc rfl rfl
  have loop : ∀ (m i n : Nat) (ys : List V) (s₀ s : Shared) (σ : L2.St) (H : Hp), n + ys.length = sizeLine → W i m ys σ H → (∃ (as : List Addr) (ps : List (Addr × Obj)), ps.map (·.1) = as ∧ (∀ b ∈ as, FarC X ip b ∧ b ∉ fp) ∧ Inv X (ps ++ ip) σ H s ∧ Cs as ys s.heap) → tn i s.heap → (∀ b ∈ fp, H b = none) →
      Seg (model X.prog X.w) A R (ProtC X Cs) n s₀ (.forLoop tg (.ref it) body [] X.env) ((model X.prog X.w).den (.forLoop tg (.ref it) body [] X.env)) (fr :: fs) s := by
    intro m
    induction m using Nat.strongRecOn with
    | ind m ih =>
      intro i n ys s₀ s σ H hn w hI st free
      have ee : ∀ (n : Nat) (s₀ : Shared) (x : Value) (s' : Shared), X.xe x s' → Seg (model X.prog X.w) A R (ProtC X Cs) n s₀ (.forLoop tg (.ref it) body [] X.env) (noted X.env x) (fr :: fs) s' := fun n s₀ x s' hx => by
        unfold noted
        refine seg_wrap ?_
        rw [gl.over]
        refine wpAny_bind (wpAny_mono (hp x s' hx) (fun _ s'' hcb => wpAny_theTreesLotGoes ?_) fun y s'' hcb => ?_)
        · exact seg_leaf (.error x) (seg_backC gc k hcb)
        · exact seg_leaf (.error y) (seg_backC gc k hcb)
      refine seg_forLoop ?_
      rw [gl.over]
      obtain ⟨as1, ps1, ep1, fa1, I1, cs1⟩ := hI
      have stat : ∀ {H' : Hp}, (∀ b ∈ fp, H' b = none) → ∀ b ∈ fp, FpOk X (ps1 ++ ip) H' b := fun {H'} hn b hb => by
        obtain ⟨f0, fa, fb, fc, fd, fe⟩ := f2 b hb
        refine ⟨hn b hb, fa, fb, fc, fd, fun p hp => ?_⟩
        rcases List.mem_append.mp hp with hp | hp
        · exact fe p (List.mem_append_left _ hp)
        · rcases List.mem_append.mp hp with hp | hp
          · exact fun z => (fa1 p.1 (by rw [← ep1]; exact List.mem_map.mpr ⟨p, hp, rfl⟩)).2 (by rw [z]; exact hb)
          · exact fe p (List.mem_append_right _ (List.mem_append_right _ hp))
      rcases turn i m ys σ H w with ⟨stop, qn⟩ | ⟨go, N, hN, step⟩
      · refine wpAny_mono (T.done X rfl rfl rfl hc i _ s σ H X.xe I1 (stat free) st stop) (fun rr s4 h4 => ?_) fun x s' hx => ee n s₀ x s' hx
        obtain ⟨hr, I4⟩ := h4
        subst hr
        show Seg _ A R _ n s₀ _ ((execs [] X.env).onRaise _ >>= fun f => pure (Fin.done f)) _ s4
        exact seg_leaf (.ok .next) (k.ok n ys s₀ s4 .next hn ⟨σ, H, Awake.ran gc.co ep1 (fun b hb => (fa1 b hb).1) I1 cs1 I4, qn⟩)
      · refine wpAny_mono (T.item X rfl rfl rfl hc i _ s σ H X.xe I1 (stat free) st go) (fun rr s4 h4 => ?_) fun x s' hx => ee n s₀ x s' hx
        obtain ⟨u, hr, h4⟩ := h4
        subst hr
        refine wpAny_mono h4 (fun _ s5 h5 => ?_) fun x s' hx => ee n s₀ x s' hx
        obtain ⟨x, H5, I5, r5, y5, st5, fr5⟩ := h5
        have I5' : Inv X (ps1 ++ (ip ++ pinsAt fp s5.heap)) σ H5 s5 := by
          rw [← List.append_assoc]
          exact I5.pinned (stat fr5) (T.obj _ _ st5)
        refine wpAny_mono (hg.run _ s5 σ H5 x u _ I5' r5 (step x H5 y5)) (fun _ s6 h6 => ?_) fun x s' hx => ee n s₀ x s' hx
        obtain ⟨σ6, H6, I6, q6⟩ := h6
        have far2 : ∀ b ∈ as1, FarC X (ip ++ pinsAt fp s5.heap) b := fun b hb => by
          obtain ⟨⟨g1, g2, g3, g4⟩, g5⟩ := fa1 b hb
          refine ⟨g1, g2, g3, fun p hp => ?_⟩
          rcases List.mem_append.mp hp with hp | hp
          · exact g4 p (List.mem_append_left _ hp)
          · rcases List.mem_append.mp hp with hp | hp
            · exact g4 p (List.mem_append_right _ hp)
            · exact fun z => g5 (by rw [← z]; exact (of_pinsAt hp).1)
        have G6 : Awake X Cs (ip ++ pinsAt fp s5.heap) ys σ6 H6 s6 := by
          have c5 : Cs as1 ys s5.heap := kept_cs gc.co ep1 I1 cs1 I5
          exact Awake.ran gc.co ep1 far2 I5' c5 I6
        have out : ∀ {ys' : List V} {σ7 : L2.St} {H7 : Hp} {s7 : Shared}, Awake X Cs (ip ++ pinsAt fp s5.heap) ys' σ7 H7 s7 → ∃ (as : List Addr) (ps : List (Addr × Obj)), ps.map (·.1) = as ∧ (∀ b ∈ as, FarC X ip b ∧ b ∉ fp) ∧ Inv X (ps ++ ip) σ7 H7 s7 ∧ Cs as ys' s7.heap := fun {ys' σ7 H7 s7} h => by
          obtain ⟨as7, ps7, e7, f7, I7, c7⟩ := h
          refine ⟨as7, ps7, e7, fun b hb => ?_, Inv.unpinned (pins := ps7 ++ ip) (pl := pinsAt fp s5.heap) (by rw [List.append_assoc]; exact I7), c7⟩
          obtain ⟨g1, g2, g3, g4⟩ := f7 b hb
          refine ⟨⟨g1, g2, g3, fun p hp => ?_⟩, fun z => ?_⟩
          · rcases List.mem_append.mp hp with hp | hp
            · exact g4 p (List.mem_append_left _ hp)
            · exact g4 p (List.mem_append_right _ (List.mem_append_left _ hp))
          · obtain ⟨o, eo, _⟩ := T.obj _ _ st5 b z
            exact g4 (b, o) (List.mem_append_right _ (List.mem_append_right _ (mem_pinsAt z eo))) rfl
        have out' : ∀ {ys' : List V} {σ7 : L2.St} {H7 : Hp} {s7 : Shared}, Awake X Cs (ip ++ pinsAt fp s5.heap) ys' σ7 H7 s7 → Awake X Cs ip ys' σ7 H7 s7 := fun {ys' σ7 H7 s7} h => by
          obtain ⟨as7, ps7, e7, f7, I7, c7⟩ := out h
          exact ⟨as7, ps7, e7, fun b hb => (f7 b hb).1, I7, c7⟩
        refine hb.run A Cs _ R n ys s₀ _ _ _ _ id id s6 σ6 H6 { D with nx := N, ct := N, bk := D.nx } gl hn ⟨fun n' ys' s₀' s7 f hn' hq => ?_, fun n' s₀' x s7 hx => ee n' s₀' x s7 hx⟩ G6 q6
        have again : ∀ {σ7 : L2.St} {H7 : Hp}, Awake X Cs (ip ++ pinsAt fp s5.heap) ys' σ7 H7 s7 → N ys' σ7 H7 → Seg (model X.prog X.w) A R (ProtC X Cs) n' s₀' (.forLoop tg (.ref it) body [] X.env) (.pure (.again (.forLoop tg (.ref it) body [] X.env))) (fr :: fs) s7 := fun {σ7 H7} I7 n7 => by
          obtain ⟨m', hm, w7⟩ := hN ys' σ7 H7 n7
          obtain ⟨as7, ps7, e7, f7, J7, c7⟩ := id I7
          have pinned : ∀ b ∈ fp, ∀ o, s5.heap.get? b = some o → s7.heap.get? b = some o ∧ H7 b = none := fun b hb o e => by
            have := J7.pin (b, o) (List.mem_append_right _ (List.mem_append_right _ (List.mem_append_right _ (mem_pinsAt hb e))))
            exact ⟨this.1, this.2.1⟩
          refine seg_again rfl (ih m' hm (i + 1) n' ys' s₀' s7 σ7 H7 hn' w7 (out I7) (T.keep _ _ _ st5 fun b hb o e => (pinned b hb o e).1) fun b hb => ?_)
          obtain ⟨o, e, _⟩ := T.obj _ _ st5 b hb
          exact (pinned b hb o e).2
        cases f with
        | next => obtain ⟨σ7, H7, I7, n7⟩ := hq; exact again I7 n7
        | cont => obtain ⟨σ7, H7, I7, n7⟩ := hq; exact again I7 n7
        | brk => obtain ⟨σ7, H7, I7, q7⟩ := hq; exact seg_leaf (.ok .next) (k.ok n' ys' s₀' s7 .next hn' ⟨σ7, H7, out' I7, q7⟩)
        | ret v => obtain ⟨x7, σ7, H7, I7, r7, q7⟩ := hq; exact seg_leaf (.ok (.ret v)) (k.ok n' ys' s₀' s7 (.ret v) hn' ⟨x7, σ7, H7, out' I7, r7, q7⟩)
  exact loop m0 0 n ys s₀ s2 σ H2 hn w0 ⟨as, ps, ep, fun b hb => ⟨fa b hb, fun z => by
    rw [← ep] at hb
    obtain ⟨q, hq, eq⟩ := List.mem_map.mp hb
    exact (f2 b z).2.2.2.2.2 q (List.mem_append_right _ (List.mem_append_left _ hq)) eq⟩, I2, kept_cs gc.co ep I cs I2⟩ st2 fun b hb => (f2 b hb).1
end
end Rw
namespace Rw
open PySem PySem.Spec PyProof.Rows L2 GenW
/-! ### what a call of a generator def gives, for a consumer with objects of its own -/
def DoneC (P : Program) (w : World) (outer : List Env) (H : Hp) (s : Shared) (Cs : CsT) (a : Addr) (g : Nat) (Q : List V → Hp → Prop) (E : XK) : GenEnd := fun n s₀ r s1 =>
  ((r = .ok (.ret .none) ∨ r = .ok .next) ∧ ∃ H' ys as, s1.os = s.os ∧ AllBare s1.gens ∧ Un (frs outer) [] H H' s.heap s1.heap ∧ HOk P w H' s1.heap ∧ (∀ b ∈ as, H' b = none) ∧ Cs as ys s1.heap ∧ ys.length ≤ sizeLine ∧ Q ys H') ∨
  ∃ e, r = .error e ∧ CX P w outer H s E e s1 ∧ s1.heap.IsGen a g
def ItemC (P : Program) (w : World) (outer : List Env) (H : Hp) (s : Shared) (Cs : CsT) (a : Addr) (g : Nat) : Protocol := fun n s₀ v s1 kap =>
  s1.os = s.os ∧ AllBare s1.gens ∧ s1.heap.NoLimit ∧ s1.heap.IsGen a g ∧ ∃ ys x as H1, RelV x v ∧ n + 1 + ys.length = sizeLine ∧ Un (frs outer) [] H H1 s.heap s1.heap ∧ HOk P w H1 s1.heap ∧ (∀ b ∈ as, H1 b = none) ∧ Cs as ys s1.heap ∧
    ∀ as' s', Asleep as as' s1 s' → Cs as' (ys ++ [x]) s'.heap → kap (.send .none) s'
/-- a generator that has not begun -/
def MadeC (P : Program) (w : World) (k : Nat) (outer : List Env) (H : Hp) (s : Shared) (Q : List V → Hp → Prop) (E : XK) (u : Value) (s' : Shared) : Prop :=
  ∃ (a : Addr) (g : Nat) (c : Code), u = .ref a ∧ s.heap.objs.size ≤ a ∧ a < s'.heap.objs.size ∧ s'.heap.IsGen a g ∧ s'.gens[g]? = some (.fresh c) ∧ s'.os = s.os ∧ AllBare s'.gens ∧ s'.heap.NoLimit ∧ (∀ b o, s.heap.get? b = some o → s'.heap.get? b = some o) ∧
    ∀ (Cs : CsT) (A : Around) (as : List Addr) (s2 : Shared), Holds Cs → Room k A → A.frames = some outer → (∀ b ∈ as, s'.heap.objs.size ≤ b ∧ ∃ o, s2.heap.get? b = some o ∧ ∀ v, o.data ≠ .cell v) → (∀ b o, s'.heap.get? b = some o → s2.heap.get? b = some o) → s2.os = s.os → AllBare s2.gens → Cs as [] s2.heap →
      Seg (model P w) A (DoneC P w outer H s Cs a g Q E) (ItemC P w outer H s Cs a g) sizeLine s2 c ((model P w).den c) [] s2
structure CFn (P : Program) (w : World) (K : PySem.W.Frag) (mg : Str → Option Value) (base : Heap) (k : Nat) (f : Addr) (fd : FuncData) (ps : List Str) (sp : SpG) : Prop where
  len : ∀ vs H Q E, sp vs H Q E → vs.length = ps.length
  run : ∀ (A : Around) (outer : List Env) (s : Shared) (H : Hp) (args : Args) (us : List Value) (vs : List V) (Q : List V → Hp → Prop) (E : XK), Room k A → Env0 P w K mg base A outer s H → BindsTo s fd args (ps.zip us) → Vals vs us → sp vs H Q E →
    codeAny (model P w) A (.call (.ref f) args) (fun r s' => match r with | .ok (.ret u) => MadeC P w k outer H s Q E u s' | _ => False) s
/-- a generator def, by its body -/
theorem cfn_of {P : Program} {w : World} {K : PySem.W.Frag} {mg : Str → Option Value} {base : Heap} {k : Nat} {f : Addr} {name qual : Str} {params : Arguments} {body : List Stmt} {scope : Scope} {dV kV doc pm cdv ct oc : Value} {an od : Option Addr}
    {osl : Array (Option Value)} {N ps : List Str} {sp : SpG} (lk : K.lookup f = some ⟨oc, od, .func (PySem.W.fnOf name qual params body scope dV kV doc pm an cdv ct), osl⟩) (hcd : PySem.W.codeIn K cdv qual = true) (S : GScope N ps scope)
    (len : ∀ vs H Q E, sp vs H Q E → vs.length = ps.length)
    (hbody : ∀ (A : Around) (outer : List Env) (s : Shared) (H : Hp) (vs : List V) (Q : List V → Hp → Prop) (E : XK) (pn : List (Addr × Obj)), Room k (A.deeper (envOfC qual scope s.heap.objs.size f cdv)) → sp vs H Q E →
      ∃ t, CSs (gcxOf P w K mg base N qual scope f cdv A outer s H E pn) body t ∧ t { nx := fun ys _ H' => Q ys H', rt := fun ys v H' => v = .non ∧ Q ys H' } [] (start N vs) H) :
    CFn P w K mg base (k + 1) f (PySem.W.fnOf name qual params body scope dV kV doc pm an cdv ct) ps sp := by
  refine ⟨len, fun A outer s H args us vs Q E hr e0 hb r hsp => ?_⟩
  have KX : K.In s.heap := e0.mod.kin.keeps fun b o e => (e0.bs b o e).1
  refine codeAny_call_generator hr.depth (KX _ _ lk) rfl S.co S.gen rfl (PySem.W.codeRec_of KX hcd) (hb _ _ _ _ ?_)
  have kinds : ∀ y ∈ ps.zip us, scope.names.lookup y.1 = some .local ∨ (scope.names.lookup y.1 = some .cell ∧ ((cellsFrom (s.heap.objs.size + 1) scope.names []).lookup y.1).isSome = true) := fun y hy => by
    rcases S.par y.1 (List.of_mem_zip (show (y.1, y.2) ∈ ps.zip us from hy)).1 with q | q
    · exact .inl q
    · exact .inr ⟨q, PySem.W.cellsFrom_some _ _ _ (.inl q)⟩
  refine wpAny_newFunctionEnv_cells S.kind kinds fun env he s1 x => ?_
  subst he
  have lim1 : s1.heap.NoLimit := (e0.mod.nolimit.keeps fun b o e => (e0.bs b o e).1).keeps x.toInCall.keep
  refine ⟨lim1, ?_⟩
  obtain ⟨h1, tk, es1, hk1⟩ := x.done
  have os1 : s1.os = s.os := by rw [es1]
  have gen1 : s1.gens = s.gens := by rw [es1]
  have lt1 : s.heap.objs.size < s1.heap.objs.size := x.toInCall.ns.lt
  have kp1 : ∀ b o, s.heap.get? b = some o → s1.heap.get? b = some o := x.toInCall.keep
  have main : ∀ (go : Obj) (nm qn : Value) (tk2 : Nat), go.cls = .type "generator" → go.data = .fields #[.int s1.gens.size 0, nm, qn] → go.slots = #[] → (∀ h : Heap, (h.push go).get? h.objs.size = some go) →
      MadeC P w (k + 1) outer H s Q E (.ref s1.heap.objs.size) { s1 with gens := s1.gens.push (.fresh (.func body (envOfC qual scope s.heap.objs.size f cdv))), toks := tk2, heap := s1.heap.push go } := by
    intro go nm qn tk2 gc gd gs gp
    have isg : ∀ h : Heap, h.get? s1.heap.objs.size = some go → h.IsGen s1.heap.objs.size s1.gens.size := fun h e => ⟨go, nm, qn, e, gc, gd, gs⟩
    refine ⟨s1.heap.objs.size, s1.gens.size, _, rfl, Nat.le_of_lt lt1, ?_, isg _ (gp _), Array.getElem?_push_size .., os1, ?_, lim1.keeps fun b o e => Heap.get?_push_of_some _ e, fun b o e => Heap.get?_push_of_some _ (kp1 b o e), ?_⟩
    · show _ < (s1.heap.push _).objs.size
      rw [Heap.size_push]
      exact Nat.lt_succ_self _
    · exact AllBare.push (by rw [gen1]; exact e0.bare) rfl
    intro Cs Aw as s2 hC hrw hfr hAs hk2 hos hba hcs
    let E1 : Env := envOfC qual scope s.heap.objs.size f cdv
    let X0 := gcxOf P w K mg base N qual scope f cdv Aw outer s H E []
    let X1 := gcxOf P w K mg base N qual scope f cdv Aw outer s H E [(s1.heap.objs.size, go)]
    obtain ⟨t, ht, hq⟩ := hbody Aw outer s H vs Q E [(s1.heap.objs.size, go)] (hrw.deeper _) hsp
    have I1 : Inv X0 [] (start N vs) H s1 := inv_startG S hrw.hd ⟨hfr, e0.mod, e0.bs, e0.bsz, e0.funs, e0.frf, e0.hok, e0.bare⟩ (len _ _ _ _ hsp) r x
    have kp2 : ∀ b o, s1.heap.get? b = some o → s2.heap.get? b = some o := fun b o e => hk2 b o (Heap.get?_push_of_some _ e)
    have I2 : Inv X0 [] (start N vs) H s2 := I1.call' (ch := []) (hos.trans os1.symm) (Un.kept kp2) (I1.hok.kept kp2) hba fun b z => by simp at z
    have young : ∀ b, s1.heap.objs.size ≤ b → H b = none ∧ b ≠ s.heap.objs.size ∧ b ∉ frs outer ∧ s.heap.objs.size ≤ b ∧ ∀ y c, (cellsFrom (s.heap.objs.size + 1) scope.names []).lookup y = some c → c ≠ b := fun b hb => by
      refine ⟨I1.hok.fresh hb, Nat.ne_of_gt (Nat.lt_of_lt_of_le lt1 hb), I1.nofs hb, Nat.le_trans (Nat.le_of_lt lt1) hb, fun y c e z => ?_⟩
      obtain ⟨v, ob, ho, _⟩ := I1.cell y c e
      have := Heap.lt_size ho
      rw [z] at this
      exact absurd (Nat.lt_of_lt_of_le this hb) (Nat.lt_irrefl _)
    have up : ∀ b ∈ as, s1.heap.objs.size < b := fun b hb => by
      have := (hAs b hb).1
      have e : (s1.heap.push go).objs.size ≤ b := this
      rw [Heap.size_push] at e
      exact e
    obtain ⟨ps0, eps, hps⟩ := objs_of (h := s2.heap) (as := as) fun b hb => (hAs b hb).2
    have ina : ∀ p ∈ ps0, p.1 ∈ as := fun p hp => by rw [← eps]; exact List.mem_map.mpr ⟨p, hp, rfl⟩
    have G0 : Awake X1 Cs [] [] (start N vs) H s2 := by
      refine ⟨as, ps0, eps, fun b hb => ?_, Inv.pinnedG I2 fun p hp => ?_, hcs⟩
      · obtain ⟨_, y2, _, y4, y5⟩ := young b (Nat.le_of_lt (up b hb))
        refine ⟨y4, y2, y5, fun p hp => ?_⟩
        have hp : p ∈ [(s1.heap.objs.size, go)] ++ [] := hp
        rw [List.append_nil] at hp
        rw [List.mem_singleton.mp hp]
        exact Nat.ne_of_lt (up b hb)
      · rcases List.mem_append.mp hp with z | z
        · rw [List.mem_singleton.mp z]
          obtain ⟨y1, y2, y3, _, _⟩ := young s1.heap.objs.size (Nat.le_refl _)
          exact ⟨hk2 s1.heap.objs.size go (gp _), y1, y2, y3, fun v q => by rw [gd] at q; cases q⟩
        · rw [List.append_nil] at z
          obtain ⟨y1, y2, y3, _, _⟩ := young p.1 (Nat.le_of_lt (up _ (ina p z)))
          exact ⟨(hps p z).1, y1, y2, y3, (hps p z).2⟩
    have seen : ∀ {ip : List (Addr × Obj)} {as' : List Addr} {ps' : List (Addr × Obj)} {σ' : L2.St} {H' : Hp} {s' : Shared}, ps'.map (·.1) = as' → Inv X1 (ps' ++ ip) σ' H' s' → s'.heap.IsGen s1.heap.objs.size s1.gens.size ∧ ∀ b ∈ as', H' b = none := fun {ip as' ps' σ' H' s'} e J =>
      ⟨isg _ (J.pin (s1.heap.objs.size, go) (List.mem_append_left _ (List.mem_singleton.mpr rfl))).1, fun b hb => (pins_at e J b hb).1⟩
    refine seg_func ?_
    refine seg_imp (R := EndC X1 Cs (fun ys v H' => v = .non ∧ Q ys H') fun e s' => CX P w outer H s E e s' ∧ ∀ p ∈ [(s1.heap.objs.size, go)], s'.heap.get? p.1 = some p.2) (Y := ProtC X1 Cs) (fun n s₀ r s1' hR => ?_) (fun n s₀ v s1' kap kap' hkk hY => ?_) sizeLine ?_
    · cases r with
      | error e =>
        obtain ⟨q1, q2⟩ := hR
        exact .inr ⟨e, rfl, q1, isg _ (q2 (s1.heap.objs.size, go) (List.mem_singleton.mpr rfl))⟩
      | ok fl =>
        cases fl with
        | next => exact False.elim hR
        | brk => exact False.elim hR
        | cont => exact False.elim hR
        | ret u =>
          obtain ⟨ys, v, ip, σ', H', hn, ⟨as', ps', e', _, J, c'⟩, rv, ev, hQ⟩ := hR
          subst ev
          have eu : u = Value.none := rv
          subst eu
          exact .inl ⟨.inl rfl, H', ys, as', J.os, J.bare, J.base, J.hok, (seen e' J).2, c', by omega, hQ⟩
    · obtain ⟨ys, xx, ip, σ', H', as', ps', hn, h2, e', _, J, c', h3⟩ := hY
      exact ⟨J.os, J.bare, J.nolimit, (seen e' J).1, ys, xx, as', H', h2, hn, J.base, J.hok, (seen e' J).2, c', fun as2 s' z zc => hkk _ _ (h3 as2 s' z zc)⟩
    · refine ht.run Aw Cs [] _ sizeLine [] s2 _ [] _ _ id id s2 (start N vs) H _ ⟨hC, over_func, rfl, rfl, rfl⟩ (Nat.add_zero _) ⟨fun n ys s₀ s' fl hn hs => ?_, fun n s₀ e s' hx => ?_⟩ G0 hq
      · cases fl with
        | next =>
          obtain ⟨σ', H', hI, hQ⟩ := hs
          exact seg_end (.ok (.ret .none)) ⟨ys, .non, [], σ', H', hn, hI, rfl, rfl, hQ⟩
        | brk => obtain ⟨_, _, _, q⟩ := hs; exact False.elim q
        | cont => obtain ⟨_, _, _, q⟩ := hs; exact False.elim q
        | ret u =>
          obtain ⟨v, σ', H', hI, rv, ev, hQ⟩ := hs
          exact seg_end (.ok (.ret u)) ⟨ys, v, [], σ', H', hn, hI, rv, ev, hQ⟩
      · refine seg_wrap ?_
        rw [over_func]
        refine wpAny_mono (show wpAny (model P w) (Aw.deeper E1) (leaving E1 e) (fun _ s'' => CX P w outer H s E e s'' ∧ ∀ p ∈ [(s1.heap.objs.size, go)], s''.heap.get? p.1 = some p.2) (fun _ _ => False) s' from hx) (fun _ s'' q => ?_) fun _ s'' q => q.elim
        exact seg_end (.error e) q
  exact main _ _ _ _ rfl rfl rfl fun h => Heap.get?_push_size _ rfl
end Rw
namespace Rw
open PySem PySem.Spec PyProof.Rows L2 GenW
/-! ### [x for x in g] -/
section
variable {X : Cx} {k : Nat} {f : Addr} {fd : FuncData} {ps : List Str} {sp : SpG} {dvs : List V} {ds : List Value} {x : Str} {p pos pos' : Pos}
structure PGenC (X : Cx) (k : Nat) (e : Expr) (tg : TGen) (E : XK) : Prop where
  run : ∀ (pins : List (Addr × Obj)) (s : Shared) (σ : L2.St) (H : Hp) (cont : List V → Hp → Prop), Inv X pins σ H s → tg σ H cont → wpAny (model X.prog X.w) X.A (eval e X.env)
    (fun u s' => ∃ H1 sc, Inv X pins σ H1 sc ∧ MadeC X.prog X.w k X.stack H1 sc cont E u s') X.xe s
theorem run_cfn {pins : List (Addr × Obj)} {σ : L2.St} {H : Hp} {s : Shared} {us : List Value} {vs : List V} {cont : List V → Hp → Prop} {E : XK} {E1 : Value → Shared → Prop} (F : CFn X.prog X.w X.K X.mg X.base k f fd ps sp) (hr : Room k X.A) (hb : Binds X.K fd ps ds) (hd : Vals dvs ds)
    (I : Inv X pins σ H s) (r : Vals vs us) (h : sp (vs ++ dvs) H cont E) :
    wpAny (model X.prog X.w) X.A (call (.ref f) us) (fun u s' => ∃ H1 sc, Inv X pins σ H1 sc ∧ MadeC X.prog X.w k X.stack H1 sc cont E u s') E1 s := by
  have r2 : Vals (vs ++ dvs) (us ++ ds) := r.append hd
  have hl2 : (us ++ ds).length = ps.length := by rw [← r2.length]; exact F.len _ _ _ _ h
  refine wpAny_call (codeAny_mono (F.run X.A X.stack s H ⟨us, []⟩ (us ++ ds) (vs ++ dvs) cont E hr I.env0 (hb s us I.kIn hl2) r2 h) fun r s' hq => ?_)
  cases r with
  | error e => exact hq.elim
  | ok fl =>
    cases fl with
    | ret u => exact ⟨H, s, I, hq⟩
    | next => exact hq.elim
    | brk => exact hq.elim
    | cont => exact hq.elim
theorem pgenC_call {E : XK} {e : Expr} {es : List Expr} {t : TA} (F : CFn X.prog X.w X.K X.mg X.base k f fd ps sp) (hr : Room k X.A) (hg : Gl X x) (hm : X.mg x = some (.ref f)) (hk : PySem.W.keepIn X.K (.ref f) = true) (hb : Binds X.K fd ps ds) (hd : Vals dvs ds)
    (ha : PA X (e :: es) t) (hdb : (x == ("__debug__" : Str)) = false := by decide) (he : starEach (e :: es) X.env = (false, eval e X.env) :: starEach es X.env := by rfl) (hpl : (backTo pos' (starEach es X.env)).any (·.1) = false := by rfl) :
    PGenC X k (.Call (.Name x p) (e :: es) [] pos') (tCallG sp dvs E t) E := by
  refine ⟨fun pins s σ H cont I h => wpAny_Call_Name_kw (ld_glob I hg hm ?_ hdb)⟩
  refine PySem.W.callWith_K (h₀ := X.base) I.ok.mod.kin hk (thn (ha.run pos' pins s σ H _ I h) fun us s1 ⟨vs, H1, I1, r, q⟩ => ⟨I1.kIn, ?_⟩) he hpl
  exact run_cfn F hr hb hd I1 r q
/-- the block's own objects: the list (D) and the names (C) -/
def CsLc (D C : Addr) : CsT := fun as ys h => as = [D, C] ∧ (∃ (acc : Array Value) (c : Nat), h.get? D = some (lstObj acc c) ∧ Vals ys acc.toList) ∧ ∃ m, h.Ns C m
theorem holds_lc (D C : Addr) : Holds (CsLc D C) := fun as ys h h' q ⟨e, ⟨acc, c, h1, h2⟩, m, hn⟩ => by
  subst e
  exact ⟨rfl, ⟨acc, c, q D List.mem_cons_self _ h1, h2⟩, m, hn.at' fun o eo => q C (List.mem_cons_of_mem _ List.mem_cons_self) o eo⟩
theorem ns_noncell {h : Heap} {C : Addr} {m : Str → Option Value} (hn : h.Ns C m) : ∃ o, h.get? C = some o ∧ ∀ v, o.data ≠ .cell v := by
  obtain ⟨o, es, ep, ho, hd, _⟩ := hn
  exact ⟨o, ho, fun v q => by rw [hd] at q; cases q⟩
theorem pe_lcI {e : Expr} {tg : TGen} {px px' : Pos} {scope : Scope} (h : PGenC X k e tg (fun _ _ _ => False)) (hc : X.calm = true) (hr : Room (k + 1) X.A) (hkind : scope.kind = .function) (hnm : scope.names = [((".0" : Str), .local), (x, .local)]) (hx0 : (x == (".0" : Str)) = false := by decide) (hdb : (x == ("__debug__" : Str)) = false := by decide)
    (hs : ∀ x, foldedSetIterable e X.env x = pure x := by intro _; rfl) : PE X (.ListComp (.Name x px') [⟨.Name x px, e, [], 0⟩] scope pos) (tListG tg) := by
  refine ⟨fun pins s σ H Q I hq => ?_⟩
  have hx : scope.names.lookup x = some .local := by rw [hnm, List.lookup_cons, hx0]; show List.lookup x [(x, NameKind.local)] = _; rw [List.lookup_cons, beq_self_eq_true]
  have hx1 : scope.names.lookup (".0" : Str) = some .local := by rw [hnm, List.lookup_cons, beq_self_eq_true]
  have hmem : ∀ y ∈ scope.names, y = ((".0" : Str), NameKind.local) ∨ y = (x, NameKind.local) := fun y hy => by rw [hnm] at hy; rcases List.mem_cons.mp hy with e | e; exact .inl e; exact .inr (List.mem_singleton.mp e)
  rw [eval_ListComp]
  refine wpAny_comprehension_free (use := none) (cl := cloFrom X.env.cells scope.names []) rfl hs (closure_ok fun y hy e => by rcases hmem y hy with q | q <;> rw [q] at e <;> exact nomatch e) hkind (fun y hy _ => by rcases hmem y hy with q | q <;> rw [q]; exact hx1; exact hx)
    (thn (h.run pins s σ H _ I hq) fun u s1 hu => ?_)
  obtain ⟨H1, sc, I1, a, g, c, rfl, ha1, ha2, hg, hgs, hos, hb, hl, hkp, wake⟩ := hu
  refine wpAny_pyIter_gen hg ?_
  refine wpAny_newObj_type (wpAny_newFunctionEnv (fun y hy q => by rcases hmem y hy with r | r <;> rw [r] at q <;> exact nomatch q) (by intro y hy; simp at hy) (fun h₁ hns₁ hsb₁ => ?_) hkind) (by show 0 ≤ sizeLine; decide)
  dsimp only at hns₁ hsb₁ ⊢
  generalize hD : s1.heap.objs.size = D at hns₁ hsb₁ ⊢
  generalize hH2 : s1.heap.push { cls := .type "list", dict := none, data := .seq ([] : List Value).toArray } = H2 at hns₁ hsb₁ ⊢
  generalize hC : H2.objs.size = C at hns₁ hsb₁ ⊢
  have eC : C = D + 1 := by rw [← hC, ← hH2, Heap.size_push, hD]
  have nDC : D ≠ C := by rw [eC]; exact Nat.ne_of_lt (Nat.lt_succ_self _)
  have old : ∀ b o, s1.heap.get? b = some o → h₁.get? b = some o := fun b o eo => by
    have lt := Heap.lt_size eo
    rw [hD] at lt
    refine hsb₁.extBut b o (by rw [eC]; exact Nat.ne_of_lt (Nat.lt_succ_of_lt lt)) (Heap.get?_push_of_some _ ?_)
    rw [← hH2]
    exact Heap.get?_push_of_some _ eo
  have hacc : h₁.get? D = some (lstObj #[] 0) := by
    refine hsb₁.extBut _ _ nDC (Heap.get?_push_of_some _ ?_)
    rw [← hH2, ← hD]
    exact Heap.get?_push_size _ rfl
  let ce : Env := compEnvC scope (cloFrom X.env.cells scope.names []) C X.env
  have hceL : ce.locals = C := rfl
  have post : ∀ (s' : Shared) (H' : Hp) (ys : List V) (acc : Array Value) (cc : Nat) (m : Str → Option Value), s'.os = sc.os → AllBare s'.gens → Un (frs X.stack) [] H1 H' sc.heap s'.heap → HOk X.prog X.w H' s'.heap → H' D = none → H' C = none → s'.heap.get? D = some (lstObj acc cc) → Vals ys acc.toList → ys.length ≤ sizeLine → s'.heap.Ns C m → (∀ p, H' p = none → Q (.ref p) (upd H' p (.lst ys))) →
      compPost (model X.prog X.w) X.A X.xe none (fun v s'' => ∃ y H'', Inv X pins σ H'' s'' ∧ RelV y v ∧ Q y H'') (.ref D) C (.ok .next) s' := fun s' H' ys acc cc m q1 q2 q3 q4 q5 q6 q7 q8 q9 q10 q11 => by
    have szD : sc.heap.objs.size ≤ D := by rw [← hD]; exact Nat.le_trans ha1 (Nat.le_of_lt ha2)
    have J := I1.drained szD q9 q7 q8 ExOk.nil q1 q2 q3 q4 q5
    have szC : sc.heap.objs.size ≤ C := by rw [eC]; exact Nat.le_succ_of_le szD
    obtain ⟨f0, f1, f2, f3, f4, f5⟩ := I1.fpOk (H' := upd H' D (.lst ys)) szC (by rw [upd_ne nDC.symm]; exact q6)
    exact ⟨m, q10, fun h'' sb => ⟨.ref D, upd H' D (.lst ys), J.turned (t' := s'.toks) (fun b o hb e => (sb.2 b hb).trans e) f0 f1 f3 f4 f5, rfl, q11 D q5⟩⟩
  have kl : ce.kindOf x = some .local := lookup_relabel_local hx
  have kk : ce.scope.kind = .function := hkind
  let s2 : Shared := { s1 with heap := h₁, toks := s1.toks + ([] : List (Str × Value)).length }
  have szs : s1.heap.objs.size ≤ D := Nat.le_of_eq hD
  have seg0 := wake (CsLc D C) X.A.in1 [D, C] (s2.setGen g .running) (holds_lc D C) hr.in1 I1.ok.frames (fun b hb => by
    rcases List.mem_cons.mp hb with rfl | hb
    · exact ⟨szs, _, hacc, fun v q => by cases q⟩
    · rw [List.mem_singleton.mp hb]
      exact ⟨by rw [eC]; exact Nat.le_succ_of_le szs, ns_noncell hns₁⟩) old hos (allBare_setGen (s := s2) hb rfl) ⟨rfl, ⟨#[], 0, hacc, .nil⟩, _, hns₁⟩
  have loop : codeAny (model X.prog X.w) X.A (.compLoop (.ListComp (.Name x px') [⟨.Name x px, e, [], 0⟩] scope pos) 0 (.ref a) (.ref D) ce) (compPost (model X.prog X.w) X.A X.xe none (fun v s'' => ∃ y H'', Inv X pins σ H'' s'' ∧ RelV y v ∧ Q y H'') (.ref D) C) s2 := by
    have goes : ∀ {gs : GenState} {B : Around} {n : Nat} {r : Resume} {s : Shared}, gs.Goes (model X.prog X.w) B (DoneC X.prog X.w X.stack H1 sc (CsLc D C) a g (fun out H2 => ∀ p, H2 p = none → Q (.ref p) (upd H2 p (.lst out))) fun _ _ _ => False) (ItemC X.prog X.w X.stack H1 sc (CsLc D C) a g) n r s →
        gs.Goes (model X.prog X.w) B (fun n s₀ r s1 => ((r = .ok (.ret .none) ∨ r = .ok .next) ∧ ∃ H' ys as, s1.os = sc.os ∧ AllBare s1.gens ∧ Un (frs X.stack) [] H1 H' sc.heap s1.heap ∧ HOk X.prog X.w H' s1.heap ∧ (∀ b ∈ as, H' b = none) ∧ CsLc D C as ys s1.heap ∧ ys.length ≤ sizeLine ∧ ∀ p, H' p = none → Q (.ref p) (upd H' p (.lst ys))) ∨
          ∃ e, r = .error e ∧ CX X.prog X.w X.stack H1 sc (fun _ _ _ => False) e s1 ∧ s1.heap.IsGen a g) (ItemC X.prog X.w X.stack H1 sc (CsLc D C) a g) n r s := fun h => h
    refine compLoop_any (fun n s3 => ∃ gs, s3.gens[g]? = some gs ∧ s3.heap.IsGen a g ∧ s3.heap.NoLimit ∧ gs.Goes (model X.prog X.w) X.A.in1 (DoneC X.prog X.w X.stack H1 sc (CsLc D C) a g (fun out H2 => ∀ p, H2 p = none → Q (.ref p) (upd H2 p (.lst out))) fun _ _ _ => False) (ItemC X.prog X.w X.stack H1 sc (CsLc D C) a g) n (.send .none) (s3.setGen g .running)) ?_ sizeLine
      ⟨.fresh c, hgs, hg.keeps old, hl.keeps old, rfl, seg0⟩
    rintro n s3 ⟨gs, hgs3, hg3, hl3, hgo⟩
    have hgl : g < s3.gens.size := (Array.getElem?_eq_some_iff.mp hgs3).1
    refine wpAny_gsz (n := g + 1) hgl (next_genG (A := X.A) hr.hd hl3 (by have := hr.dp; omega) hg3 hgs3 (goes hgo) (fun v s₁ gs' hbare hv => ?_) (fun s₁ hp h' hk => ?_) fun e s₁ he => ?_)
    · intro hsz
      obtain ⟨os1, hb1, hl1, hg1, ys, x0, as, Hy, rv, hn, un, hok, hnn, ⟨rfl, ⟨acc, cc, hD1, hv1⟩, m1, hC1⟩, hk⟩ := hv
      have gsz : g < s₁.gens.size := by
        have q : (s₁.setGen g gs').gens.size = s₁.gens.size := setGen_size _ _ _
        have := hsz
        omega
      refine wpAny_pure ?_
      refine wpAny_assign_Name (wpAny_storeName_local (m := m1) kl hC1 (fun h2 hn2 hs2 => ?_) (by rw [kk]; rfl))
      refine wpAny_tests_nil ?_
      rw [if_pos rfl]
      refine wpAny_Name (wpAny_loadName_local kk kl hn2 (if_pos rfl) ?_) hdb
      have hD2 : h2.get? D = some (lstObj acc cc) := hs2.extBut D _ nDC hD1
      have al := hv1.length
      refine append_at hD2 (fun h3 sb3 ho3 => ?_) ?_
      · have kept : ∀ b o, b ∉ [D, C] → s₁.heap.get? b = some o → h3.get? b = some o := fun b o hb eo => by
          have nbD : b ≠ D := fun z => hb (by rw [z]; exact List.mem_cons_self)
          have nbC : b ≠ C := fun z => hb (by rw [z]; exact List.mem_cons_of_mem _ List.mem_cons_self)
          exact (sb3.2 b nbD).trans (hs2.extBut b o nbC eo)
        have hn3 : h3.Ns C (fun y => if y = x then some v else m1 y) := hn2.at' fun o eo => (sb3.2 C nDC.symm).trans eo
        have hv3 : Vals (ys ++ [x0]) (acc.push v).toList := by
          rw [Array.toList_push]
          exact hv1.append (.cons rv .nil)
        let s5 : Shared := { s₁.setGen g gs' with heap := h3, toks := s₁.toks + 1 }
        have kap := hk [D, C] (s5.setGen g .running) ⟨rfl, allBare_setGen (s := s5) (allBare_setGen (s := s₁) hb1 hbare) rfl, kept, fun b hb => .inl hb, fun b hb => by
          rcases List.mem_cons.mp hb with rfl | hb
          · exact ⟨_, ho3, fun v q => by cases q⟩
          · rw [List.mem_singleton.mp hb]
            exact ns_noncell hn3⟩ ⟨rfl, ⟨_, _, ho3, hv3⟩, _, hn3⟩
        cases n with
        | zero => exact kap.elim
        | succ m =>
          refine ⟨m, Nat.lt_succ_self m, gs', setGen_at gsz, ?_, ?_, kap⟩
          · obtain ⟨o, nm, qn, ho, r⟩ := hg1
            refine ⟨o, nm, qn, kept a o (fun z => ?_) ho, r⟩
            rcases List.mem_cons.mp z with z | z
            · exact absurd z (Nat.ne_of_lt (Nat.lt_of_lt_of_le ha2 szs))
            · have z := List.mem_singleton.mp z
              rw [eC] at z
              exact absurd z (Nat.ne_of_lt (Nat.lt_succ_of_lt (Nat.lt_of_lt_of_le ha2 szs)))
          · obtain ⟨mc, hns, hnn'⟩ := hl1
            have lt0 : cStatics < D := by
              obtain ⟨_, h0, _⟩ := hl
              exact Nat.lt_of_lt_of_le h0.lt szs
            refine ⟨mc, hns.at' fun o e => kept _ o (fun z => ?_) e, hnn'⟩
            rcases List.mem_cons.mp z with z | z
            · exact absurd z (Nat.ne_of_lt lt0)
            · have z := List.mem_singleton.mp z
              rw [eC] at z
              exact absurd z (Nat.ne_of_lt (Nat.lt_succ_of_lt lt0))
      · have e0 : acc.toList.length = acc.size := by simp
        omega
    · intro hsz
      obtain ⟨H', ys, as, os1, hb1, un, hok, hnn, ⟨rfl, ⟨acc, cc, hD1, hv1⟩, m1, hC1⟩, hle, hQ⟩ := hp
      exact post _ H' ys acc cc m1 os1 (allBare_setGen hb1 rfl) (un.trans (Un.kept hk)) (hok.kept hk) (hnn D List.mem_cons_self) (hnn C (List.mem_cons_of_mem _ List.mem_cons_self)) (hk _ _ hD1) hv1 hle (hC1.at' fun o eo => hk _ o eo) hQ
    · obtain ⟨⟨_, _, _, _, _, _, _, _, _, _, _, _, z⟩, _⟩ := he
      exact z.elim
  exact codeAny_compStart_list loop (wpAny_pyIter_gen (hg.keeps old) loop)
end
end Rw
namespace Rw
open PySem PySem.Spec PyProof.Rows L2 GenW
/-! ### list(g) is one more consumer -/
def CsOne (S : Addr) : CsT := fun as ys h => as = [S] ∧ ∃ (acc : Array Value) (c : Nat), h.get? S = some (lstObj acc c) ∧ Vals ys acc.toList
theorem holds_one (S : Addr) : Holds (CsOne S) := fun as ys h h' q ⟨e, acc, c, h1, h2⟩ => by
  subst e
  exact ⟨rfl, acc, c, q S List.mem_cons_self _ h1, h2⟩
theorem gmade_of {P : Program} {w : World} {k : Nat} {outer : List Env} {H : Hp} {s : Shared} {Q : List V → Hp → Prop} {E : XK} {u : Value} {s' : Shared} (h : MadeC P w k outer H s Q E u s') : GMade P w k outer H s [] Q E u s' := by
  obtain ⟨a, g, c, eu, h1, h2, h3, h4, h5, h6, h7, h8, wake⟩ := h
  refine ⟨a, g, c, eu, h1, h2, h3, h4, h5, h6, h7, h8, fun A S s2 hr hf hS hk hS0 ho hb => ?_⟩
  obtain ⟨c0, e0⟩ := hS0
  refine seg_imp (fun n s₀ r s1 hR => ?_) (fun n s₀ v s1 kap kap' hkk hY => ?_) sizeLine (wake (CsOne S) A [S] s2 (holds_one S) hr hf (fun b hb => by
    rw [List.mem_singleton.mp hb]
    exact ⟨hS, _, e0, fun v q => by cases q⟩) hk ho hb ⟨rfl, _, _, e0, .nil⟩)
  · rcases hR with ⟨hr, H', ys, as, q1, q2, q3, q4, q5, ⟨rfl, acc, cc, e1, r1⟩, q6, q7⟩ | q
    · exact .inl ⟨hr, H', ys, acc, cc, q1, q2, q3, q4, q5 S List.mem_cons_self, e1, r1, q6, q7⟩
    · exact .inr q
  · obtain ⟨q1, q2, q3, q4, ys, x, as, Hy, rv, hn, _, _, _, ⟨rfl, acc, cc, e1, r1⟩, hkap⟩ := hY
    have al := r1.length
    have ae : acc.toList.length = acc.size := by simp
    refine ⟨q1, q2, q3, q4, ⟨acc, cc, e1, by omega⟩, fun s'' z => hkk _ _ (hkap [S] s'' ⟨z.os, z.bare, fun b o hb eo => z.keep b o (fun q => hb (by rw [q]; exact List.mem_cons_self)) eo, fun b hb => .inl hb, fun b hb => ?_⟩ ⟨rfl, ?_⟩)⟩
    · rw [List.mem_singleton.mp hb]
      obtain ⟨c', e'⟩ := z.own acc cc e1
      exact ⟨_, e', fun v q => by cases q⟩
    · obtain ⟨c', e'⟩ := z.own acc cc e1
      refine ⟨_, c', e', ?_⟩
      rw [Array.toList_push]
      exact r1.append (.cons rv .nil)
theorem gfn_c {P : Program} {w : World} {K : PySem.W.Frag} {mg : Str → Option Value} {base : Heap} {k : Nat} {f : Addr} {fd : FuncData} {ps : List Str} {sp : SpG} (F : CFn P w K mg base k f fd ps sp) : GFn P w K mg base k f fd ps sp := by
  refine ⟨F.len, fun A outer s H args us vs Q E hr e0 hb r h => codeAny_mono (F.run A outer s H args us vs Q E hr e0 hb r h) fun r s' hq => ?_⟩
  cases r with
  | error e => exact hq.elim
  | ok fl =>
    cases fl with
    | ret u => exact gmade_of hq
    | next => exact hq.elim
    | brk => exact hq.elim
    | cont => exact hq.elim
end Rw
namespace Rw
open PySem PySem.Spec PyProof.Rows L2
/-! ### a def without defaults, called by names; C() of a class whose __init__ takes *args -/
theorem kbn_fun {K : PySem.W.Frag} {x qual : Str} {st : Stmt} {f : Addr} {fd : FuncData} {ps : List Str} (F : Fun K x qual st f fd) (n : Nat) (ks : List Str) (g : List Value → List Value → List Value) (gV : List V → List V → List V)
    (h : ∀ (kV doc pm : Value) (an : Option Addr) (cdv ct : Value) (us ws : List Value), us.length = n → ws.length = ks.length → bindArgs (PySem.W.fnOf x qual (defArgs st) (defBody st) (defScope st) .none kV doc pm an cdv ct) { pos := us, kw := ks.zip ws } = pure (ps.zip (g us ws)))
    (rel : ∀ {vs : List V} {us : List Value} {zs : List V} {ws : List Value}, Vals vs us → Vals zs ws → Vals (gV vs zs) (g us ws)) : KBn K fd ps n ks g gV := by
  obtain ⟨oc, od, kV, doc, pm, an, cdv, ct, osl, rfl, lk, hcd⟩ := F.ex
  refine ⟨fun s us ws X l1 l2 => ?_, fun a b => rel a b⟩
  intro M A E Q q
  rw [h kV doc pm an cdv ct us ws l1 l2]
  exact wpAny_pure q
theorem pe_makeR0 {X : Cx} {CX : CXT} {k : Nat} {f C : Addr} {sp : Sp} {E : XK} {x : Str} {p pos : Pos} (M : Mk X.K C f) (F : FnR X.prog X.w X.K X.mg X.base CX k f sp) (hr : Room (k + 1) X.A) (hg : Gl X x) (hm : X.mg x = some (.ref C)) (hx : Passes CX X E)
    (hd : (x == ("__debug__" : Str)) = false := by rfl) : PE X (.Call (.Name x p) [] [] pos) (StX.tMakeR C sp E tNil) :=
  ⟨fun pins s σ H Q I h => wpAny_Call_Name_kw (ld_glob I hg hm (PySem.W.callWith_K0 I.kIn M.kp (StX.run_makeR M F hr hx I Paired.nil h)) hd)⟩
theorem passNo {P : Program} {w : World} {X : Cx} : Passes (L2.CX P w) X (fun _ _ _ => False) := fun pins σ H s e s' _ h => by
  obtain ⟨_, _, _, _, _, _, _, _, _, _, _, _, z⟩ := h
  exact z.elim
end Rw
namespace Rw
open PySem PySem.Spec PyProof.Rows L2
/-! ### the worlds of a program, walked -/
theorem scChosen : FnScope ["program", "names", "own"] ["program", "names"] (defScope sChosen) := ⟨rfl, rfl, rfl, by decide +kernel, rfl, by decide +kernel, by decide +kernel⟩
section
variable {P : Program} {w : World} {K : PySem.W.Frag} {mg : Str → Option Value} {base : Heap} {f : Addr} {fd : FuncData} {k : Nat}
/-- the names whose worlds are wanted, rightly given -/
def spChosen (K : PySem.W.Frag) (C : Addr) : Sp := fun vs H Q _ => ∃ (v x : V) (S : List Rl) (bd : W), vs = [v, x] ∧ PgAt K C H v S ∧ (∀ r ∈ S, IsR r) ∧ (∀ z ∈ namesL S, z ∈ bd) ∧ bd.length ≤ 40 ∧
  ((x = .non ∧ ∀ H' t (ns : W), Same H H' → SqT K H' t (ns.map V.str) → IsW ns → (∀ z, z ∈ ns ↔ z ∈ namesL S) → Q (.ref t) H') ∨ ∃ ns : W, Dp K H x (wd ns) ∧ IsW ns ∧ (∀ z ∈ namesL S, z ∈ ns) ∧ ∀ H', Same H H' → Q x H')
theorem ok_chosen {C CP pN f1 f2 f3 f4 : Addr} {fd1 fd2 fd3 fd4 : FuncData} (F : Fun K "_chosen_names" "_chosen_names" sChosen f fd) (c : Cls K C) (hp : PropOf K C "names" pN f2)
    (G1 : FnOk P w K mg base (L2.CX P w) (k + 1) f1 fd1 ["thing"] (spCheckProgram K C CP)) (b1 : Binds K fd1 ["thing"] []) (k1 : PySem.W.keepIn K (.ref f1) = true) (m1 : mg "check_program" = some (.ref f1))
    (G2 : FnOk P w K mg base CX0 k f2 fd2 ["self"] (spNames K C)) (b2 : Binds K fd2 ["self"] [])
    (G3 : FnOk P w K mg base CX0 (k + 1) f3 fd3 ["thing"] (spIsWorld K)) (b3 : Binds K fd3 ["thing"] []) (k3 : PySem.W.keepIn K (.ref f3) = true) (m3 : mg "is_world" = some (.ref f3))
    (G4 : FnOk P w K mg base CX0 (k + 1) f4 fd4 ["names", "wanted"] (spHasAll K)) (b4 : Binds K fd4 ["names", "wanted"] []) (k4 : PySem.W.keepIn K (.ref f4) = true) (m4 : mg "has_all" = some (.ref f4)) :
    FnOk P w K mg base CX0 (k + 2) f fd ["program", "names"] (spChosen K C) := by
  refine F.ok scChosen (fun vs H Q E h => ?_) (fun cdv A outer s H vs Q E hr h => ?_)
  · obtain ⟨v, x, S, bd, rfl, _⟩ := h
    rfl
  obtain ⟨v, x, S, bd, rfl, hS, hI, hbd, lbd, h⟩ := h
  refine ⟨_, pss_cons (ps_expr (pe_call G1 hr (by rfl) m1 k1 b1 .nil passNo (pa_cons (pv 0) pa_nil)))
    (pss_cons (ps_set (i := 2) scChosen.nd rfl (.inl rfl) (pe_prop (pv 0) c hp G2 hr b2 .nil pass0 rfl))
    (pss_cons (ps_if (pt_cmpR op_isN (pv 1) pe_non (nomark _)) (pss_one (ps_ret (pv 2))) pss_nil)
    (pss_cons (ps_if (PW.pt (pw_or (pt_not (pt_val (pe_call G3 hr (by rfl) m3 k3 b3 .nil pass0 (pa_cons (pv 1) pa_nil)))) (pw_or1 (pt_not (pt_val (pe_call G4 hr (by rfl) m4 k4 b4 .nil pass0 (pa_cons (pv 1) (pa_cons (pv 2) pa_nil)))))))) pss_never pss_nil)
    (pss_one (ps_ret (pv 1)))))), ?_⟩
  obtain ⟨a, dx, t0, ys0, rfl, i1, i2, i3⟩ := id hS
  refine ⟨.ref a, rfl, .ref a, rfl, .inl ⟨S, hS, ?_⟩⟩
  refine ⟨.ref a, rfl, a, dx, _, rfl, i1, .ref a, S, bd, rfl, hS, hI, hbd, by omega, fun H1 t own s1 ht hown hmem => ?_⟩
  rcases h with ⟨rfl, q⟩ | ⟨ns, hx, hw, hsub, q⟩
  · exact ⟨.non, rfl, rfl, true, congrArg V.bl (decide_eq_true rfl), iteT ⟨.ref t, rfl, q H1 t own s1 ht hown hmem⟩⟩
  · have hx1 := dp_same s1 _ _ hx
    obtain ⟨b, rfl, hb⟩ := of_wd hx1
    refine ⟨.ref b, rfl, rfl, false, congrArg V.bl (decide_eq_false fun z => nomatch z), iteF ?_⟩
    refine ⟨.ref b, rfl, .ref b, wd ns, rfl, hx1, oddW_wd hw, fun H2 s2 => ⟨true, congrArg V.bl (worldD_wd hw), iteF ?_⟩⟩
    have e : sub own ns = true := by
      unfold sub
      rw [List.all_eq_true]
      intro z hz
      exact decide_eq_true (hsub z ((hmem z).mp hz))
    refine ⟨.ref b, rfl, .ref t, rfl, .ref b, .ref t, ns, own, rfl, .wd (dp_same s2 _ _ hx1), .wd (to_wd (same_tup s2 ht)), by have := hown.few; omega, fun H3 s3 => ⟨true, congrArg V.bl e, iteF ?_⟩⟩
    exact ⟨.ref b, rfl, q H3 (s1.trans (s2.trans s3))⟩
/-- the names, in one way -/
def spChosenM (K : PySem.W.Frag) (C : Addr) : Sp := fun vs H Q _ => ∃ (v x : V) (S : List Rl) (bd : W) (Nm : W → Prop), vs = [v, x] ∧ PgAt K C H v S ∧ (∀ r ∈ S, IsR r) ∧ (∀ z ∈ namesL S, z ∈ bd) ∧ bd.length ≤ 40 ∧
  ((x = .non ∧ ∀ ns : W, IsW ns → (∀ z, z ∈ ns ↔ z ∈ namesL S) → Nm ns) ∨ ∃ ns : W, Dp K H x (wd ns) ∧ IsW ns ∧ (∀ z ∈ namesL S, z ∈ ns) ∧ Nm ns) ∧
  ∀ H' t (ns : W), Same H H' → SqT K H' t (ns.map V.str) → IsW ns → (∀ z ∈ namesL S, z ∈ ns) → Nm ns → Q (.ref t) H'
theorem ok_chosenM {C : Addr} (G : FnOk P w K mg base CX0 k f fd ["program", "names"] (spChosen K C)) : FnOk P w K mg base CX0 k f fd ["program", "names"] (spChosenM K C) := G.imp fun vs H Q E h => by
  obtain ⟨v, x, S, bd, Nm, rfl, hS, hI, hbd, lbd, hx, q⟩ := h
  refine ⟨v, x, S, bd, rfl, hS, hI, hbd, lbd, ?_⟩
  rcases hx with ⟨rfl, hn⟩ | ⟨ns, hx, hw, hs, hn⟩
  · exact .inl ⟨rfl, fun H' t ns s ht hw hm => q H' t ns s ht hw (fun z hz => (hm z).mpr hz) (hn ns hw hm)⟩
  · obtain ⟨t, rfl, ht⟩ := of_wd hx
    exact .inr ⟨ns, hx, hw, hs, fun H' s => q H' t ns s (same_tup s ht) hw hs hn⟩
/-- worlds(program, names), all told: those in which the program agrees with itself -/
def okW (own : W) (S : List Rl) (t : W) : Bool := agreeI (S.map (numR own)) (num own t) (num own t)
end
end Rw
namespace Rw
open PySem PySem.Spec PyProof.Rows L2
/-! ### sets of worlds as numbers: the bit at i tells whether the world at i is in -/
def b01 (b : Bool) : Int := if b = true then 1 else 0
theorem b01_or (b : Bool) : b01 b = 0 ∨ b01 b = 1 := by cases b <;> simp [b01]
section
variable {α : Type}
def msk : List α → (α → Bool) → Int
  | [], _ => 0
  | w :: ws, p => b01 (p w) + 2 * msk ws p
theorem halvesA (c d : Bool) (x y : Int) : Builtin.bitAnd (b01 c + 2 * x) (b01 d + 2 * y) = b01 (c && d) + 2 * Builtin.bitAnd x y := by
  rw [PySem.W.kbt_halves]
  have hc := b01_or c
  have hd := b01_or d
  have e1 : (b01 c + 2 * x) / 2 = x := by omega
  have e2 : (b01 d + 2 * y) / 2 = y := by omega
  have e3 : (b01 c + 2 * x) % 2 = b01 c := by omega
  have e4 : (b01 d + 2 * y) % 2 = b01 d := by omega
  rw [e1, e2, e3, e4]
  cases c <;> cases d <;> simp [b01] <;> omega
theorem not_halves (c : Bool) (x : Int) : Builtin.bitNot (b01 c + 2 * x) = b01 (!c) + 2 * Builtin.bitNot x := by
  unfold Builtin.bitNot
  cases c <;> simp [b01] <;> omega
theorem halvesO (c d : Bool) (x y : Int) : Builtin.bitOr (b01 c + 2 * x) (b01 d + 2 * y) = b01 (c || d) + 2 * Builtin.bitOr x y := by
  unfold Builtin.bitOr
  rw [not_halves, not_halves, halvesA, not_halves]
  cases c <;> cases d <;> rfl
theorem msk_nn : ∀ (ws : List α) (p : α → Bool), 0 ≤ msk ws p
  | [], _ => Int.le_refl 0
  | w :: ws, p => by
    have h := msk_nn ws p
    have := b01_or (p w)
    unfold msk
    omega
theorem msk_and : ∀ (ws : List α) (p q : α → Bool), Builtin.bitAnd (msk ws p) (msk ws q) = msk ws fun w => p w && q w
  | [], _, _ => (by decide : Builtin.bitAnd 0 0 = 0)
  | w :: ws, p, q => by
    unfold msk
    rw [halvesA, msk_and ws p q]
theorem msk_diff : ∀ (ws : List α) (p q : α → Bool), Builtin.bitAnd (msk ws p) (Builtin.bitNot (msk ws q)) = msk ws fun w => p w && !q w
  | [], _, _ => (by decide : Builtin.bitAnd 0 (Builtin.bitNot 0) = 0)
  | w :: ws, p, q => by
    unfold msk
    rw [not_halves, halvesA, msk_diff ws p q]
theorem msk_or : ∀ (ws : List α) (p q : α → Bool), Builtin.bitOr (msk ws p) (msk ws q) = msk ws fun w => p w || q w
  | [], _, _ => (by decide : Builtin.bitOr 0 0 = 0)
  | w :: ws, p, q => by
    unfold msk
    rw [halvesO, msk_or ws p q]
theorem msk_all : ∀ ws : List α, (2 : Int) ^ ws.length - 1 = msk ws fun _ => true
  | [] => (by decide : (2 : Int) ^ 0 - 1 = 0)
  | w :: ws => by
    unfold msk
    rw [← msk_all ws, List.length_cons, Int.pow_succ]
    show (2 : Int) ^ ws.length * 2 - 1 = 1 + 2 * (2 ^ ws.length - 1)
    omega
theorem msk_none : ∀ ws : List α, msk ws (fun _ => false) = 0
  | [] => rfl
  | w :: ws => by
    unfold msk
    rw [msk_none ws]
    rfl
theorem msk_congr : ∀ {ws : List α} {p q : α → Bool}, (∀ w ∈ ws, p w = q w) → msk ws p = msk ws q
  | [], _, _, _ => rfl
  | w :: ws, p, q, h => by
    unfold msk
    rw [h w List.mem_cons_self, msk_congr fun x hx => h x (List.mem_cons_of_mem _ hx)]
theorem b01_inj {c d : Bool} (h : b01 c = b01 d) : c = d := by
  cases c <;> cases d <;> simp [b01] at h ⊢
theorem msk_eq : ∀ {ws : List α} {p q : α → Bool}, msk ws p = msk ws q ↔ ∀ w ∈ ws, p w = q w
  | [], _, _ => ⟨(fun _ _ z => nomatch z), fun _ => rfl⟩
  | w :: ws, p, q => by
    refine ⟨fun h => ?_, msk_congr⟩
    unfold msk at h
    have h1 := b01_or (p w)
    have h2 := b01_or (q w)
    have e1 : b01 (p w) = b01 (q w) := by omega
    have e2 : msk ws p = msk ws q := by omega
    intro x hx
    rcases List.mem_cons.mp hx with rfl | hx
    · exact b01_inj e1
    · exact msk_eq.mp e2 x hx
theorem msk_zero {ws : List α} {p : α → Bool} : msk ws p = 0 ↔ ∀ w ∈ ws, p w = false := by
  rw [← msk_none ws, msk_eq]
theorem msk_pos {ws : List α} {p : α → Bool} : 0 < msk ws p ↔ ∃ w ∈ ws, p w = true := by
  have nn := msk_nn ws p
  constructor
  · intro h
    refine Classical.byContradiction fun no => ?_
    have : msk ws p = 0 := msk_zero.mpr fun w hw => by
      cases e : p w with
      | false => rfl
      | true => exact absurd ⟨w, hw, e⟩ no
    omega
  · rintro ⟨w, hw, e⟩
    refine Classical.byContradiction fun no => ?_
    have z := msk_zero.mp (show msk ws p = 0 by omega) w hw
    rw [e] at z
    exact nomatch z
theorem msk_lt : ∀ (ws : List α) (p : α → Bool), msk ws p < 2 ^ ws.length
  | [], _ => (by decide : (0 : Int) < 1)
  | w :: ws, p => by
    have h := msk_lt ws p
    have := b01_or (p w)
    unfold msk
    rw [List.length_cons, Int.pow_succ]
    omega
/-- one world more -/
theorem msk_snoc : ∀ (ws : List α) (w : α) (p : α → Bool), msk (ws ++ [w]) p = msk ws p + (if p w = true then 2 ^ ws.length else 0)
  | [], w, p => by
    show b01 (p w) + 2 * 0 = 0 + _
    cases p w <;> simp [b01]
  | v :: ws, w, p => by
    rw [List.cons_append]
    unfold msk
    rw [msk_snoc ws w p, List.length_cons, Int.pow_succ]
    cases p w <;> simp <;> omega
theorem msk_orbit : ∀ (ws : List α) (p : α → Bool), Builtin.bitOr (msk ws p) (2 ^ ws.length) = msk ws p + 2 ^ ws.length
  | [], p => (by decide : Builtin.bitOr 0 1 = 0 + 1)
  | w :: ws, p => by
    have ih := msk_orbit ws p
    unfold msk
    rw [List.length_cons, Int.pow_succ]
    have e : (2 : Int) ^ ws.length * 2 = b01 false + 2 * 2 ^ ws.length := by simp [b01]; omega
    rw [e, halvesO, ih, Bool.or_false]
    simp [b01]
    omega
end
end Rw
namespace Rw
open PySem PySem.Spec PyProof.Rows L2
/-! ### _mark -/
theorem scMark : FnScope ["marks", "things", "bit", "thing"] ["marks", "things", "bit"] (defScope sMark) := ⟨rfl, rfl, rfl, by decide +kernel, rfl, by decide +kernel, by decide +kernel⟩
/-- a dict of numbers by names, by worlds -/
def MkS (H : Hp) (d : Addr) (n : Nat) (f : Str → Option Int) : Prop := ∃ kvs : List (Key × V), H d = some (.dK kvs) ∧ kvs.length ≤ n ∧ ∀ x : Str, valV kvs (.inr x) = (f x).map V.int
def MkT (H : Hp) (d : Addr) (n : Nat) (f : W → Option Int) : Prop := ∃ kvs : List (List Key × V), H d = some (.dT kvs) ∧ kvs.length ≤ n ∧ ∀ t : W, valV kvs (t.map Sum.inr) = (f t).map V.int
theorem keys_tup (t : W) : ((t.map Sum.inr : List Key).map kV) = t.map V.str := by
  rw [List.map_map]
  rfl
theorem inr_inj {a b : W} (h : (a.map Sum.inr : List Key) = b.map Sum.inr) : a = b := by
  have : Function.Injective (Sum.inr : Str → Key) := fun x y e => by injection e
  exact (List.map_inj_right fun x y e => this e).mp h
section
variable {P : Program} {w : World} {K : PySem.W.Frag} {mg : Str → Option Value} {base : Heap} {f : Addr} {fd : FuncData} {k : Nat}
def spMarkS (K : PySem.W.Frag) : Sp := fun vs H Q _ => ∃ (d a : Addr) (ns : W) (bit : Int) (n : Nat) (g : Str → Option Int), vs = [.ref d, .ref a, .int bit] ∧ MkS H d n g ∧ SqT K H a (ns.map V.str) ∧ ns.Nodup ∧ n + ns.length ≤ 400000 ∧
  ∀ H', (∀ b u, b ≠ d → H b = some u → H' b = some u) → MkS H' d (n + ns.length) (fun x => if x ∈ ns then some (Builtin.bitOr ((g x).getD 0) bit) else g x) → Q .non H'
theorem ok_markS (F : Fun K "_mark" "_mark" sMark f fd) : FnOk P w K mg base CX0 (k + 1) f fd ["marks", "things", "bit"] (spMarkS K) := by
  refine F.ok scMark (fun vs H Q E h => ?_) (fun cdv A outer s H vs Q E hr h => ?_)
  · obtain ⟨d, a, ns, bit, n, g, rfl, _⟩ := h
    rfl
  obtain ⟨d, a, ns, bit, n, g, rfl, hd, hT, nd, few, q⟩ := h
  have hu : (A.deeper (envOfC "_mark" (defScope sMark) s.heap.objs.size f cdv)).units + 1 < cLine := by have := hr.un; omega
  refine ⟨_, pss_one (ps_for PassesOwn.never rfl (pi_tup (pv 1)) (pg_name (i := 3) scMark.nd rfl (.inl rfl))
    (pss_one (ps_dput hu (pv 0) (pv 3) (pe_op op_or (pe_dget2 hu (pv 0) (pv 3) pe_int ⟨rfl, rfl, rfl, rfl⟩) (pv 2)) rfl))), ?_⟩
  let fi : Nat → Str → Option Int := fun i x => if x ∈ ns.take i then some (Builtin.bitOr ((g x).getD 0) bit) else g x
  have stay : ∀ H', (∀ b u, b ≠ d → H b = some u → H' b = some u) → SqT K H' a (ns.map V.str) := fun H' e => by
    obtain ⟨kvs, hk, _⟩ := hd
    have m : Mut (H d) := by rw [hk]; exact True.intro
    exact (Bar.stay (p := d) e m).seq hT
  refine ⟨.ref a, rfl, a, rfl, ⟨_, hT⟩, for_tup (xs := ns.map V.str) (fun i σ H1 => (∃ y3, σ = [some (.ref d), some (.ref a), some (.int bit), y3]) ∧ (∀ b u, b ≠ d → H b = some u → H1 b = some u) ∧ MkS H1 d (n + i) (fi i)) ⟨⟨_, rfl⟩, fun _ _ _ e => e, ?_⟩ (fun i σ H1 _ hI => stay _ hI.2.1) (fun i v σ H1 hv hI => ?_) (fun σ H1 hI => ?_)⟩
  · have e : fi 0 = g := by
      funext x
      show (if x ∈ ns.take 0 then _ else _) = _
      rw [if_neg (by simp)]
    rw [e]
    exact hd
  · obtain ⟨⟨y3, rfl⟩, keep, kvs, hk, hl, hv0⟩ := hI
    obtain ⟨z, hz, rfl⟩ := map_at hv
    have il : i < ns.length := (List.getElem?_eq_some_iff.mp hz).1
    have nz : z ∉ ns.take i := fun hm => by
      obtain ⟨j, hj, ej⟩ := List.mem_iff_getElem.mp hm
      rw [List.length_take] at hj
      rw [List.getElem_take] at ej
      have e3 : ns[j]? = some z := List.getElem?_eq_some_iff.mpr ⟨by omega, ej⟩
      have := nodup_ix nd e3 hz
      omega
    have vz : valV kvs (.inr z) = (g z).map V.int := by
      rw [hv0 z]
      show ((if z ∈ ns.take i then _ else _ : Option Int)).map _ = _
      rw [if_neg nz]
    refine ⟨.ref d, rfl, d, rfl, .inl ⟨kvs, .inl hk⟩, .str z, rfl, valV kvs (.inr z), DGet.k (k := .inr z) hk, ?_⟩
    have ev : (valV kvs (.inr z)).getD (V.int 0) = .int ((g z).getD 0) := by
      rw [vz]
      cases g z <;> rfl
    rw [ev]
    refine ⟨.int bit, rfl, (g z).getD 0, bit, rfl, rfl, .ref d, rfl, .str z, rfl, d, _, rfl, DPut.k (k := .inr z) hk (Nat.lt_of_le_of_lt (show kvs.length ≤ 400000 by omega) (by decide)), ⟨_, rfl⟩, fun b u nb e => ?_, _, upd_same, ?_, fun x => ?_⟩
    · rw [upd_ne nb]
      exact keep b u nb e
    · refine Nat.le_trans (length_putK _ _ _) ?_
      omega
    · have ef : fi (i + 1) x = if x ∈ ns.take i ++ [z] then some (Builtin.bitOr ((g x).getD 0) bit) else g x := by
        show (if x ∈ ns.take (i + 1) then _ else _) = _
        rw [take_snoc hz]
      rw [valV_put, ef]
      by_cases e : x = z
      · subst e
        rw [if_pos rfl, if_pos (by simp)]
        rfl
      · rw [if_neg (fun q => e (by injection q)), hv0 x]
        show ((if x ∈ ns.take i then _ else _ : Option Int)).map _ = _
        by_cases m : x ∈ ns.take i
        · rw [if_pos m, if_pos (by simp [m])]
        · rw [if_neg m, if_neg (by simp [m, e])]
  · obtain ⟨⟨y3, rfl⟩, keep, hM⟩ := hI
    rw [List.length_map] at hM
    have e : fi ns.length = fun x => if x ∈ ns then some (Builtin.bitOr ((g x).getD 0) bit) else g x := by
      funext x
      show (if x ∈ ns.take ns.length then _ else _) = _
      rw [List.take_length]
    rw [e] at hM
    exact q H1 keep hM
/-- one world marked -/
def spMarkT (K : PySem.W.Frag) : Sp := fun vs H Q _ => ∃ (d l : Addr) (y : V) (t : W) (bit : Int) (n : Nat) (g : W → Option Int), vs = [.ref d, .ref l, .int bit] ∧ MkT H d n g ∧ H l = some (.lst [y]) ∧ Tp H y t ∧ n + 1 ≤ 400000 ∧
  ∀ H', (∀ b u, b ≠ d → H b = some u → H' b = some u) → MkT H' d (n + 1) (fun x => if x = t then some (Builtin.bitOr ((g x).getD 0) bit) else g x) → Q .non H'
theorem ok_markT (F : Fun K "_mark" "_mark" sMark f fd) : FnOk P w K mg base CX0 (k + 1) f fd ["marks", "things", "bit"] (spMarkT K) := by
  refine F.ok scMark (fun vs H Q E h => ?_) (fun cdv A outer s H vs Q E hr h => ?_)
  · obtain ⟨d, l, y, t, bit, n, g, rfl, _⟩ := h
    rfl
  obtain ⟨d, l, y, t, bit, n, g, rfl, hd, hl, ⟨b, rfl, hb⟩, few, q⟩ := h
  have hu : (A.deeper (envOfC "_mark" (defScope sMark) s.heap.objs.size f cdv)).units + 1 < cLine := by have := hr.un; omega
  refine ⟨_, pss_one (ps_for PassesOwn.never rfl (pi_list (pv 1)) (pg_name (i := 3) scMark.nd rfl (.inl rfl))
    (pss_one (ps_dput hu (pv 0) (pv 3) (pe_op op_or (pe_dget2 hu (pv 0) (pv 3) pe_int ⟨rfl, rfl, rfl, rfl⟩) (pv 2)) rfl))), ?_⟩
  obtain ⟨kvs, hk, hlen, hv0⟩ := hd
  have nld : l ≠ d := fun z => by rw [z, hk] at hl; cases hl
  let H' : Hp := upd H d (.dT (putK kvs (t.map Sum.inr) (V.int (Builtin.bitOr ((g t).getD 0) bit))))
  have keep : ∀ b u, b ≠ d → H b = some u → H' b = some u := fun b u nb e => (upd_ne nb).trans e
  refine ⟨.ref l, rfl, l, rfl, ⟨_, SqL.of hl⟩, for_list (xs := [.ref b]) (fun i σ H1 => (∃ y3, σ = [some (.ref d), some (.ref l), some (.int bit), y3]) ∧ ((i = 0 ∧ H1 = H) ∨ (i = 1 ∧ H1 = H'))) ⟨⟨_, rfl⟩, .inl ⟨rfl, rfl⟩⟩ (fun i σ H1 _ hI => ?_) (fun i v σ H1 hv hI => ?_) (fun σ H1 hI => ?_)⟩
  · rcases hI.2 with ⟨_, rfl⟩ | ⟨_, rfl⟩
    · exact SqL.of hl
    · exact SqL.of (keep _ _ nld hl)
  · obtain ⟨⟨y3, rfl⟩, hc⟩ := hI
    have i0 : i = 0 := by
      have := (List.getElem?_eq_some_iff.mp hv).1
      rw [List.length_singleton] at this
      omega
    subst i0
    obtain rfl : v = .ref b := (Option.some.inj hv).symm
    have e1 : H1 = H := by
      rcases hc with ⟨_, e⟩ | ⟨e, _⟩
      · exact e
      · exact nomatch e
    subst e1
    have hb' : H1 b = some (.tup ((t.map Sum.inr : List Key).map kV)) := by rw [keys_tup]; exact hb
    refine ⟨.ref d, rfl, d, rfl, .inr ⟨kvs, .inl hk⟩, .ref b, rfl, valV kvs (t.map Sum.inr), DGet.t (k := t.map Sum.inr) hk hb', ?_⟩
    have ev : (valV kvs (t.map Sum.inr)).getD (V.int 0) = .int ((g t).getD 0) := by
      rw [hv0 t]
      cases g t <;> rfl
    rw [ev]
    exact ⟨.int bit, rfl, (g t).getD 0, bit, rfl, rfl, .ref d, rfl, .ref b, rfl, d, _, rfl, DPut.t (k := t.map Sum.inr) hk hb' (Nat.lt_of_le_of_lt (show kvs.length ≤ 400000 by omega) (by decide)), ⟨_, rfl⟩, .inr ⟨rfl, rfl⟩⟩
  · obtain ⟨⟨y3, rfl⟩, hc⟩ := hI
    have e1 : H1 = H' := by
      rcases hc with ⟨e, _⟩ | ⟨_, e⟩
      · exact nomatch e
      · exact e
    subst e1
    refine q H' keep ⟨_, upd_same, ?_, fun x => ?_⟩
    · refine Nat.le_trans (length_putK _ _ _) ?_
      omega
    · rw [valV_put]
      show _ = Option.map V.int (if x = t then some (Builtin.bitOr ((g x).getD 0) bit) else g x)
      by_cases e : x = t
      · subst e
        rw [if_pos rfl, if_pos rfl]
        rfl
      · rw [if_neg (fun q => e (inr_inj q)), if_neg e, hv0 x]
end
end Rw
namespace Rw
open PySem PySem.Spec PyProof.Rows L2
/-! ### the pairs of a program, walked -/
abbrev nPairs : List Str := ["program", "names", "chosen", "bits", "rows", "every", "models", "here", "low", "there", "high", "world"]
theorem scPairs : GScope nPairs ["program", "names"] (defScope sPairs) := ⟨rfl, rfl, rfl, by decide +kernel, rfl, by decide +kernel, by decide +kernel⟩
def PrT (H : Hp) (v : V) (p : W × W) : Prop := ∃ c y z, v = .ref c ∧ H c = some (.tup [y, z]) ∧ Tp H y p.1 ∧ Tp H z p.2
def PrAll (H : Hp) (xs : List V) (R : List (W × W)) : Prop := xs.length = R.length ∧ ∀ (i : Nat) (v : V), xs[i]? = some v → ∃ p, R[i]? = some p ∧ PrT H v p
theorem Tp.up {H H' : Hp} {y : V} {t : W} (h : Tp H y t) (e : Tups H H') : Tp H' y t := let ⟨b, q, r⟩ := h; ⟨b, q, e _ _ r⟩
theorem PrT.up {H H' : Hp} {v : V} {p : W × W} (h : PrT H v p) (e : Tups H H') : PrT H' v p := let ⟨c, y, z, q, r, s, t⟩ := h; ⟨c, y, z, q, e _ _ r, s.up e, t.up e⟩
theorem PrAll.up {H H' : Hp} {xs : List V} {R : List (W × W)} (h : PrAll H xs R) (e : Tups H H') : PrAll H' xs R := ⟨h.1, fun i v hv => let ⟨p, a, b⟩ := h.2 i v hv; ⟨p, a, b.up e⟩⟩
theorem PrAll.nil {H : Hp} : PrAll H [] [] := ⟨rfl, fun i v e => by simp at e⟩
theorem PrAll.snoc {H : Hp} {xs : List V} {R : List (W × W)} {v : V} {p : W × W} (h : PrAll H xs R) (hp : PrT H v p) : PrAll H (xs ++ [v]) (R ++ [p]) := by
  refine ⟨by rw [List.length_append, List.length_append, h.1]; rfl, fun i u hu => ?_⟩
  by_cases c : i < xs.length
  · rw [List.getElem?_append_left c] at hu
    obtain ⟨q, a, b⟩ := h.2 i u hu
    exact ⟨q, by rw [List.getElem?_append_left (by rw [← h.1]; exact c)]; exact a, b⟩
  · rw [List.getElem?_append_right (by omega)] at hu
    have i0 : i - xs.length = 0 := by
      have := (List.getElem?_eq_some_iff.mp hu).1
      rw [List.length_singleton] at this
      omega
    rw [i0] at hu
    obtain rfl : v = u := Option.some.inj hu
    exact ⟨p, by rw [List.getElem?_append_right (by rw [← h.1]; omega), ← h.1, i0]; rfl, hp⟩
/-- a world with its number -/
def NwT (own : W) (H : Hp) (v : V) (t : W) : Prop := ∃ c y, v = .ref c ∧ H c = some (.tup [y, .int (num own t)]) ∧ Tp H y t
def NwAll (own : W) (H : Hp) (xs : List V) (R : List W) : Prop := xs.length = R.length ∧ ∀ (i : Nat) (v : V), xs[i]? = some v → ∃ p, R[i]? = some p ∧ NwT own H v p
theorem NwT.up {own : W} {H H' : Hp} {v : V} {p : W} (h : NwT own H v p) (e : Tups H H') : NwT own H' v p := let ⟨c, y, q, r, s⟩ := h; ⟨c, y, q, e _ _ r, s.up e⟩
theorem NwAll.up {own : W} {H H' : Hp} {xs : List V} {R : List W} (h : NwAll own H xs R) (e : Tups H H') : NwAll own H' xs R := ⟨h.1, fun i v hv => let ⟨p, a, b⟩ := h.2 i v hv; ⟨p, a, b.up e⟩⟩
theorem NwAll.nil {own : W} {H : Hp} : NwAll own H [] [] := ⟨rfl, fun i v e => by simp at e⟩
theorem NwAll.snoc {own : W} {H : Hp} {xs : List V} {R : List W} {v : V} {p : W} (h : NwAll own H xs R) (hp : NwT own H v p) : NwAll own H (xs ++ [v]) (R ++ [p]) := by
  refine ⟨by rw [List.length_append, List.length_append, h.1]; rfl, fun i u hu => ?_⟩
  by_cases c : i < xs.length
  · rw [List.getElem?_append_left c] at hu
    obtain ⟨q, a, b⟩ := h.2 i u hu
    exact ⟨q, by rw [List.getElem?_append_left (by rw [← h.1]; exact c)]; exact a, b⟩
  · rw [List.getElem?_append_right (by omega)] at hu
    have i0 : i - xs.length = 0 := by
      have := (List.getElem?_eq_some_iff.mp hu).1
      rw [List.length_singleton] at this
      omega
    rw [i0] at hu
    obtain rfl : v = u := Option.some.inj hu
    exact ⟨p, by rw [List.getElem?_append_right (by rw [← h.1]; omega), ← h.1, i0]; rfl, hp⟩
/-- the pairs over own that agree -/
def inB (own : W) (S : List Rl) (h t : W) : Bool := !nz (Builtin.bitAnd (num own h) (Builtin.bitNot (num own t))) && agreeI (S.map (numR own)) (num own h) (num own t)
def rowB (own : W) (S : List Rl) (h : W) : List (W × W) := (((everyW own).filter (okW own S)).filter (inB own S h)).map fun t => (h, t)
def pairsB (own : W) (S : List Rl) : List (W × W) := (everyW own).flatMap (rowB own S)
section
variable {P : Program} {w : World} {K : PySem.W.Frag} {mg : Str → Option Value} {base : Heap} {f : Addr} {fd : FuncData} {k : Nat}
def spPairs (K : PySem.W.Frag) (C : Addr) : SpG := fun vs H Q _ => ∃ (v x : V) (S : List Rl) (bd : W), vs = [v, x] ∧ PgAt K C H v S ∧ (∀ r ∈ S, IsR r) ∧ S.length < 76 ∧ (∀ z ∈ namesL S, z ∈ bd) ∧ bd.length ≤ 7 ∧
  ((x = .non ∧ ∀ own, IsW own → (∀ z, z ∈ own ↔ z ∈ namesL S) → ∀ H' xs, Same H H' → PrAll H' xs (pairsB own S) → Q xs H') ∨
   ∃ ns, Dp K H x (wd ns) ∧ IsW ns ∧ ns.length ≤ 7 ∧ (∀ z ∈ namesL S, z ∈ ns) ∧ ∀ H' xs, Same H H' → PrAll H' xs (pairsB ns S) → Q xs H')
theorem ok_pairs {C f1 f2 f3 f4 f5 f6 : Addr} {fd1 fd2 fd3 fd4 fd5 fd6 : FuncData} (F : FunD K "pairs" "pairs" (defArgs sPairs) (defBody sPairs) (defScope sPairs) [.non] [] f fd)
    (G1 : FnOk P w K mg base CX0 k f1 fd1 ["program", "names"] (spChosenM K C)) (b1 : Binds K fd1 ["program", "names"] []) (k1 : PySem.W.keepIn K (.ref f1) = true) (m1 : mg "_chosen_names" = some (.ref f1))
    (G2 : FnOk P w K mg base CX0 k f2 fd2 ["names"] (spBitsOf K)) (b2 : Binds K fd2 ["names"] []) (k2 : PySem.W.keepIn K (.ref f2) = true) (m2 : mg "_bits_of" = some (.ref f2))
    (G3 : FnOk P w K mg base CX0 k f3 fd3 ["program", "bits"] (spNumbered K C)) (b3 : Binds K fd3 ["program", "bits"] []) (k3 : PySem.W.keepIn K (.ref f3) = true) (m3 : mg "_numbered" = some (.ref f3))
    (G4 : FnOk P w K mg base CX0 k f4 fd4 ["names"] (spEveryT K)) (b4 : Binds K fd4 ["names"] []) (k4 : PySem.W.keepIn K (.ref f4) = true) (m4 : mg "_every_world" = some (.ref f4))
    (G5 : FnOk P w K mg base CX0 k f5 fd5 ["world", "bits"] (spNumber K)) (b5 : Binds K fd5 ["world", "bits"] []) (k5 : PySem.W.keepIn K (.ref f5) = true) (m5 : mg "_number" = some (.ref f5))
    (G6 : FnOk P w K mg base CX0 k f6 fd6 ["rows", "here", "there"] (spAgree K)) (b6 : Binds K fd6 ["rows", "here", "there"] []) (k6 : PySem.W.keepIn K (.ref f6) = true) (m6 : mg "_agree" = some (.ref f6)) :
    CFn P w K mg base (k + 1) f fd ["program", "names"] (spPairs K C) := by
  obtain ⟨oc, od, dV, kV, doc, pm, an, cdv, ct, osl, rfl, lk, hcd, _, _⟩ := F.ex
  refine cfn_of (N := nPairs) lk hcd scPairs (fun vs H Q E h => ?_) (fun A outer s H vs Q E pn hr h => ?_)
  · obtain ⟨v, x, S, bd, rfl, _⟩ := h
    rfl
  obtain ⟨v, x, S, bd, rfl, hS, hI, few, hbd, lbd, h⟩ := h
  refine ⟨_, css_cons (cs_ps (ps_set (i := 2) scPairs.nd rfl (.inl rfl) (pe_call G1 hr (by rfl) m1 k1 b1 .nil pass0 (pa_cons (pv 0) (pa_cons (pv 1) pa_nil)))))
    (css_cons (cs_ps (ps_set (i := 3) scPairs.nd rfl (.inr rfl) (pe_call G2 hr (by rfl) m2 k2 b2 .nil pass0 (pa_cons (pv 2) pa_nil))))
    (css_cons (cs_ps (ps_set (i := 4) scPairs.nd rfl (.inr rfl) (pe_call G3 hr (by rfl) m3 k3 b3 .nil pass0 (pa_cons (pv 0) (pa_cons (pv 3) pa_nil)))))
    (css_cons (cs_ps (ps_setLc (i := 5) (own := [("world", 11)]) (g := gName 11) (te := tTup (tCons (tVar 11) (tCons (tCall (spNumber K) [] E0 (tCons (tVar 11) (tCons (tVar 3) tNil))) tNil))) (by rfl) scPairs.nd rfl rfl (sw_true rfl rfl rfl (by decide +kernel)) (pi_list (pe_call G4 hr (by rfl) m4 k4 b4 .nil pass0 (pa_cons (pv 2) pa_nil))) (blkOk_by (N := nPairs) (sc := defScope sPairs) (by decide +kernel))
        (fun _ _ _ _ _ => pg_name (i := 11) scPairs.nd rfl (Or.inl rfl)) (fun _ _ _ _ _ => pts_nil) (fun _ _ _ _ _ => pe_tup (pa_cons (pv 11) (pa_cons (pe_call G5 hr (by rfl) m5 k5 b5 .nil pass0 (pa_cons (pv 11) (pa_cons (pv 3) pa_nil))) pa_nil)))))
    (css_cons (cs_ps (ps_setLc (i := 6) (own := [("there", 9), ("high", 10)]) (g := gTup K 2 (gCons (gName 9) (gCons (gName 10) gNil))) (tt := tB (tCall (spAgree K) [] E0 (tCons (tVar 4) (tCons (tVar 10) (tCons (tVar 10) tNil))))) (te := tTup (tCons (tVar 9) (tCons (tVar 10) tNil))) (by rfl) scPairs.nd rfl rfl (sw_true rfl rfl rfl (by decide +kernel)) (pi_list (pv 5)) (blkOk_by (N := nPairs) (sc := defScope sPairs) (by decide +kernel))
        (fun _ _ _ _ _ => pg_tup (by rfl) (pgs_cons (pg_name (i := 9) scPairs.nd rfl (.inl rfl)) (pgs_cons (pg_name (i := 10) scPairs.nd rfl (.inl rfl)) pgs_nil))) (fun _ _ _ _ _ => pts_one (pt_val (pe_call G6 hr (by rfl) m6 k6 b6 .nil pass0 (pa_cons (pv 4) (pa_cons (pv 10) (pa_cons (pv 10) pa_nil)))))) (fun _ _ _ _ _ => pe_tup (pa_cons (pv 9) (pa_cons (pv 10) pa_nil)))))
    (css_cons (cs_for owns_gcx rfl (pi_list (pv 5)) (pg_tup (by rfl) (pgs_cons (pg_name (i := 7) scPairs.nd rfl (.inl rfl)) (pgs_cons (pg_name (i := 8) scPairs.nd rfl (.inl rfl)) pgs_nil)))
      (css_cons (cs_for owns_gcx rfl (pi_list (pv 6)) (pg_tup (by rfl) (pgs_cons (pg_name (i := 9) scPairs.nd rfl (.inl rfl)) (pgs_cons (pg_name (i := 10) scPairs.nd rfl (.inl rfl)) pgs_nil)))
        (css_cons (cs_if (PW.pt (pw_and (pt_not (pt_truth (pe_op op_and (pv 8) (pe_un un_inv (pv 10))) (by intro _; rfl))) (pw_and1 (pt_val (pe_call G6 hr (by rfl) m6 k6 b6 .nil pass0 (pa_cons (pv 4) (pa_cons (pv 8) (pa_cons (pv 10) pa_nil)))))))) (css_cons (cs_yield (pe_tup (pa_cons (pv 7) (pa_cons (pv 9) pa_nil)))) css_nil) css_nil) css_nil)) css_nil)) css_nil))))), ?_⟩
  obtain ⟨av, dx, t0, ys0, rfl, i1, i2, i3⟩ := id hS
  refine ⟨.ref av, rfl, x, rfl, ?_⟩
  dsimp only [tNil]
  refine ⟨.ref av, x, S, bd, (fun ns => ns.length ≤ 7 ∧ ∀ H' xs, Same H H' → PrAll H' xs (pairsB ns S) → Q xs H'), rfl, hS, hI, hbd, by omega, ?_, fun H1 tx ns s1 htx hw hsub hns => ?_⟩
  · rcases h with ⟨e, q⟩ | ⟨ns, h1, h2, h3, h4, q⟩
    · exact .inl ⟨e, fun ns hw hm => ⟨Nat.le_trans (few_own hw hm hbd) lbd, q ns hw hm⟩⟩
    · exact .inr ⟨ns, h1, h2, h4, h3, q⟩
  obtain ⟨l7, q⟩ := hns
  have nd := upX_nodup hw.up
  refine ⟨.ref tx, rfl, ?_⟩
  dsimp only [tNil]
  refine ⟨tx, ns, rfl, htx, nd, by omega, fun H2 D s2 hDn hD => ?_⟩
  refine ⟨.ref av, rfl, .ref D, rfl, ?_⟩
  dsimp only [tNil]
  have s12 := s1.trans s2
  refine ⟨.ref av, D, S, ns, rfl, hS.same s12, hI, few, hD, nd, fun H3 l s3 hln hl => ?_⟩
  have s13 := s12.trans s3
  have hD3 := s3 _ _ hD
  refine ⟨.ref tx, rfl, ?_⟩
  dsimp only [tNil]
  refine ⟨tx, ns, rfl, same_tup (s2.trans s3) htx, by omega, fun H4 lw s4 hlwn hlw => ?_⟩
  obtain ⟨ys4, hl4, hys4⟩ := id hlw
  have s14 := s13.trans s4
  have y4 : ys4.length = (everyW ns).length := hys4.len
  have el : (everyW ns).length ≤ 128 := by
    rw [every_len]
    exact Nat.le_trans (Nat.pow_le_pow_right (by decide) l7) (by decide)
  have hD4 := s4 _ _ hD3
  -- every
  refine ⟨lw, rfl, ⟨_, SqL.of hl4⟩, fun De hDe => ?_⟩
  refine lc_list (xs := ys4) (fun i H5 => Same H4 H5 ∧ ∃ zs, H5 De = some (.lst zs) ∧ NwAll ns H5 zs ((everyW ns).take i)) ⟨same_new hDe _, [], upd_same, .nil⟩ (fun i H5 _ h => SqL.of (h.1 _ _ hl4)) (fun i u H5 hu h => ?_) (fun H5 h => ?_)
  · obtain ⟨s5, zs, hd, hz⟩ := h
    obtain ⟨t, ht, hut⟩ := hys4.at' hu
    have tsub := mem_every.mp (List.mem_of_getElem? ht)
    have il : i < ys4.length := (List.getElem?_eq_some_iff.mp hu).1
    have hu5 : Tp H5 u t := hut.up (Tups.of s5)
    refine ⟨rfl, u, rfl, u, rfl, .ref D, rfl, u, D, t, ns, rfl, hu5.wd, s5 _ _ hD4, nd, nd.sublist tsub, by have := tsub.length_le; omega, fun H6 s6 => ?_⟩
    refine ⟨by show 2 ≤ sizeLine; decide, fun T0 hT0 => ?_⟩
    have s7 := same_new hT0 (.tup [u, .int (num ns t)])
    have s67 := s6.trans s7
    have hd7 := s67 _ _ hd
    have g7 := Tups.put (o := .lst (zs ++ [.ref T0])) hd7
    have gA := (Tups.of s67).trans g7
    refine ⟨zs, hd7, small_line' (by rw [hz.1, List.length_take]; omega), same_put (s5.trans s67) hDe, zs ++ [.ref T0], upd_same, ?_⟩
    rw [take_snoc ht]
    exact (hz.up gA).snoc ⟨T0, u, rfl, g7 _ _ upd_same, hu5.up gA⟩
  obtain ⟨s5, zs, hd5, hz⟩ := h
  rw [y4, List.take_length] at hz
  have zl := hz.1
  -- models
  refine ⟨.ref De, rfl, De, rfl, ⟨_, SqL.of hd5⟩, fun Dm hDm => ?_⟩
  have hl5 := hl.same (s4.trans s5)
  refine lc_list (xs := zs) (fun i H6 => Same H5 H6 ∧ ∃ us, H6 Dm = some (.lst us) ∧ NwAll ns H6 us (((everyW ns).take i).filter (okW ns S))) ⟨same_new hDm _, [], upd_same, .nil⟩ (fun i H6 _ h => SqL.of (h.1 _ _ hd5)) (fun i u H6 hu h => ?_) (fun H6 h => ?_)
  · obtain ⟨s6, us, hd, hus⟩ := h
    obtain ⟨t, ht, c, y, rfl, hc, hy⟩ := hz.2 i u hu
    have hc6 := s6 _ _ hc
    have ul : us.length ≤ 128 := by
      rw [hus.1]
      have := List.length_filter_le (okW ns S) ((everyW ns).take i)
      rw [List.length_take] at this
      omega
    have et : ((everyW ns).take (i + 1)).filter (okW ns S) = ((everyW ns).take i).filter (okW ns S) ++ (if okW ns S t = true then [t] else []) := filt_take ht
    refine ⟨c, [y, .int (num ns t)], rfl, SqT.of hc6, rfl, y, _, rfl, _, [], rfl, rfl, rfl, ?_⟩
    refine ⟨.ref l, rfl, .int (num ns t), rfl, .int (num ns t), rfl, l, num ns t, num ns t, S.map (numR ns), rfl, hl5.same s6, _, rfl, ite2 (fun e => ?_) (fun e => ?_)⟩
    · refine ⟨y, rfl, .int (num ns t), rfl, by show 2 ≤ sizeLine; decide, fun T0 hT0 => ?_⟩
      have s7 := same_new hT0 (.tup [y, .int (num ns t)])
      have hd7 := s7 _ _ hd
      have g7 := Tups.put (o := .lst (us ++ [.ref T0])) hd7
      have gA := (Tups.of s7).trans g7
      refine ⟨us, hd7, small_line' (by omega), same_put (s6.trans s7) hDm, us ++ [.ref T0], upd_same, ?_⟩
      rw [et, if_pos (show okW ns S t = true from e)]
      exact (hus.up gA).snoc ⟨T0, y, rfl, g7 _ _ upd_same, (hy.up (Tups.of s6)).up gA⟩
    · refine ⟨s6, us, hd, ?_⟩
      rw [et, if_neg (show ¬ okW ns S t = true from e), List.append_nil]
      exact hus
  obtain ⟨s6, us, hd6, hus⟩ := h
  rw [zl, List.take_length] at hus
  have hz6 := hz.up (Tups.of s6)
  have s16 := s14.trans (s5.trans s6)
  have hl6 := hl5.same s6
  have ul : us.length ≤ 128 := by
    rw [hus.1]
    have := List.length_filter_le (okW ns S) (everyW ns)
    omega
  have short : ∀ L : List W, L.length ≤ 128 → (L.flatMap (rowB ns S)).length ≤ 128 * 128 := by
    have z : ∀ (L : List W), (L.flatMap (rowB ns S)).length ≤ L.length * 128 := by
      intro L
      induction L with
      | nil => simp
      | cons h L ih =>
        rw [List.flatMap_cons, List.length_append, List.length_cons]
        have : (rowB ns S h).length ≤ 128 := by
          unfold rowB
          rw [List.length_map]
          refine Nat.le_trans (List.length_filter_le _ _) ?_
          rw [← hus.1]
          exact ul
        omega
    exact fun L hL => Nat.le_trans (z L) (Nat.mul_le_mul_right _ hL)
  -- for here, low in every
  refine ⟨.ref De, rfl, De, rfl, ⟨_, SqL.of (s6 _ _ hd5)⟩, for_listG (xs := zs) (fun i ys σ H7 => (∃ y7 y8 y9 y10, σ = [some (.ref av), some x, some (.ref tx), some (.ref D), some (.ref l), some (.ref De), some (.ref Dm), y7, y8, y9, y10, none]) ∧ Same H6 H7 ∧ PrAll H7 ys (((everyW ns).take i).flatMap (rowB ns S))) ⟨⟨_, _, _, _, rfl⟩, fun _ _ e => e, .nil⟩ (fun i ys σ H7 _ hI => SqL.of (hI.2.1 _ _ (s6 _ _ hd5))) (fun i u ys σ H7 hu hI => ?_) (fun ys σ H7 hI => ?_)⟩
  · obtain ⟨⟨y7, y8, y9, y10, rfl⟩, sm, hys⟩ := hI
    obtain ⟨h, hh, c, y, rfl, hc, hy⟩ := hz6.2 i u hu
    refine ⟨c, [y, .int (num ns h)], rfl, SqT.of (sm _ _ hc), rfl, y, _, rfl, _, [], rfl, rfl, ?_⟩
    have hy7 := hy.up (Tups.of sm)
    -- for there, high in models
    refine ⟨.ref Dm, rfl, Dm, rfl, ⟨_, SqL.of (sm _ _ hd6)⟩, for_listG (xs := us) (fun j ys' σ H8 => (∃ y9 y10, σ = [some (.ref av), some x, some (.ref tx), some (.ref D), some (.ref l), some (.ref De), some (.ref Dm), some y, some (.int (num ns h)), y9, y10, none]) ∧ Same H7 H8 ∧ PrAll H8 ys' (((everyW ns).take i).flatMap (rowB ns S) ++ (((((everyW ns).filter (okW ns S)).take j).filter (inB ns S h)).map fun t => (h, t)))) ⟨⟨_, _, rfl⟩, fun _ _ e => e, by simpa using hys⟩ (fun j ys' σ H8 _ hJ => SqL.of ((sm.trans hJ.2.1) _ _ hd6)) (fun j u' ys' σ H8 hu' hJ => ?_) (fun ys' σ H8 hJ => ?_)⟩
    · obtain ⟨⟨y9', y10', rfl⟩, s8, hys'⟩ := hJ
      obtain ⟨t, ht, c', y', rfl, hc', hy'⟩ := hus.2 j u' hu'
      have sm8 := sm.trans s8
      refine ⟨c', [y', .int (num ns t)], rfl, SqT.of (sm8 _ _ hc'), rfl, y', _, rfl, _, [], rfl, rfl, ?_⟩
      have hy8 := hy7.up (Tups.of s8)
      have hy8' := hy'.up (Tups.of sm8)
      have ln : ys'.length < sizeLine := by
        rw [hys'.1, List.length_append, List.length_map]
        have a1 := short ((everyW ns).take i) (by rw [List.length_take]; omega)
        have a2 := List.length_filter_le (inB ns S h) (((everyW ns).filter (okW ns S)).take j)
        rw [List.length_take, ← hus.1] at a2
        rw [sizeLine_eq]
        omega
      have ft : ((((everyW ns).filter (okW ns S)).take (j + 1)).filter (inB ns S h)) = ((((everyW ns).filter (okW ns S)).take j).filter (inB ns S h)) ++ (if inB ns S h t = true then [t] else []) := filt_take ht
      have no : inB ns S h t = false → PrAll H8 ys' (((everyW ns).take i).flatMap (rowB ns S) ++ (((((everyW ns).filter (okW ns S)).take (j + 1)).filter (inB ns S h)).map fun t => (h, t))) := fun e => by
        rw [ft, e, if_neg (by decide), List.append_nil]
        exact hys'
      refine ⟨.int (num ns h), rfl, .int (num ns t), rfl, num ns t, rfl, _, _, rfl, rfl, nz (Builtin.bitAnd (num ns h) (Builtin.bitNot (num ns t))), rfl, ite2 (fun e => ?_) (fun e => ?_)⟩
      · have e0 : nz (Builtin.bitAnd (num ns h) (Builtin.bitNot (num ns t))) = false := by simpa using e
        refine ⟨.ref l, rfl, .int (num ns h), rfl, .int (num ns t), rfl, ?_⟩
        dsimp only [tNil]
        refine ⟨l, num ns h, num ns t, S.map (numR ns), rfl, hl6.same (sm.trans s8), _, rfl, ite2 (fun e2 => ?_) (fun e2 => ?_)⟩
        · have e3 : inB ns S h t = true := by
            unfold inB
            rw [e0, e2]
            rfl
          refine ⟨ln, y, rfl, y', rfl, by show 2 ≤ sizeLine; decide, fun T0 hT0 => ?_⟩
          have s9 := same_new hT0 (.tup [y, y'])
          refine ⟨⟨_, _, rfl⟩, s8.trans s9, ?_⟩
          rw [ft, if_pos e3, List.map_append, ← List.append_assoc]
          exact (hys'.up (Tups.of s9)).snoc ⟨T0, y, y', rfl, upd_same, hy8.up (Tups.of s9), hy8'.up (Tups.of s9)⟩
        · refine ⟨⟨_, _, rfl⟩, s8, no ?_⟩
          unfold inB
          rw [Bool.eq_false_iff.mpr e2, Bool.and_false]
      · have e0 : nz (Builtin.bitAnd (num ns h) (Builtin.bitNot (num ns t))) = true := by simpa using e
        refine iteF ⟨⟨_, _, rfl⟩, s8, no ?_⟩
        unfold inB
        rw [e0]
        rfl
    · obtain ⟨⟨y9', y10', rfl⟩, s8, hys'⟩ := hJ
      refine ⟨⟨_, _, _, _, rfl⟩, sm.trans s8, ?_⟩
      rw [take_snoc hh, List.flatMap_append, List.flatMap_singleton]
      rw [hus.1, List.take_length] at hys'
      exact hys'
  · obtain ⟨⟨y7, y8, y9, y10, rfl⟩, sm, hys⟩ := hI
    rw [zl, List.take_length] at hys
    exact q H7 ys (s16.trans sm) hys
end
end Rw
namespace Rw
open PySem PySem.Spec PyProof.Rows L2
theorem for_enumL {K : PySem.W.Frag} {a : Addr} {xs : List V} {g : TG} {tb : TS} {D : Ends} {σ : L2.St} {H : Hp} (Pv : Nat → L2.St → Hp → Prop) (h0 : Pv 0 σ H) (hl : ∀ i σ H, i ≤ xs.length → Pv i σ H → SqL K H a xs)
    (hs : ∀ i x σ H T, xs[i]? = some x → Pv i σ H → H T = none → g (.ref T) σ (upd H T (.tup [.int (i : Int), x])) fun σ2 H2 => tb { nx := Pv (i + 1), rt := D.rt, bk := D.nx, ct := Pv (i + 1) } σ2 H2) (hd : ∀ σ H, Pv xs.length σ H → D.nx σ H) :
    ∃ W : Nat → Nat → L2.St → Hp → Prop, (∃ m, W 0 m σ H) ∧ ∀ i m σ H, W i m σ H → ((Ite K a).stop i H ∧ D.nx σ H) ∨ ((Ite K a).go i H ∧ ∃ N : L2.St → Hp → Prop, (∀ σ' H', N σ' H' → ∃ m', m' < m ∧ W (i + 1) m' σ' H') ∧
      ∀ x H', (Ite K a).yld i H x H' → g x σ H' fun σ2 H2 => tb { nx := N, rt := D.rt, bk := D.nx, ct := N } σ2 H2) := by
  refine ⟨fun i m σ H => m = xs.length - i ∧ i ≤ xs.length ∧ Pv i σ H, ⟨xs.length, by simp, Nat.zero_le _, h0⟩, ?_⟩
  rintro i m σ H ⟨rfl, hi, p⟩
  have hS := hl i σ H hi p
  by_cases hlt : i < xs.length
  · refine .inr ⟨⟨xs, xs[i], hS, List.getElem?_eq_getElem hlt⟩, Pv (i + 1), fun σ' H' p' => ⟨xs.length - (i + 1), by omega, rfl, hlt, p'⟩, fun y H' yy => ?_⟩
    obtain ⟨T, x, rfl, hT, rfl, hx⟩ := yy
    exact hs i x σ H T (hx xs hS) p hT
  · have e : i = xs.length := by omega
    subst e
    exact .inl ⟨⟨xs, hS, Nat.le_refl _⟩, hd σ H p⟩
/-! ### Table -/
theorem scTabInit : FnScope ["self", "chosen", "place", "here", "there", "bit"] ["self", "chosen"] (defScope sTabInit) := ⟨rfl, rfl, rfl, by decide +kernel, rfl, by decide +kernel, by decide +kernel⟩
/-- a dict that tells a number by each name -/
def MkV (H : Hp) (d : Addr) (n : Nat) (v : Str → Int) : Prop := ∃ g, MkS H d n g ∧ ∀ x, (g x).getD 0 = v x
def TabAt (CT : Addr) (H : Hp) (v : V) (R : List (W × W)) : Prop := ∃ a dx d1 d2 fs, v = .ref a ∧ H a = some (.ins CT dx fs) ∧ fs.lookup ("every" : Str) = some (V.int (2 ^ R.length - 1)) ∧ fs.lookup ("_here" : Str) = some (V.ref d1) ∧ fs.lookup ("_there" : Str) = some (V.ref d2) ∧ (fs.lookup ("_unmet" : Str) = none ∧ fs.lookup ("against" : Str) = none) ∧
  MkV H d1 400000 (fun x => msk R fun p => decide (x ∈ p.1)) ∧ MkV H d2 400000 fun x => msk R fun p => decide (x ∈ p.2)
/-- the worlds of the pairs that are one world twice -/
def dgT (R : List (W × W)) : List W := (R.filter fun p => decide (p.1 = p.2)).map (·.2)
def ownE (R : List (W × W)) : List (List Key × V) := (dgT R).map fun t => (t.map Sum.inr, V.int (msk R fun p => decide (p = (t, t))))
/-- the pairs about a world -/
def aroF (R : List (W × W)) (t : W) : Option Int := if t ∈ R.map (·.2) then some (msk R fun p => decide (p.2 = t)) else none
def OwnAt (CT : Addr) (H : Hp) (v : V) (R : List (W × W)) : Prop := ∃ a dx d3 d4 fs, v = .ref a ∧ H a = some (.ins CT dx fs) ∧ fs.lookup ("_own" : Str) = some (V.ref d3) ∧ fs.lookup ("_around" : Str) = some (V.ref d4) ∧ fs.lookup ("alone" : Str) = none ∧ d3 ≠ d4 ∧
  H d3 = some (.dT (ownE R)) ∧ MkT H d4 400000 (aroF R)
theorem TabAt.same {CT : Addr} {H H1 : Hp} {v : V} {R : List (W × W)} (h : TabAt CT H v R) (s : Same H H1) : TabAt CT H1 v R := by
  obtain ⟨a, dx, d1, d2, fs, rfl, hi, l1, l2, l3, l4, ⟨g1, ⟨k1, e1, f1⟩, v1⟩, g2, ⟨k2, e2, f2⟩, v2⟩ := h
  exact ⟨a, dx, d1, d2, fs, rfl, s _ _ hi, l1, l2, l3, l4, ⟨g1, ⟨k1, s _ _ e1, f1⟩, v1⟩, g2, ⟨k2, s _ _ e2, f2⟩, v2⟩
theorem OwnAt.same {CT : Addr} {H H1 : Hp} {v : V} {R : List (W × W)} (h : OwnAt CT H v R) (s : Same H H1) : OwnAt CT H1 v R := by
  obtain ⟨a, dx, d3, d4, fs, rfl, hi, l1, l2, l3, nd, e1, kvs, e2, f⟩ := h
  exact ⟨a, dx, d3, d4, fs, rfl, s _ _ hi, l1, l2, l3, nd, s _ _ e1, kvs, s _ _ e2, f⟩
theorem nodup_at {α : Type} {N : List α} (hN : N.Nodup) {i j : Nat} {x : α} (a : N[i]? = some x) (b : N[j]? = some x) : i = j := by
  obtain ⟨h1, e1⟩ := List.getElem?_eq_some_iff.mp a
  obtain ⟨h2, e2⟩ := List.getElem?_eq_some_iff.mp b
  rcases Nat.lt_trichotomy i j with h | h | h
  · exact absurd (e1.trans e2.symm) ((List.pairwise_iff_getElem.mp hN) i j h1 h2 h)
  · exact h
  · exact absurd (e2.trans e1.symm) ((List.pairwise_iff_getElem.mp hN) j i h2 h1 h)
theorem dgT_snoc (R : List (W × W)) (p : W × W) : dgT (R ++ [p]) = dgT R ++ if p.1 = p.2 then [p.2] else [] := by
  unfold dgT
  rw [List.filter_append, List.map_append]
  by_cases e : p.1 = p.2
  · simp [e]
  · simp [e]
theorem mem_dgT {R : List (W × W)} {t : W} : t ∈ dgT R ↔ (t, t) ∈ R := by
  unfold dgT
  constructor
  · intro h
    obtain ⟨⟨a, b⟩, hp, rfl⟩ := List.mem_map.mp h
    obtain ⟨h1, h2⟩ := List.mem_filter.mp hp
    have e : a = b := of_decide_eq_true h2
    subst e
    exact h1
  · exact fun h => List.mem_map.mpr ⟨_, List.mem_filter.mpr ⟨h, decide_eq_true rfl⟩, rfl⟩
theorem putK_new {α : Type} [DecidableEq α] {kvs : List (α × V)} {k : α} {v : V} (h : k ∉ kvs.map (·.1)) : putK kvs k v = kvs ++ [(k, v)] := by
  unfold putK
  split
  · rename_i e
    exfalso
    simp at e
    obtain ⟨x, hx⟩ := e
    exact h (List.mem_map.mpr ⟨_, hx, rfl⟩)
  · rfl
/-- one pair more -/
theorem own_snoc {R : List (W × W)} {p : W × W} (nd : p ∉ R) : ownE (R ++ [p]) = if p.1 = p.2 then putK (ownE R) (p.2.map Sum.inr) (V.int (2 ^ R.length)) else ownE R := by
  have old : (dgT R).map (fun t => ((t.map Sum.inr : List Key), V.int (msk (R ++ [p]) fun q => decide (q = (t, t))))) = ownE R := by
    unfold ownE
    refine List.map_congr_left fun t ht => ?_
    rw [msk_snoc, if_neg (fun e => nd (by rw [of_decide_eq_true e]; exact mem_dgT.mp ht)), Int.add_zero]
  by_cases e : p.1 = p.2
  · have ep : p = (p.2, p.2) := Prod.ext e rfl
    rw [if_pos e, putK_new]
    · unfold ownE
      rw [dgT_snoc, if_pos e, List.map_append, old]
      refine congrArg _ ?_
      show [((p.2.map Sum.inr : List Key), V.int (msk (R ++ [p]) fun q => decide (q = (p.2, p.2))))] = _
      have z : (msk R fun q => decide (q = (p.2, p.2))) = 0 := msk_zero.mpr fun q hq => decide_eq_false fun eq => nd (by rw [ep, ← eq]; exact hq)
      rw [msk_snoc, if_pos (decide_eq_true ep), z, Int.zero_add]
    · intro h
      unfold ownE at h
      rw [List.map_map] at h
      obtain ⟨t, ht, et⟩ := List.mem_map.mp h
      have : t = p.2 := inr_inj et
      subst this
      exact nd (by rw [ep]; exact mem_dgT.mp ht)
  · rw [if_neg e]
    unfold ownE
    rw [dgT_snoc, if_neg e, List.append_nil]
    exact old
theorem aro_snoc {R : List (W × W)} {p : W × W} (x : W) : aroF (R ++ [p]) x = if x = p.2 then some (Builtin.bitOr ((aroF R x).getD 0) (2 ^ R.length)) else aroF R x := by
  unfold aroF
  rw [List.map_append]
  by_cases e : x = p.2
  · subst e
    rw [if_pos rfl, if_pos (by simp), msk_snoc, if_pos (decide_eq_true rfl), ← msk_orbit]
    by_cases m : p.2 ∈ R.map (·.2)
    · rw [if_pos m]
      rfl
    · rw [if_neg m]
      have z : (msk R fun q => decide (q.2 = p.2)) = 0 := msk_zero.mpr fun q hq => decide_eq_false fun eq => m (by rw [← eq]; exact List.mem_map.mpr ⟨q, hq, rfl⟩)
      rw [z]
      rfl
  · rw [if_neg e, show (msk (R ++ [p]) fun q => decide (q.2 = x)) = msk R fun q => decide (q.2 = x) from by rw [msk_snoc, if_neg (fun z => e (of_decide_eq_true z).symm), Int.add_zero]]
    by_cases m : x ∈ R.map (·.2)
    · rw [if_pos m, if_pos (List.mem_append_left _ m)]
    · rw [if_neg m, if_neg (by simp at m; simp [m, e])]
theorem putF_len (f : Str) (v : V) : ∀ fs : List (Str × V), (putF f v fs).length ≤ fs.length + 1
  | [] => Nat.le_refl _
  | (g, x) :: r => by
    unfold putF
    split
    · exact Nat.le_succ _
    · exact Nat.succ_le_succ (putF_len f v r)
/-- the table half made: its fields and its dicts -/
structure Tb (CT x dx : Addr) (H0 H : Hp) (fs : List (Str × V)) (ds : List Addr) : Prop where
  ins : H x = some (.ins CT dx fs)
  keep : ∀ b u, b ≠ x → H0 b = some u → H b = some u
  old : ∀ b ∈ ds, H0 b = none ∧ b ≠ x ∧ ∃ u, H b = some u
  nd : ds.Nodup
theorem Tb.put {CT x dx : Addr} {H0 H : Hp} {fs : List (Str × V)} {ds : List Addr} (h : Tb CT x dx H0 H fs ds) (hx : H0 x ≠ none) {d : Addr} (hd : H d = none) (o : HO) (f : Str) :
    (upd H d o) x = some (.ins CT dx fs) ∧ Tb CT x dx H0 (upd (upd H d o) x (.ins CT dx (putF f (.ref d) fs))) (putF f (.ref d) fs) (d :: ds) ∧ (upd (upd H d o) x (.ins CT dx (putF f (.ref d) fs))) d = some o ∧ ∀ b ∈ ds, (upd (upd H d o) x (.ins CT dx (putF f (.ref d) fs))) b = H b := by
  have nxd : x ≠ d := fun z => by rw [← z, h.ins] at hd; cases hd
  have e1 : (upd H d o) x = some (.ins CT dx fs) := (upd_ne nxd).trans h.ins
  have hd0 : H0 d = none := by
    cases e : H0 d with
    | none => rfl
    | some u =>
      rw [h.keep d u nxd.symm e] at hd
      cases hd
  have old : ∀ b ∈ ds, (upd (upd H d o) x (.ins CT dx (putF f (.ref d) fs))) b = H b := fun b hb => by
    obtain ⟨_, nb, u, hu⟩ := h.old b hb
    rw [upd_ne nb, upd_ne (fun z => by rw [z, hd] at hu; cases hu)]
  have at_ : (upd (upd H d o) x (.ins CT dx (putF f (.ref d) fs))) d = some o := by
    rw [upd_ne nxd.symm]
    exact upd_same
  refine ⟨e1, ⟨upd_same, fun b u nb e => ?_, fun b hb => ?_, List.nodup_cons.mpr ⟨fun hb => ?_, h.nd⟩⟩, at_, old⟩
  · have hb := h.keep b u nb e
    rw [upd_ne nb, upd_ne (fun z => by rw [z, hd] at hb; cases hb)]
    exact hb
  · rcases List.mem_cons.mp hb with rfl | hb
    · exact ⟨hd0, nxd.symm, _, at_⟩
    · obtain ⟨g1, g2, u, g3⟩ := h.old b hb
      exact ⟨g1, g2, u, (old b hb).trans g3⟩
  · obtain ⟨_, _, u, hu⟩ := h.old d hb
    rw [hd] at hu
    cases hu
theorem MkS.go {H H' : Hp} {d : Addr} {n : Nat} {g : Str → Option Int} (h : MkS H d n g) (e : ∀ u, H d = some u → H' d = some u) : MkS H' d n g := by
  obtain ⟨kvs, h1, h2⟩ := h
  exact ⟨kvs, e _ h1, h2⟩
theorem MkV.go {H H' : Hp} {d : Addr} {n : Nat} {v : Str → Int} (h : MkV H d n v) (e : ∀ u, H d = some u → H' d = some u) : MkV H' d n v := by
  obtain ⟨g, h1, h2⟩ := h
  exact ⟨g, h1.go e, h2⟩
theorem MkT.go {H H' : Hp} {d : Addr} {n : Nat} {g : W → Option Int} (h : MkT H d n g) (e : ∀ u, H d = some u → H' d = some u) : MkT H' d n g := by
  obtain ⟨kvs, h1, h2⟩ := h
  exact ⟨kvs, e _ h1, h2⟩
theorem MkV.le {H : Hp} {d : Addr} {n m : Nat} {v : Str → Int} (h : MkV H d n v) (l : n ≤ m) : MkV H d m v := by
  obtain ⟨g, ⟨kvs, h1, h2, h3⟩, h4⟩ := h
  exact ⟨g, ⟨kvs, h1, Nat.le_trans h2 l, h3⟩, h4⟩
/-- one pair more is marked -/
theorem mark_more {R : List (W × W)} {i : Nat} {p : W × W} (hp : R[i]? = some p) (sel : W × W → W) {g : Str → Option Int} (hg : ∀ x, (g x).getD 0 = msk (R.take i) fun q => decide (x ∈ sel q)) (x : Str) :
    ((if x ∈ sel p then some (Builtin.bitOr ((g x).getD 0) (2 ^ i)) else g x).getD 0) = msk (R.take (i + 1)) fun q => decide (x ∈ sel q) := by
  have il : i < R.length := (List.getElem?_eq_some_iff.mp hp).1
  have tl : (R.take i).length = i := by rw [List.length_take]; omega
  rw [take_snoc hp, msk_snoc, tl]
  by_cases m : x ∈ sel p
  · rw [if_pos m, if_pos (decide_eq_true m)]
    show Builtin.bitOr ((g x).getD 0) (2 ^ i) = _
    rw [hg x]
    have z := msk_orbit (R.take i) fun q => decide (x ∈ sel q)
    rw [tl] at z
    exact z
  · rw [if_neg m, if_neg (by simp [m]), hg x, Int.add_zero]
structure NoTab (K : PySem.W.Frag) (CT : Addr) : Prop where
  c : Cls K CT
  n1 : NoAttr K CT "every"
  n2 : NoAttr K CT "_here"
  n3 : NoAttr K CT "_there"
  n4 : NoAttr K CT "_own"
  n5 : NoAttr K CT "_around"
section
variable {P : Program} {w : World} {K : PySem.W.Frag} {mg : Str → Option Value} {base : Heap} {f : Addr} {fd : FuncData} {k : Nat}
def spTabInit (K : PySem.W.Frag) (CT : Addr) : Sp := fun vs H Q _ => ∃ (x dx l : Addr) (xs : List V) (R : List (W × W)), vs = [.ref x, .ref l] ∧ H x = some (.ins CT dx []) ∧ H l = some (.lst xs) ∧ PrAll H xs R ∧ (∀ p ∈ R, IsW p.1 ∧ IsW p.2 ∧ p.1.length ≤ 10 ∧ p.2.length ≤ 10) ∧ R.Nodup ∧ R.length ≤ 20000 ∧
  ∀ H', (∀ b u, b ≠ x → H b = some u → H' b = some u) → TabAt CT H' (.ref x) R → OwnAt CT H' (.ref x) R → Q .non H'
theorem ok_tabInit {CT f1 : Addr} {fd1 : FuncData} (F : Fun K "__init__" "Table.__init__" sTabInit f fd) (T : Bl mg) (N : NoTab K CT)
    (G1 : FnOk P w K mg base CX0 k f1 fd1 ["marks", "things", "bit"] (spMarkS K)) (G2 : FnOk P w K mg base CX0 k f1 fd1 ["marks", "things", "bit"] (spMarkT K)) (b1 : Binds K fd1 ["marks", "things", "bit"] []) (k1 : PySem.W.keepIn K (.ref f1) = true) (m1 : mg "_mark" = some (.ref f1)) :
    FnOk P w K mg base CX0 (k + 1) f fd ["self", "chosen"] (spTabInit K CT) := by
  refine F.ok scTabInit (fun vs H Q E h => ?_) (fun cdv A outer s H vs Q E hr h => ?_)
  · obtain ⟨x, dx, l, xs, R, rfl, _⟩ := h
    rfl
  obtain ⟨x, dx, l, xs, R, rfl, hx, hl, hR, hW, ndR, few, q⟩ := h
  have hu : (A.deeper (envOfC "Table.__init__" (defScope sTabInit) s.heap.objs.size f cdv)).units + 1 < cLine := by have := hr.un; omega
  refine ⟨_, pss_cons (ps_fld (pv 0) (pe_op op_sub (pe_op op_shl pe_int (pe_callB call_len_seq (by rfl) T.len PySem.boot_len (pa_cons (pv 1) pa_nil))) pe_int) rfl)
    (pss_cons (ps_fld (pv 0) pe_dnewK rfl)
    (pss_cons (ps_fld (pv 0) pe_dnewK rfl)
    (pss_cons (ps_fld (pv 0) pe_dnewT rfl)
    (pss_cons (ps_fld (pv 0) pe_dnewT rfl)
    (pss_one (ps_for PassesOwn.never rfl (pi_enum (by rfl) T.enum (pa_cons (pv 1) pa_nil)) (pg_tup (by rfl) (pgs_cons (pg_name (i := 2) scTabInit.nd rfl (.inl rfl)) (pgs_cons (pg_tup (by rfl) (pgs_cons (pg_name (i := 3) scTabInit.nd rfl (.inl rfl)) (pgs_cons (pg_name (i := 4) scTabInit.nd rfl (.inl rfl)) pgs_nil))) pgs_nil)))
      (pss_cons (ps_set (i := 5) scTabInit.nd rfl (.inl rfl) (pe_op op_shl pe_int (pv 2)))
      (pss_cons (ps_expr (pe_call G1 hr (by rfl) m1 k1 b1 .nil pass0 (pa_cons (pe_fld (pv 0) rfl) (pa_cons (pv 3) (pa_cons (pv 5) pa_nil)))))
      (pss_cons (ps_expr (pe_call G1 hr (by rfl) m1 k1 b1 .nil pass0 (pa_cons (pe_fld (pv 0) rfl) (pa_cons (pv 4) (pa_cons (pv 5) pa_nil)))))
      (pss_cons (ps_expr (pe_call G2 hr (by rfl) m1 k1 b1 .nil pass0 (pa_cons (pe_fld (pv 0) rfl) (pa_cons (pe_lst (pa_cons (pv 4) pa_nil)) (pa_cons (pv 5) pa_nil)))))
      (pss_one (ps_if (pt_cmpR (op_eqD hr.units) (pv 3) (pv 4) (nomark _)) (pss_one (ps_dput hu (pe_fld (pv 0) rfl) (pv 4) (pv 5) rfl)) pss_nil)))))))))))), ?_⟩
  have xl := hR.1
  have nlx : l ≠ x := fun z => by rw [z, hx] at hl; cases hl
  refine ⟨.ref l, rfl, l, xs, rfl, .inl (SqL.of hl), 1, (xs.length : Int), rfl, rfl, ⟨by omega, by omega, by decide⟩, _, 1, rfl, rfl, .ref x, rfl, x, CT, dx, _, rfl, hx, N.c, N.n1, by show 0 < 1000; decide, fun d1 hd1 => ?_⟩
  let ev : V := .int ((1 : Int) * 2 ^ ((xs.length : Int)).toNat - 1)
  have hx0 : H x ≠ none := by rw [hx]; exact fun z => nomatch z
  have b0 : Tb CT x dx H (upd H x (.ins CT dx (putF "every" ev []))) (putF "every" ev []) [] := ⟨upd_same, fun b u nb e => (upd_ne nb).trans e, (fun _ z => nomatch z), List.nodup_nil⟩
  obtain ⟨p1, c1, h1, o1⟩ := b0.put hx0 hd1 (.dK []) "_here"
  have l0 : (putF "every" ev []).length ≤ 1 := putF_len _ _ _
  have l1 := putF_len "_here" (.ref d1) (putF "every" ev [])
  refine ⟨.ref x, rfl, x, CT, dx, _, rfl, p1, N.c, N.n2, by omega, fun d2 hd2 => ?_⟩
  obtain ⟨p2, c2, h2, o2⟩ := c1.put hx0 hd2 (.dK []) "_there"
  have l2 := putF_len "_there" (.ref d2) (putF "_here" (.ref d1) (putF "every" ev []))
  refine ⟨.ref x, rfl, x, CT, dx, _, rfl, p2, N.c, N.n3, by omega, fun d3 hd3 => ?_⟩
  obtain ⟨p3, c3, h3, o3⟩ := c2.put hx0 hd3 (.dT []) "_own"
  have l3 := putF_len "_own" (.ref d3) (putF "_there" (.ref d2) (putF "_here" (.ref d1) (putF "every" ev [])))
  refine ⟨.ref x, rfl, x, CT, dx, _, rfl, p3, N.c, N.n4, by omega, fun d4 hd4 => ?_⟩
  obtain ⟨p4, c4, h4, o4⟩ := c3.put hx0 hd4 (.dT []) "_around"
  refine ⟨.ref x, rfl, x, CT, dx, _, rfl, p4, N.c, N.n5, by omega, ?_⟩
  let F5 : List (Str × V) := putF "_around" (.ref d4) (putF "_own" (.ref d3) (putF "_there" (.ref d2) (putF "_here" (.ref d1) (putF "every" ev []))))
  have g1 := (o4 d1 (by simp)).trans ((o3 d1 (by simp)).trans ((o2 d1 (by simp)).trans h1))
  have g2 := (o4 d2 (by simp)).trans ((o3 d2 (by simp)).trans h2)
  have g3 := (o4 d3 (by simp)).trans h3
  have lk : ∀ f : Str, F5.lookup f = if f = "_around" then some (.ref d4) else if f = "_own" then some (.ref d3) else if f = "_there" then some (.ref d2) else if f = "_here" then some (.ref d1) else if f = "every" then some ev else none := fun f => by
    show (putF _ _ _).lookup f = _
    rw [lookup_putF, lookup_putF, lookup_putF, lookup_putF, lookup_putF]
    rfl
  have k1_ : F5.lookup ("every" : Str) = some (.int (2 ^ R.length - 1)) := by
    rw [lk]
    show some (V.int ((1 : Int) * 2 ^ ((xs.length : Int)).toNat - 1)) = _
    rw [Int.one_mul, xl]
    rfl
  have k2_ : F5.lookup ("_here" : Str) = some (.ref d1) := by rw [lk]; rfl
  have k3_ : F5.lookup ("_there" : Str) = some (.ref d2) := by rw [lk]; rfl
  have k4_ : F5.lookup ("_own" : Str) = some (.ref d3) := by rw [lk]; rfl
  have k5_ : F5.lookup ("_around" : Str) = some (.ref d4) := by rw [lk]; rfl
  have hl5 := c4.keep l _ nlx hl
  obtain ⟨i5, keep5, old5, nd5⟩ := c4
  have i5 : _ = some (HO.ins CT dx F5) := i5
  clear p1 p2 p3 p4 c1 c2 c3 h1 h2 h3 o1 o2 o3 o4 b0 hd1 hd2 hd3 hd4
  generalize hHH : (upd (upd _ d4 (HO.dT [])) x (HO.ins CT dx (putF "_around" (V.ref d4) _)) : Hp) = H5 at i5 keep5 old5 g1 g2 g3 h4 hl5 ⊢
  have n1x : d1 ≠ x := (old5 d1 (by simp)).2.1
  have n2x : d2 ≠ x := (old5 d2 (by simp)).2.1
  have n3x : d3 ≠ x := (old5 d3 (by simp)).2.1
  have n4x : d4 ≠ x := (old5 d4 (by simp)).2.1
  have n12 : d1 ≠ d2 := by rintro rfl; simp at nd5
  have n13 : d1 ≠ d3 := by rintro rfl; simp at nd5
  have n14 : d1 ≠ d4 := by rintro rfl; simp at nd5
  have n23 : d2 ≠ d3 := by rintro rfl; simp at nd5
  have n24 : d2 ≠ d4 := by rintro rfl; simp at nd5
  have n34 : d3 ≠ d4 := by rintro rfl; simp at nd5
  let Kp : Hp → Prop := fun H6 => ∀ b u, b ≠ x → H b = some u → H6 b = some u
  let J : Nat → Hp → Prop := fun i H6 => H6 x = some (.ins CT dx F5) ∧ MkV H6 d1 (10 * i) (fun z => msk (R.take i) fun p => decide (z ∈ p.1)) ∧ MkV H6 d2 (10 * i) (fun z => msk (R.take i) fun p => decide (z ∈ p.2)) ∧ H6 d3 = some (.dT (ownE (R.take i))) ∧ MkT H6 d4 i (aroF (R.take i)) ∧ Kp H6
  have nil : ∀ (kvs : List (Key × V)), kvs = [] → ∀ x : Str, valV kvs (.inr x) = ((fun _ : Str => (none : Option Int)) x).map V.int := fun _ e _ => by rw [e]; rfl
  have kn : ∀ d, H d = none → ∀ H6 H7 : Hp, Kp H6 → (∀ b u, b ≠ d → H6 b = some u → H7 b = some u) → Kp H7 := fun d hd H6 H7 k e b u nb eb => e b u (fun z => by rw [z, hd] at eb; cases eb) (k b u nb eb)
  refine ⟨.ref l, rfl, l, xs, rfl, SqL.of hl5, for_enumL (xs := xs) (fun i σ H6 => (∃ y2 y3 y4 y5, σ = [some (.ref x), some (.ref l), y2, y3, y4, y5]) ∧ J i H6) ⟨⟨_, _, _, _, rfl⟩, i5, ⟨_, ⟨[], g1, Nat.zero_le _, nil _ rfl⟩, fun _ => rfl⟩, ⟨_, ⟨[], g2, Nat.zero_le _, nil _ rfl⟩, fun _ => rfl⟩, g3, ⟨[], h4, Nat.zero_le _, fun _ => rfl⟩, keep5⟩ (fun i σ H6 _ hI => SqL.of (hI.2.2.2.2.2.2 l _ nlx hl)) (fun i v σ H6 T0 hv hI hT => ?_) (fun σ H6 hI => ?_)⟩
  · obtain ⟨⟨y2, y3, y4, y5, rfl⟩, hx6, m1_, m2_, m3_, m4_, kp⟩ := hI
    obtain ⟨p, hp, c, y, z, rfl, hc, ⟨a1, rfl, ha1⟩, ⟨a2, rfl, ha2⟩⟩ := hR.2 i v hv
    obtain ⟨w1, w2, len1, len2⟩ := hW p (List.mem_of_getElem? hp)
    have il : i < R.length := (List.getElem?_eq_some_iff.mp hp).1
    have ntx : ∀ b us, H b = some (.tup us) → b ≠ x := fun b us e z => by rw [z, hx] at e; cases e
    have tup6 : ∀ b us, H b = some (.tup us) → H6 b = some (.tup us) := fun b us e => kp b _ (ntx b us e) e
    have sT := same_new hT (.tup [.int (i : Int), .ref c])
    have hd1 := (old5 d1 (by simp)).1
    have hd2 := (old5 d2 (by simp)).1
    have hd3 := (old5 d3 (by simp)).1
    have hd4 := (old5 d4 (by simp)).1
    refine ⟨T0, [.int (i : Int), .ref c], rfl, SqT.of upd_same, rfl, .int (i : Int), [.ref c], rfl, .ref c, [], rfl, c, [.ref a1, .ref a2], rfl, SqT.of (sT _ _ (tup6 _ _ hc)), rfl, .ref a1, [.ref a2], rfl, .ref a2, [], rfl, rfl, rfl, ?_⟩
    refine ⟨.int (i : Int), rfl, 1, (i : Int), rfl, rfl, ⟨by omega, by omega, by decide⟩, ?_⟩
    have eb : ((1 : Int) * 2 ^ ((i : Int)).toNat) = 2 ^ i := by rw [Int.one_mul]; rfl
    let bt : Int := (1 : Int) * 2 ^ ((i : Int)).toNat
    obtain ⟨u1, s1_, v1_⟩ := m1_
    obtain ⟨u2, s2_, v2_⟩ := m2_
    have kpT : Kp (upd H6 T0 (.tup [.int (i : Int), .ref c])) := fun b u nb e => sT _ _ (kp b u nb e)
    -- _mark(self._here, here, bit)
    refine ⟨.ref x, rfl, x, CT, dx, F5, .ref d1, rfl, sT _ _ hx6, N.c, N.n2, k2_, .ref a1, rfl, .int bt, rfl, ?_⟩
    dsimp only [tNil]
    refine ⟨d1, a1, p.1, bt, 10 * i, u1, rfl, s1_.go fun u e => sT _ _ e, SqT.of (kpT _ _ (ntx _ _ ha1) ha1), upX_nodup w1.up, by omega, fun H7 e7 mk7 => ?_⟩
    have kp7 := kn d1 hd1 _ _ kpT e7
    have hx7 := e7 x _ n1x.symm (sT _ _ hx6)
    -- _mark(self._there, there, bit)
    refine ⟨.ref x, rfl, x, CT, dx, F5, .ref d2, rfl, hx7, N.c, N.n3, k3_, .ref a2, rfl, .int bt, rfl, ?_⟩
    dsimp only [tNil]
    refine ⟨d2, a2, p.2, bt, 10 * i, u2, rfl, s2_.go fun u e => e7 d2 _ n12.symm (sT _ _ e), SqT.of (kp7 _ _ (ntx _ _ ha2) ha2), upX_nodup w2.up, by omega, fun H8 e8 mk8 => ?_⟩
    have kp8 := kn d2 hd2 _ _ kp7 e8
    have hx8 := e8 x _ n2x.symm hx7
    -- _mark(self._around, [there], bit)
    refine ⟨.ref x, rfl, x, CT, dx, F5, .ref d4, rfl, hx8, N.c, N.n5, k5_, .ref a2, rfl, by show 1 ≤ sizeLine; decide, fun l9 hl9 => ⟨.int bt, rfl, ?_⟩⟩
    dsimp only [tNil]
    have s9 := same_new hl9 (.lst [.ref a2])
    have kp8' : Kp (upd H8 l9 (.lst [.ref a2])) := fun b u nb e => s9 _ _ (kp8 b u nb e)
    refine ⟨d4, l9, .ref a2, p.2, bt, i, aroF (R.take i), rfl, m4_.go fun u e => s9 _ _ (e8 d4 _ n24.symm (e7 d4 _ n14.symm (sT _ _ e))), upd_same, ⟨a2, rfl, kp8' _ _ (ntx _ _ ha2) ha2⟩, by omega, fun H9 e9 mk9 => ?_⟩
    have kp9 := kn d4 hd4 _ _ kp8' e9
    have hx9 := e9 x _ n4x.symm (s9 _ _ hx8)
    have m3_9 : H9 d3 = some (.dT (ownE (R.take i))) := e9 d3 _ n34 (s9 _ _ (e8 d3 _ n23.symm (e7 d3 _ n13.symm (sT _ _ m3_))))
    have tl : (R.take i).length = i := by rw [List.length_take]; omega
    have pn : p ∉ R.take i := fun hm => by
      obtain ⟨j, hj, ej⟩ := List.mem_iff_getElem.mp hm
      rw [List.length_take] at hj
      rw [List.getElem_take] at ej
      have e3 : R[j]? = some p := List.getElem?_eq_some_iff.mpr ⟨by omega, ej⟩
      have := nodup_at ndR e3 hp
      omega
    have m4_9 : MkT H9 d4 (i + 1) (aroF (R.take (i + 1))) := by
      have e : aroF (R.take (i + 1)) = fun x => if x = p.2 then some (Builtin.bitOr ((aroF (R.take i) x).getD 0) bt) else aroF (R.take i) x := by
        funext x
        rw [take_snoc hp, aro_snoc x, tl, show bt = 2 ^ i from eb]
      rw [e]
      exact mk9
    have o9 := own_snoc pn
    rw [← take_snoc hp, tl] at o9
    have m1_9 : MkV H9 d1 (10 * (i + 1)) (fun z => msk (R.take (i + 1)) fun q => decide (z ∈ q.1)) := by
      refine MkV.le (n := 10 * i + p.1.length) ⟨_, mk7.go fun u e => e9 d1 _ n14 (s9 _ _ (e8 d1 _ n12 e)), fun z => ?_⟩ (by omega)
      show (if z ∈ p.1 then some (Builtin.bitOr ((u1 z).getD 0) bt) else u1 z).getD 0 = _
      rw [show bt = 2 ^ i from eb]
      exact mark_more hp (·.1) v1_ z
    have m2_9 : MkV H9 d2 (10 * (i + 1)) (fun z => msk (R.take (i + 1)) fun q => decide (z ∈ q.2)) := by
      refine MkV.le (n := 10 * i + p.2.length) ⟨_, mk8.go fun u e => e9 d2 _ n24 (s9 _ _ e), fun z => ?_⟩ (by omega)
      show (if z ∈ p.2 then some (Builtin.bitOr ((u2 z).getD 0) bt) else u2 z).getD 0 = _
      rw [show bt = 2 ^ i from eb]
      exact mark_more hp (·.2) v2_ z
    -- if here == there
    refine ⟨.ref a1, rfl, .ref a2, rfl, wd p.1, wd p.2, to_wd (SqT.of (kp9 _ _ (ntx _ _ ha1) ha1)), to_wd (SqT.of (kp9 _ _ (ntx _ _ ha2) ha2)), shaped_wd w1, shaped_wd w2, _, rfl, ite2 (fun _ => ?_) (fun _ => ?_)⟩
    · rename_i e12
      have e12' : p.1 = p.2 := by simpa [eqv_wd] using e12
      rw [if_pos e12'] at o9
      have hb9 : H9 a2 = some (.tup ((p.2.map Sum.inr : List Key).map kV)) := by
        rw [keys_tup]
        exact kp9 _ _ (ntx _ _ ha2) ha2
      let HA : Hp := upd H9 d3 (.dT (putK (ownE (R.take i)) (p.2.map Sum.inr) (V.int bt)))
      have eA : ∀ b u, b ≠ d3 → H9 b = some u → HA b = some u := fun b u nb e => (upd_ne nb).trans e
      refine ⟨.int bt, rfl, .ref x, rfl, x, CT, dx, F5, .ref d3, rfl, hx9, N.c, N.n4, k4_, .ref a2, rfl, d3, HA, rfl, DPut.t (k := p.2.map Sum.inr) m3_9 hb9 (Nat.lt_of_le_of_lt (show (ownE (R.take i)).length ≤ 400000 by unfold ownE dgT; rw [List.length_map, List.length_map]; have := List.length_filter_le (fun p : W × W => decide (p.1 = p.2)) (R.take i); omega) (by decide)), ?_⟩
      refine ⟨⟨_, _, _, _, rfl⟩, eA x _ n3x.symm hx9, m1_9.go fun u e => eA d1 _ n13 e, m2_9.go fun u e => eA d2 _ n23 e, ?_, m4_9.go fun u e => eA d4 _ n34.symm e, kn d3 hd3 _ _ kp9 eA⟩
      rw [o9]
      show (upd H9 d3 _) d3 = _
      rw [upd_same, show bt = 2 ^ i from eb]
    · rename_i e12
      have e12' : ¬ p.1 = p.2 := by simpa [eqv_wd] using e12
      rw [if_neg e12'] at o9
      exact ⟨⟨_, _, _, _, rfl⟩, hx9, m1_9, m2_9, by rw [o9]; exact m3_9, m4_9, kp9⟩
  · obtain ⟨⟨y2, y3, y4, y5, rfl⟩, hx6, m1, m2, m3, ⟨kv4, m4, m4l, m4v⟩, kp⟩ := hI
    rw [xl, List.take_length] at m1 m2 m3
    rw [xl] at m4l
    rw [xl, List.take_length] at m4v
    exact q H6 kp ⟨x, dx, d1, d2, F5, rfl, hx6, k1_, k2_, k3_, ⟨by rw [lk]; rfl, by rw [lk]; rfl⟩, m1.le (by omega), m2.le (by omega)⟩
      ⟨x, dx, d3, d4, F5, rfl, hx6, k4_, k5_, by rw [lk]; rfl, n34, m3, kv4, m4, by omega, m4v⟩
end
end Rw
namespace Rw
open PySem PySem.Spec PyProof.Rows L2
/-! ### against, _unmet -/
abbrev nUnmet : List Str := ["self", "row", "asked", "heads", "denied", "needs", "bars", "unmet", "name"]
theorem scAgainst : FnScope ["self", "row"] ["self", "row"] (defScope sAgainst) := ⟨rfl, rfl, rfl, by decide +kernel, rfl, by decide +kernel, by decide +kernel⟩
theorem scUnmet : FnScope nUnmet ["self", "row", "asked"] (defScope sUnmet) := ⟨rfl, rfl, rfl, by decide +kernel, rfl, by decide +kernel, by decide +kernel⟩
/-- what a rule is unmet by, its names asked for by sel -/
def unB (sel : W × W → W) (r : Rl) (p : W × W) : Bool := r.2.2.1.all (fun x => decide (x ∈ sel p)) && r.2.1.all (fun x => decide (x ∈ p.2)) && r.1.all (fun x => !decide (x ∈ sel p)) && r.2.2.2.all fun x => !decide (x ∈ p.2)
theorem MkV.get {H : Hp} {d : Addr} {n : Nat} {v : Str → Int} (h : MkV H d n v) : ∃ kvs : List (Key × V), H d = some (.dK kvs) ∧ ∀ z : Str, (valV kvs (.inr z)).getD (V.int 0) = .int (v z) := by
  obtain ⟨g, ⟨kvs, h1, _, h3⟩, h4⟩ := h
  refine ⟨kvs, h1, fun z => ?_⟩
  rw [h3 z, ← h4 z]
  cases g z <;> rfl
theorem all_snoc {ns : W} {i : Nat} {z : Str} {q : Str → Bool} (h : ns[i]? = some z) : (ns.take (i + 1)).all q = ((ns.take i).all q && q z) := by
  rw [take_snoc h, List.all_append, List.all_cons, List.all_nil, Bool.and_true]
section
variable {P : Program} {w : World} {K : PySem.W.Frag} {mg : Str → Option Value} {base : Heap} {f : Addr} {fd : FuncData} {k : Nat}
def spUnmet (K : PySem.W.Frag) (CT : Addr) : Sp := fun vs H Q _ => ∃ (v x : V) (d : Addr) (R : List (W × W)) (r : Rl) (sel : W × W → W), vs = [v, x, .ref d] ∧ TabAt CT H v R ∧ Dp K H x (rd r) ∧ IsR r ∧ MkV H d 400000 (fun x => msk R fun p => decide (x ∈ sel p)) ∧
  ∀ H', Same H H' → Q (.int (msk R (unB sel r))) H'
theorem ok_unmet {CT : Addr} (F : Fun K "_unmet" "Table._unmet" sUnmet f fd) (N : NoTab K CT) : FnOk P w K mg base CX0 (k + 1) f fd ["self", "row", "asked"] (spUnmet K CT) := by
  refine F.ok scUnmet (fun vs H Q E h => ?_) (fun cdv A outer s H vs Q E hr h => ?_)
  · obtain ⟨v, x, d, R, r, sel, rfl, _⟩ := h
    rfl
  obtain ⟨v, x, d, R, r, sel, rfl, ⟨a, dx, d1, d2, fs, rfl, hi, l1, l2, l3, ⟨l4, l5⟩, m1, m2⟩, hx, hI, hd, q⟩ := h
  have hu : (A.deeper (envOfC "Table._unmet" (defScope sUnmet) s.heap.objs.size f cdv)).units + 1 < cLine := by have := hr.un; omega
  refine ⟨_, pss_cons (ps_asg (pv 1) (pg_tup (by rfl) (pgs_cons (pg_name (i := 3) scUnmet.nd rfl (.inl rfl)) (pgs_cons (pg_name (i := 4) scUnmet.nd rfl (.inl rfl)) (pgs_cons (pg_name (i := 5) scUnmet.nd rfl (.inl rfl)) (pgs_cons (pg_name (i := 6) scUnmet.nd rfl (.inl rfl)) pgs_nil))))))
    (pss_cons (ps_set (i := 7) scUnmet.nd rfl (.inl rfl) (pe_fld (pv 0) rfl))
    (pss_cons (ps_for PassesOwn.never rfl (pi_tup (pv 5)) (pg_name (i := 8) scUnmet.nd rfl (.inl rfl)) (pss_one (ps_set (i := 7) scUnmet.nd rfl (.inl rfl) (pe_op op_and (pv 7) (pe_dget2 hu (pv 2) (pv 8) pe_int ⟨rfl, rfl, rfl, rfl⟩)))))
    (pss_cons (ps_for PassesOwn.never rfl (pi_tup (pv 4)) (pg_name (i := 8) scUnmet.nd rfl (.inl rfl)) (pss_one (ps_set (i := 7) scUnmet.nd rfl (.inl rfl) (pe_op op_and (pv 7) (pe_dget2 hu (pe_fld (pv 0) rfl) (pv 8) pe_int ⟨rfl, rfl, rfl, rfl⟩)))))
    (pss_cons (ps_for PassesOwn.never rfl (pi_tup (pv 3)) (pg_name (i := 8) scUnmet.nd rfl (.inl rfl)) (pss_one (ps_set (i := 7) scUnmet.nd rfl (.inl rfl) (pe_op op_and (pv 7) (pe_un un_inv (pe_dget2 hu (pv 2) (pv 8) pe_int ⟨rfl, rfl, rfl, rfl⟩))))))
    (pss_cons (ps_for PassesOwn.never rfl (pi_tup (pv 6)) (pg_name (i := 8) scUnmet.nd rfl (.inl rfl)) (pss_one (ps_set (i := 7) scUnmet.nd rfl (.inl rfl) (pe_op op_and (pv 7) (pe_un un_inv (pe_dget2 hu (pe_fld (pv 0) rfl) (pv 8) pe_int ⟨rfl, rfl, rfl, rfl⟩))))))
    (pss_one (ps_ret (pv 7)))))))), ?_⟩
  obtain ⟨b0, v1, v2, v3, v4, rfl, hT, h1, h2, h3, h4⟩ := of_rd hx
  obtain ⟨a1, rfl, t1⟩ := of_wd h1
  obtain ⟨a2, rfl, t2⟩ := of_wd h2
  obtain ⟨a3, rfl, t3⟩ := of_wd h3
  obtain ⟨a4, rfl, t4⟩ := of_wd h4
  obtain ⟨kd, hkd, gd⟩ := hd.get
  obtain ⟨kt, hkt, gt⟩ := m2.get
  refine ⟨.ref b0, rfl, b0, _, rfl, hT, rfl, _, _, rfl, _, _, rfl, _, _, rfl, _, [], rfl, rfl, ?_⟩
  refine ⟨.ref a, rfl, a, CT, dx, fs, _, rfl, hi, N.c, N.n1, l1, ?_⟩
  have e0 : (2 : Int) ^ R.length - 1 = msk R fun _ => true := msk_all R
  rw [e0]
  let q1 : Nat → W × W → Bool := fun i p => (r.2.2.1.take i).all fun x => decide (x ∈ sel p)
  let q2 : Nat → W × W → Bool := fun i p => r.2.2.1.all (fun x => decide (x ∈ sel p)) && (r.2.1.take i).all fun x => decide (x ∈ p.2)
  let q3 : Nat → W × W → Bool := fun i p => r.2.2.1.all (fun x => decide (x ∈ sel p)) && r.2.1.all (fun x => decide (x ∈ p.2)) && (r.1.take i).all fun x => !decide (x ∈ sel p)
  let q4 : Nat → W × W → Bool := fun i p => r.2.2.1.all (fun x => decide (x ∈ sel p)) && r.2.1.all (fun x => decide (x ∈ p.2)) && r.1.all (fun x => !decide (x ∈ sel p)) && (r.2.2.2.take i).all fun x => !decide (x ∈ p.2)
  -- needs
  refine ⟨.ref a3, rfl, a3, rfl, ⟨_, t3⟩, for_tup (xs := r.2.2.1.map V.str) (fun i σ H1 => (∃ y8, σ = [some (.ref a), some (.ref b0), some (.ref d), some (.ref a1), some (.ref a2), some (.ref a3), some (.ref a4), some (.int (msk R (q1 i))), y8]) ∧ H1 = H) ⟨⟨_, rfl⟩, rfl⟩ (fun i σ H1 _ hI => by rw [hI.2]; exact t3) (fun i v σ H1 hv hI => ?_) (fun σ H1 hI => ?_)⟩
  · obtain ⟨⟨y8, rfl⟩, rfl⟩ := hI
    obtain ⟨z, hz, rfl⟩ := map_at hv
    refine ⟨.int (msk R (q1 i)), rfl, .ref d, rfl, d, rfl, .inl ⟨kd, .inl hkd⟩, .str z, rfl, valV kd (.inr z), DGet.k (k := .inr z) hkd, ?_⟩
    rw [gd z]
    refine ⟨_, _, rfl, rfl, ⟨some (.str z), ?_⟩, rfl⟩
    have e : (fun p => q1 i p && decide (z ∈ sel p)) = q1 (i + 1) := by
      funext p
      exact (all_snoc hz).symm
    have ez : Builtin.bitAnd (msk R (q1 i)) (msk R fun p => decide (z ∈ sel p)) = msk R (q1 (i + 1)) := by rw [msk_and, e]
    rw [← ez]
    rfl
  obtain ⟨⟨y8, rfl⟩, rfl⟩ := hI
  rw [List.length_map]
  have f1 : q1 r.2.2.1.length = q2 0 := by
    funext p
    show (r.2.2.1.take r.2.2.1.length).all _ = (_ && true)
    rw [List.take_length, Bool.and_true]
  rw [f1]
  -- denied
  refine ⟨.ref a2, rfl, a2, rfl, ⟨_, t2⟩, for_tup (xs := r.2.1.map V.str) (fun i σ H2 => (∃ y8, σ = [some (.ref a), some (.ref b0), some (.ref d), some (.ref a1), some (.ref a2), some (.ref a3), some (.ref a4), some (.int (msk R (q2 i))), y8]) ∧ H2 = H1) ⟨⟨_, rfl⟩, rfl⟩ (fun i σ H2 _ hI => by rw [hI.2]; exact t2) (fun i v σ H2 hv hI => ?_) (fun σ H2 hI => ?_)⟩
  · obtain ⟨⟨y8, rfl⟩, rfl⟩ := hI
    obtain ⟨z, hz, rfl⟩ := map_at hv
    refine ⟨.int (msk R (q2 i)), rfl, .ref a, rfl, a, CT, dx, fs, _, rfl, hi, N.c, N.n3, l3, d2, rfl, .inl ⟨kt, .inl hkt⟩, .str z, rfl, valV kt (.inr z), DGet.k (k := .inr z) hkt, ?_⟩
    rw [gt z]
    refine ⟨_, _, rfl, rfl, ⟨some (.str z), ?_⟩, rfl⟩
    have e : (fun p => q2 i p && decide (z ∈ p.2)) = q2 (i + 1) := by
      funext p
      show ((_ && _) && _) = (_ && (r.2.1.take (i + 1)).all _)
      rw [all_snoc hz, Bool.and_assoc]
    have ez : Builtin.bitAnd (msk R (q2 i)) (msk R fun p => decide (z ∈ p.2)) = msk R (q2 (i + 1)) := by rw [msk_and, e]
    rw [← ez]
    rfl
  obtain ⟨⟨y8, rfl⟩, rfl⟩ := hI
  rw [List.length_map]
  have f2 : q2 r.2.1.length = q3 0 := by
    funext p
    show (_ && (r.2.1.take r.2.1.length).all _) = (_ && true)
    rw [List.take_length, Bool.and_true]
  rw [f2]
  -- heads
  refine ⟨.ref a1, rfl, a1, rfl, ⟨_, t1⟩, for_tup (xs := r.1.map V.str) (fun i σ H3 => (∃ y8, σ = [some (.ref a), some (.ref b0), some (.ref d), some (.ref a1), some (.ref a2), some (.ref a3), some (.ref a4), some (.int (msk R (q3 i))), y8]) ∧ H3 = H2) ⟨⟨_, rfl⟩, rfl⟩ (fun i σ H3 _ hI => by rw [hI.2]; exact t1) (fun i v σ H3 hv hI => ?_) (fun σ H3 hI => ?_)⟩
  · obtain ⟨⟨y8, rfl⟩, rfl⟩ := hI
    obtain ⟨z, hz, rfl⟩ := map_at hv
    refine ⟨.int (msk R (q3 i)), rfl, .ref d, rfl, d, rfl, .inl ⟨kd, .inl hkd⟩, .str z, rfl, valV kd (.inr z), DGet.k (k := .inr z) hkd, ?_⟩
    rw [gd z]
    refine ⟨_, rfl, _, _, rfl, rfl, ⟨some (.str z), ?_⟩, rfl⟩
    have e : (fun p => q3 i p && !decide (z ∈ sel p)) = q3 (i + 1) := by
      funext p
      show ((_ && _) && _) = (_ && (r.1.take (i + 1)).all _)
      rw [all_snoc hz, Bool.and_assoc]
    have ez : Builtin.bitAnd (msk R (q3 i)) (Builtin.bitNot (msk R fun p => decide (z ∈ sel p))) = msk R (q3 (i + 1)) := by rw [msk_diff, e]
    rw [← ez]
    rfl
  obtain ⟨⟨y8, rfl⟩, rfl⟩ := hI
  rw [List.length_map]
  have f3 : q3 r.1.length = q4 0 := by
    funext p
    show (_ && (r.1.take r.1.length).all _) = (_ && true)
    rw [List.take_length, Bool.and_true]
  rw [f3]
  -- bars
  refine ⟨.ref a4, rfl, a4, rfl, ⟨_, t4⟩, for_tup (xs := r.2.2.2.map V.str) (fun i σ H4 => (∃ y8, σ = [some (.ref a), some (.ref b0), some (.ref d), some (.ref a1), some (.ref a2), some (.ref a3), some (.ref a4), some (.int (msk R (q4 i))), y8]) ∧ H4 = H3) ⟨⟨_, rfl⟩, rfl⟩ (fun i σ H4 _ hI => by rw [hI.2]; exact t4) (fun i v σ H4 hv hI => ?_) (fun σ H4 hI => ?_)⟩
  · obtain ⟨⟨y8, rfl⟩, rfl⟩ := hI
    obtain ⟨z, hz, rfl⟩ := map_at hv
    refine ⟨.int (msk R (q4 i)), rfl, .ref a, rfl, a, CT, dx, fs, _, rfl, hi, N.c, N.n3, l3, d2, rfl, .inl ⟨kt, .inl hkt⟩, .str z, rfl, valV kt (.inr z), DGet.k (k := .inr z) hkt, ?_⟩
    rw [gt z]
    refine ⟨_, rfl, _, _, rfl, rfl, ⟨some (.str z), ?_⟩, rfl⟩
    have e : (fun p => q4 i p && !decide (z ∈ p.2)) = q4 (i + 1) := by
      funext p
      show ((_ && _) && _) = (_ && (r.2.2.2.take (i + 1)).all _)
      rw [all_snoc hz, Bool.and_assoc]
    have ez : Builtin.bitAnd (msk R (q4 i)) (Builtin.bitNot (msk R fun p => decide (z ∈ p.2))) = msk R (q4 (i + 1)) := by rw [msk_diff, e]
    rw [← ez]
    rfl
  obtain ⟨⟨y8, rfl⟩, rfl⟩ := hI
  rw [List.length_map]
  have f4 : q4 r.2.2.2.length = unB sel r := by
    funext p
    show (_ && (r.2.2.2.take r.2.2.2.length).all _) = _
    rw [List.take_length]
    rfl
  rw [f4]
  exact ⟨_, rfl, q _ fun _ _ e => e⟩
def spAgainst (K : PySem.W.Frag) (CT : Addr) : Sp := fun vs H Q _ => ∃ (v x : V) (R : List (W × W)) (r : Rl), vs = [v, x] ∧ TabAt CT H v R ∧ Dp K H x (rd r) ∧ IsR r ∧ ∀ H', Same H H' → Q (.int (msk R fun p => unB (·.2) r p || unB (·.1) r p)) H'
theorem ok_against {CT f1 : Addr} {fd1 : FuncData} (F : Fun K "against" "Table.against" sAgainst f fd) (N : NoTab K CT) (hm : Meth K CT "_unmet" f1)
    (G1 : FnOk P w K mg base CX0 k f1 fd1 ["self", "row", "asked"] (spUnmet K CT)) (b1 : Binds K fd1 ["self", "row", "asked"] []) : FnOk P w K mg base CX0 (k + 1) f fd ["self", "row"] (spAgainst K CT) := by
  refine F.ok scAgainst (fun vs H Q E h => ?_) (fun cdv A outer s H vs Q E hr h => ?_)
  · obtain ⟨v, x, R, r, rfl, _⟩ := h
    rfl
  obtain ⟨v, x, R, r, rfl, hT, hx, hI, q⟩ := h
  refine ⟨_, pss_one (ps_ret (pe_op op_or (pe_meth (pv 0) N.c hm G1 hr b1 .nil pass0 (pa_cons (pv 1) (pa_cons (pe_fld (pv 0) rfl) pa_nil))) (pe_meth (pv 0) N.c hm G1 hr b1 .nil pass0 (pa_cons (pv 1) (pa_cons (pe_fld (pv 0) rfl) pa_nil))))), ?_⟩
  obtain ⟨a, dx, d1, d2, fs, rfl, hi, l1, l2, l3, ⟨l4, l5⟩, m1, m2⟩ := id hT
  have tab : ∀ {H1 : Hp}, Same H H1 → TabAt CT H1 (.ref a) R := fun s => ⟨a, dx, d1, d2, fs, rfl, s _ _ hi, l1, l2, l3, ⟨l4, l5⟩, m1.go fun u e => s _ _ e, m2.go fun u e => s _ _ e⟩
  refine ⟨.ref a, rfl, a, dx, fs, rfl, hi, l4, x, rfl, .ref a, rfl, a, CT, dx, fs, .ref d2, rfl, hi, N.c, N.n3, l3, ?_⟩
  dsimp only [tNil]
  refine ⟨.ref a, x, d2, R, r, (·.2), rfl, hT, hx, hI, m2, fun H1 s1 => ?_⟩
  refine ⟨.ref a, rfl, a, dx, fs, rfl, s1 _ _ hi, l4, x, rfl, .ref a, rfl, a, CT, dx, fs, .ref d1, rfl, s1 _ _ hi, N.c, N.n2, l2, ?_⟩
  dsimp only [tNil]
  refine ⟨.ref a, x, d1, R, r, (·.1), rfl, tab s1, dp_same s1 _ _ hx, hI, m1.go fun u e => s1 _ _ e, fun H2 s2 => ?_⟩
  refine ⟨_, _, rfl, rfl, ?_⟩
  have e := msk_or R (unB (·.2) r) (unB (·.1) r)
  have z := q H2 (s1.trans s2)
  rw [← e] at z
  exact z
end
end Rw
namespace Rw
open PySem PySem.Spec PyProof.Rows L2
/-! ### dicts whose keys are nested tuples: get with a default, put; items() of dicts by tuples -/
open Classical in
/-- the entries when k is put -/
noncomputable def putE (kvs : List Ent) (k : PyData) (a : Addr) (x : V) : List Ent := if k ∈ kvs.map (·.1) then kvs.map (fun p => if p.1 = k then (p.1, p.2.1, x) else p) else kvs ++ [(k, a, x)]
theorem putE_keys {kvs : List Ent} {k : PyData} {a : Addr} {x : V} {K : PySem.W.Frag} {H : Hp} (h : KeysOk K H kvs) (g : Good k) (d : Dp K H (.ref a) k) : KeysOk K H (putE kvs k a x) := by
  intro p hp
  unfold putE at hp
  split at hp
  · obtain ⟨q, hq, rfl⟩ := List.mem_map.mp hp
    split
    · exact h q hq
    · exact h q hq
  · rcases List.mem_append.mp hp with hp | hp
    · exact h p hp
    · obtain rfl := List.mem_singleton.mp hp
      exact ⟨g, d⟩
theorem putE_len {kvs : List Ent} {k : PyData} {a : Addr} {x : V} : (putE kvs k a x).length ≤ kvs.length + 1 := by
  unfold putE
  split <;> simp
theorem paired_map {α β : Type} {F : α → β → Prop} {f : α → α} {g : β → β} : ∀ {l : List α} {m : List β}, Paired F l m → (∀ x y, x ∈ l → F x y → F (f x) (g y)) → Paired F (l.map f) (m.map g)
  | _, _, .nil, _ => .nil
  | _, _, .cons r t, h => .cons (h _ _ List.mem_cons_self r) (paired_map t fun x y hx => h x y (List.mem_cons_of_mem _ hx))
section
variable {X : Cx} {pins : List (Addr × Obj)} {σ : L2.St} {H : Hp} {s : Shared} {d : Addr} {kvs : List Ent} {E : Value → Shared → Prop}
theorem nd_stored {xs : List (NK × Addr × Value)} {k : PyData} {a : Addr} {x : V} {u : Value} (p : Paired RelE kvs xs) (hk : ∀ p ∈ kvs, Good p.1) (g : Good k) (r : RelV x u) : Paired RelE (putE kvs k a x) (storedH xs (toK k) a u) := by
  unfold putE
  cases e : atKey xs (toK k) with
  | none =>
    have nk : k ∉ kvs.map (·.1) := fun h => by
      have := (nd_isSome p hk g).mpr h
      rw [e] at this
      cases this
    rw [if_neg nk, storedH_new e]
    exact paired_snoc ⟨rfl, rfl, r⟩ p
  | some q =>
    have ik : k ∈ kvs.map (·.1) := (nd_isSome p hk g).mp (by rw [e]; rfl)
    rw [if_pos ik, storedH_old e]
    refine paired_map p fun z y hz hr => ?_
    obtain ⟨r1, r2, r3⟩ := hr
    unfold putAt
    by_cases c : z.1 = k
    · rw [if_pos c, if_pos (by rw [← r1, c])]
      exact ⟨r1, r2, r⟩
    · rw [if_neg c, if_neg (fun z2 => c (toK_inj (hk z hz).ok g.ok (r1.trans z2)))]
      exact ⟨r1, r2, r3⟩
/-- d[k] = x, k there or not -/
theorem nd_set {a : Addr} {k : PyData} {x : V} {u : Value} {A : Around} {Q : Unit → Shared → Prop} (hu : A.in1.units + 8 < cLine) (I : Inv X pins σ H s) (hd : H d = some (NDO X.prog X.w d kvs)) (hk : KeysOk X.K H kvs) (g : Good k) (da : Dp X.K H (.ref a) k) (few : kvs.length < 100000) (r : RelV x u)
    (h : ∀ s', Inv X pins σ (upd H d (NDO X.prog X.w d (putE kvs k a x))) s' → Q () s') : wpAny (model X.prog X.w) A (setItem (.ref d) (.ref a) u) Q E s := by
  obtain ⟨hz, hs, xs, p, m⟩ := nd_get I hd hk
  have xl : xs.length = kvs.length := (Paired.length p).symm
  refine wpAny_setItem_heap (knd := nestedKind X.prog X.w) (hsz := by rw [sizeLine_eq]; omega) hu (key_at I da g) m fun h' m' sb => ?_
  have ex : ∃ q, h'.get? d = some q := let ⟨q, _, _, hq, _⟩ := m'; ⟨q, hq⟩
  exact h _ (d_write (t' := _) I (by rw [hd]; exact True.intro) sb ex (nd_new (Nat.le_trans putE_len few) hs (nd_stored p (fun z hz => (hk z hz).1) g r) m'))
def sPutN (K : PySem.W.Frag) (P : Program) (w : World) (td ty tv : TE) : TS := fun D σ H => tv σ H fun v H1 => td σ H1 fun x H2 => ty σ H2 fun y H3 => ∃ (d a : Addr) (kvs : List Ent) (k : PyData), x = .ref d ∧ y = .ref a ∧ H3 d = some (NDO P w d kvs) ∧ KeysOk K H3 kvs ∧ Good k ∧ Dp K H3 (.ref a) k ∧ kvs.length < 100000 ∧
  D.nx σ (upd H3 d (NDO P w d (putE kvs k a v)))
theorem ps_putN {o i value : Expr} {td ty tv : TE} {pos pos' : Pos} (hu : X.A.units + 64 < cLine) (ho : PE X o td) (hi : PE X i ty) (hv : PE X value tv) (hs : swapsWith value (some (.Subscript o i pos')) pos.line X.env = pure false) :
    PS X (.Assign [.Subscript o i pos'] value pos) (sPutN X.K X.prog X.w td ty tv) := by
  refine ⟨fun pins s σ H D I h => ?_⟩
  refine wpAny_Assign_Subscript (thn (hv.run pins s σ H _ I h) fun r s1 ⟨v, H1, I1, rv, q1⟩ => thn (ho.run pins s1 σ H1 _ I1 q1) fun u s2 ⟨x, H2, I2, rx, q2⟩ => thn (hi.run pins s2 σ H2 _ I2 q2) fun iv s3 ⟨y, H3, I3, ry, d, a, kvs, k, ex, ey, hd, hk, g, da, few, q3⟩ => ?_) hs
  subst ex ey
  obtain rfl : u = Value.ref d := rx
  obtain rfl : iv = Value.ref a := ry
  exact nd_set (by show X.A.units + 1 + 8 < cLine; omega) I3 hd hk g da few rv fun s4 I4 => ⟨σ, _, I4, q3⟩
/-- d.get(k, x) -/
def tGetN2 (K : PySem.W.Frag) (P : Program) (w : World) (td ty tx : TE) : TE := fun σ H Q => td σ H fun x H1 => ∃ d kvs0, x = .ref d ∧ H1 d = some (NDO P w d kvs0) ∧ ty σ H1 fun y H2 => tx σ H2 fun z H3 => ∃ (a : Addr) (kvs : List Ent) (k : PyData), y = .ref a ∧ H3 d = some (NDO P w d kvs) ∧ KeysOk K H3 kvs ∧
  Good k ∧ Dp K H3 (.ref a) k ∧ (∀ e ∈ kvs, e.1 = k → Q e.2.2 H3) ∧ (k ∉ kvs.map (·.1) → Q z H3)
theorem pe_getN2 {o e f : Expr} {td ty tx : TE} {apos cpos : Pos} (hu : X.A.units + 64 < cLine) (ho : PE X o td) (he : PE X e ty) (hf : PE X f tx) (m : M2 X o "get" apos e f cpos) : PE X (.Call (.Attribute o "get" apos) [e, f] [] cpos) (tGetN2 X.K X.prog X.w td ty tx) := by
  refine ⟨fun pins s σ H Q I h => ?_⟩
  refine wpAny_Call_method m.base m.few m.line PySem.F.plainAttrs_dict PySem.F.slot_dict_get PySem.F.type_dict_get (thn (ho.run pins s σ H _ I h) fun u s1 ⟨x, H1, I1, rx, d, kvs0, ex, d0, q1⟩ => ?_)
  subst ex
  obtain rfl : u = Value.ref d := rx
  have ty0 : ∃ o, s1.heap.get? d = some o ∧ o.cls = .type "dict" ∧ o.dict = none := by
    obtain ⟨_, _, xs, _, o, es, ep, h1, h2, _⟩ := (I1.hok d _ d0).1
    exact ⟨o, h1, h2.1, h2.2.1⟩
  obtain ⟨ob, ho1, ho2, ho3⟩ := ty0
  refine ⟨⟨ob, ho1, ho2⟩, fun b eb => ?_, ?_⟩
  · cases eb
    exact ⟨ob, ho1, ho3⟩
  rw [m.trees]
  refine Calls.callWith_builtin rfl (Calls.evalArgs_plain (Calls.spliced_cons (thn (he.run pins s1 σ H1 _ I1 q1) fun iv s2 ⟨y, H2, I2, ry, q2⟩ =>
    Calls.spliced_cons (thn (hf.run pins s2 σ H2 _ I2 q2) fun fv s3 ⟨z, H3, I3, rz, a, kvs, k, ey, hd, hk, g, da, q3, q4⟩ => Calls.spliced_nil ?_))))
  subst ey
  obtain rfl : iv = Value.ref a := ry
  obtain ⟨hz, hs, xs, p, mm⟩ := nd_get I3 hd hk
  obtain ⟨l1, l2⟩ := nd_look p (fun z hz => (hk z hz).1) g
  refine call_meetsIn PySem.F.slot_dict_get mm.typeIs PySem.F.entry_dict_get (PySem.F.args_dict_get_3 _ _ _) (meetsH_dict_get_default (nestedKind X.prog X.w) d a hs fv) ⟨by show X.A.in1.units + 8 < cLine; show X.A.units + 1 + 8 < cLine; omega, toK k, xs, key_at I3 da g, mm, ?_⟩
  cases e : atKey xs (toK k) with
  | none =>
    refine ⟨z, H3, I3.tok _, rz, q4 fun hm => ?_⟩
    obtain ⟨z', hz', ez⟩ := List.mem_map.mp hm
    exact l2 e z' hz' ez
  | some pv =>
    obtain ⟨z', hz', ez, rz'⟩ := l1 pv e
    exact ⟨z'.2.2, H3, I3.tok _, rz', q3 z' hz' ez⟩
end
/-! ### items() of a locked dict, whatever its keys -/
/-- what lies in the object: keys and values in their order -/
def Laid (o : Obj) (ps : List (V × V)) : Prop := o.ExactDict ∧ ∃ (es : Array DictEntry) (ep : Nat), o.data = .dict es ep ∧ es.size = ps.length ∧ ∀ (i : Nat) (k v : V), ps[i]? = some (k, v) → ∃ en : DictEntry, es[i]? = some en ∧ RelV k en.key ∧ RelV v en.val
def ItN (d : Addr) (o : Obj) (u : HO) (ps : List (V × V)) : It :=
  ⟨fun i H => H d = some (.frz o u) ∧ i < ps.length, fun i H x H' => ∃ T k v, ps[i]? = some (k, v) ∧ x = .ref T ∧ H T = none ∧ H' = upd H T (.tup [k, v]), fun i H => H d = some (.frz o u) ∧ ps.length ≤ i⟩
theorem inv_frzG {X : Cx} {pins : List (Addr × Obj)} {σ : L2.St} {H : Hp} {s : Shared} {d : Addr} {o : Obj} {u : HO} (I : Inv X pins σ H s) (h : H d = some (.frz o u)) : s.heap.get? d = some o := (I.hok d _ h).1
section
variable {P : Program} {w : World} {K : PySem.W.Frag} {d : Addr} {o : Obj} {u : HO} {es : Array DictEntry} {ep : Nat}
theorem turn_itemsN {ps : List (V × V)} {elts : List Expr} {kk : Nat} {tpos : Pos} (it : Addr) (hx : o.ExactDict) (hod : o.data = .dict es ep) (hsz : es.size = ps.length) (hen : ∀ (i : Nat) (k v : V), ps[i]? = some (k, v) → ∃ en : DictEntry, es[i]? = some en ∧ RelV k en.key ∧ RelV v en.val) :
    Turn P w K (.Tuple elts kk tpos) (ItN d o u ps) [it] it (fun i h => ∃ ok ov, IsItemIter h it d i es.size ep ok ov) where
  mem := by simp
  obj := fun i h st b hb => by
    have e : b = it := by simpa using hb
    subst e
    obtain ⟨ok, ov, e⟩ := st
    exact ⟨_, e, fun v z => nomatch z⟩
  keep := fun i h h' st k => let ⟨ok, ov, e⟩ := st; ⟨ok, ov, k it (by simp) _ e⟩
  item := by
    intro X hP hw hK hc i pins s σ H E I hf st hg
    subst hP hw hK
    obtain ⟨hd, hi⟩ := hg
    have hgd := inv_frzG I hd
    obtain ⟨⟨k, v⟩, hkv⟩ : ∃ p, ps[i]? = some p := ⟨ps[i], List.getElem?_eq_getElem hi⟩
    obtain ⟨en, e1, r1, r2⟩ := hen i k v hkv
    obtain ⟨ok, ov, he⟩ := st
    have hlt : it < s.heap.objs.size := Heap.lt_size he
    have hie : i < es.size := by omega
    have een : es[i] = en := by
      rw [Array.getElem?_eq_getElem hie] at e1
      exact Option.some.inj e1
    refine wpAny_pyNext_items_item_raw he ⟨o, hgd, hx, hod⟩ hie fun h' ho hT hz hk => ?_
    rw [een] at ho hT
    refine ⟨_, rfl, wpAny_letOwnedTupleGo_items (s := { s with heap := h' }) ho fun h'' he' sb => ?_⟩
    have hT2 : h''.get? s.heap.objs.size = some { cls := .type "tuple", data := .seq #[en.key, en.val] } := (sb.2 _ (Nat.ne_of_gt hlt)).trans hT
    have new : ObjOk X.prog X.w (upd H s.heap.objs.size (.tup [k, v])) h'' s.heap.objs.size (.tup [k, v]) :=
      ⟨by show 2 ≤ sizeLine; decide, [en.key, en.val], .cons r1 (.cons r2 .nil), ⟨_, hT2, rfl, _, rfl⟩⟩
    have I1 : Inv X pins σ (upd H s.heap.objs.size (.tup [k, v])) { s with heap := h'' } :=
      I.turnedNew (t' := s.toks) (ch := [it]) (fun b ob hb e => (sb.2 b (by simpa using hb)).trans (hk b ob (by simpa using hb) e)) hf (Nat.le_refl _) new
    refine ⟨.ref s.heap.objs.size, _, I1, rfl, ⟨_, k, v, hkv, rfl, I.hok.fresh (Nat.le_refl _), rfl⟩, ⟨en.key, en.val, he'⟩, fun b hb => ?_⟩
    have e : b = it := by simpa using hb
    rw [e, upd_ne (Nat.ne_of_lt hlt)]
    exact (hf it (by simp)).1
  done := by
    intro X hP hw hK hc i pins s σ H E I hf st hg
    subst hP hw hK
    obtain ⟨hd, hi⟩ := hg
    obtain ⟨f0, f1, f2, f3, f4, f5⟩ := hf it (by simp)
    have hgd := inv_frzG I hd
    obtain ⟨ok, ov, he⟩ := st
    exact wpAny_pyNext_items_end_raw (I.ok.hd hc) he ⟨o, hgd, hx, hod⟩ (by omega) fun h' eb => ⟨rfl, I.turned (t' := s.toks) (fun b ob hb e => eb b ob hb e) f0 f1 f3 f4 f5⟩
  self := fun A i s Q E st h => let ⟨_, _, e⟩ := st; PySem.W.kcp_self e h
end
/-- the locked dict, by tuples or by nested tuples -/
def iItemsN (P : Program) (w : World) (td : TE) : TI := fun σ H R => td σ H fun x H1 => ∃ d o u, x = .ref d ∧ H1 d = some (.frz o u) ∧
  ((∃ kvs, u = .dT kvs ∧ ∀ ps : List (V × V), ps.length = kvs.length → (∀ (i : Nat) (k : List Key) (v : V), kvs[i]? = some (k, v) → ∃ q : Addr, ps[i]? = some (.ref q, v) ∧ H1 q = some (.tup (k.map kV))) → R (ItN d o u ps) H1) ∨
   ∃ kvs, u = NDO P w d kvs ∧ R (ItN d o u (kvs.map fun e => (.ref e.2.1, e.2.2))) H1)
section
variable {X : Cx} {tg e : Expr} {td : TE} {apos cpos : Pos}
theorem pi_itemsN {elts : List Expr} {kk : Nat} {tpos : Pos} (he : PE X e td) (hbase : attributeBase e "items" X.env (eval e X.env) = eval e X.env := by rfl) (hline : (apos.endLine == cpos.line) = true := by rfl) :
    PI X (.Tuple elts kk tpos) (.Call (.Attribute e "items" apos) [] [] cpos) (iItemsN X.prog X.w td) := by
  refine ⟨fun pins s σ H R I h => ?_⟩
  refine wpAny_Call_method (T := "dict") (id := "dict.items") hbase rfl hline F.plainAttrs_dict F.slot_dict_items F.type_dict_items (thn (he.run pins s σ H _ I h) fun u s1 ⟨x, H1, I1, rx, d, o, ho, ex, hd, q⟩ => ?_)
  subst ex
  obtain rfl : u = Value.ref d := rx
  have hgd := inv_frzG I1 hd
  have key : ∃ ps : List (V × V), R (ItN d o ho ps) H1 ∧ (d == sysModules) = false ∧ Laid o ps := by
    rcases q with ⟨kvs, rfl, q⟩ | ⟨kvs, rfl, q⟩
    · obtain ⟨_, z, hs, xs, pr, o', es, ep, ho, hx, hdt, hes, _⟩ := I1.hok d _ hd
      rw [hgd] at ho
      cases ho
      have l1 : es.size = xs.length := size_of_entries hes
      have l2 : kvs.length = xs.length := Paired.length pr
      have at_ : ∀ (i : Nat) (k : List Key) (v : V), kvs[i]? = some (k, v) → ∃ y, xs[i]? = some y ∧ es[i]? = some (entryOfKey (tupleKind (mixKind X.prog X.w)) y) ∧ k = y.1 ∧ H1 y.2.1 = some (.tup (k.map kV)) ∧ RelV v y.2.2 := fun i k v e => by
        obtain ⟨b, hb, e1, e2, e3⟩ := L2.paired_get pr e
        have q := entry_at hes i
        rw [hb] at q
        exact ⟨b, hb, q, e1, e2, e3⟩
      let ps : List (V × V) := List.zipWith (fun (p : List Key × V) (y : List Key × Addr × Value) => (V.ref y.2.1, p.2)) kvs xs
      have lp : ps.length = kvs.length := by simp [ps, List.length_zipWith]; omega
      have pa : ∀ (i : Nat) (k : List Key) (v : V) y, kvs[i]? = some (k, v) → xs[i]? = some y → ps[i]? = some (V.ref y.2.1, v) := fun i k v y e1 e2 => by
        show (List.zipWith _ kvs xs)[i]? = _
        rw [List.getElem?_zipWith, e1, e2]
      refine ⟨ps, q ps lp fun i k v e => ?_, hs, hx, es, ep, hdt, by omega, fun i k v e => ?_⟩
      · obtain ⟨y, h1, h2, h3, h4, h5⟩ := at_ i k v e
        exact ⟨y.2.1, pa i k v y e h1, h4⟩
      · have il : i < kvs.length := by
          have := (List.getElem?_eq_some_iff.mp e).1
          omega
        obtain ⟨⟨k', v'⟩, hkv⟩ : ∃ p, kvs[i]? = some p := ⟨kvs[i], List.getElem?_eq_getElem il⟩
        obtain ⟨y, h1, h2, h3, h4, h5⟩ := at_ i k' v' hkv
        rw [pa i k' v' y hkv h1] at e
        cases e
        exact ⟨_, h2, rfl, h5⟩
    · obtain ⟨_, ⟨hz, hs, xs, pr, o', es, ep, ho, hx, hdt, hes, _⟩, _⟩ := I1.hok d _ hd
      rw [hgd] at ho
      cases ho
      have l1 : es.size = xs.length := size_of_entries hes
      have l2 : kvs.length = xs.length := Paired.length pr
      refine ⟨_, q, hs, hx, es, ep, hdt, by rw [List.length_map]; omega, fun i k v e => ?_⟩
      rw [List.getElem?_map] at e
      obtain ⟨b, hb, eb⟩ := Option.map_eq_some_iff.mp e
      cases eb
      obtain ⟨y, hy, e1, e2, e3⟩ := L2.paired_get pr hb
      have q := entry_at hes i
      rw [hy] at q
      exact ⟨_, q, by rw [e2]; rfl, e3⟩
  obtain ⟨ps, q, hs, hx, es, ep, hdt, hsz, hen⟩ := key
  refine ⟨⟨o, hgd, hx.1⟩, fun b eb => ?_, ?_⟩
  · cases eb
    exact ⟨o, hgd, hx.2.1⟩
  have I2 : Inv X pins σ H1 { s1 with heap := s1.heap.push { cls := .type "dict_items", data := .fields #[.ref d] } } := I1.kept (t' := s1.toks) fun b ob q => Heap.get?_push_of_some _ q
  have fin : wpAny (model X.prog X.w) X.A (pyIter (.ref s1.heap.objs.size)) (PIE X pins σ (.Tuple elts kk tpos) R) X.xe { s1 with heap := s1.heap.push { cls := .type "dict_items", data := .fields #[.ref d] } } := by
    refine wpAny_pyIter_items_raw (d := d) ⟨_, Heap.get?_push_size _ rfl, rfl, rfl⟩ ⟨o, Heap.get?_push_of_some _ hgd, hx, hdt⟩ (pi_one (tk := s1.toks) I2 _ (turn_itemsN _ hx hdt hsz hen) ⟨.none, .none, ?_⟩ q)
    exact Heap.get?_push_size _ rfl
  show wpAny _ _ (callWith cpos (.builtin "dict.items") [.ref d] [] []) _ X.xe s1
  exact method_meetsIn F.slot_dict_items F.entry_dict_items rfl (PySem.evalArgs_none ⟨rfl, ⟨o, hgd, hx.1⟩, F.args_dict_items_1 _, _, meets_dict_items_raw d hs, ⟨es, ep, o, hgd, hx, hdt⟩, fin⟩)
end
theorem walk_itemsN {d : Addr} {o : Obj} {u : HO} {ps : List (V × V)} : Walk (ItN d o u ps) ps.length (fun H => H d = some (.frz o u)) (YPair (fun i => ps[i]?.map Prod.fst) (fun i => ps[i]?.map Prod.snd)) := by
  refine ⟨fun _ _ hi q => ⟨q, hi⟩, fun _ q => ⟨q, Nat.le_refl _⟩, fun i H x H' _ _ y => ?_⟩
  obtain ⟨T, k, v, h1, h2, h3, h4⟩ := y
  exact ⟨T, k, v, h2, h3, h4, by simp [h1], by simp [h1]⟩
end Rw
namespace Rw
open PySem PySem.Spec PyProof.Rows L2
/-! ### alone -/
abbrev nAlone : List Str := ["self", "gone", "there", "own"]
theorem scAlone : FnScope nAlone ["self", "gone"] (defScope sAlone) := ⟨rfl, rfl, rfl, by decide +kernel, rfl, by decide +kernel, by decide +kernel⟩
/-- of the pairs about t, when those of G are gone, just (t, t) is left -/
def alB (R : List (W × W)) (G : W × W → Bool) (t : W) : Bool := R.all fun p => (decide (p.2 = t) && !G p) == decide (p = (t, t))
theorem alB_iff {R : List (W × W)} {G : W × W → Bool} {t : W} : (msk R fun p => decide (p.2 = t) && !G p) = (msk R fun p => decide (p = (t, t))) ↔ alB R G t = true := by
  rw [msk_eq, alB, List.all_eq_true]
  exact forall_congr' fun p => forall_congr' fun _ => beq_iff_eq.symm
theorem filt_one {α : Type} {l : List α} {i : Nat} {x : α} {p : α → Bool} (h : l[i]? = some x) : (l.take (i + 1)).filter p = (l.take i).filter p ++ if p x = true then [x] else [] := by
  rw [take_snoc h, List.filter_append]
  by_cases e : p x = true
  · simp [e]
  · simp [e]
section
variable {P : Program} {w : World} {K : PySem.W.Frag} {mg : Str → Option Value} {base : Heap} {f : Addr} {fd : FuncData} {k : Nat}
def spAlone (K : PySem.W.Frag) (CT : Addr) : Sp := fun vs H Q _ => ∃ (v : V) (R : List (W × W)) (G : W × W → Bool), vs = [v, .int (msk R G)] ∧ OwnAt CT H v R ∧ R.length ≤ 20000 ∧
  ∀ H' l xs, Same H H' → H' l = some (.lst xs) → TpAll H' xs ((dgT R).filter (alB R G)) → Q (.ref l) H'
theorem ok_alone {CT : Addr} (F : Fun K "alone" "Table.alone" sAlone f fd) (N : NoTab K CT) : FnOk P w K mg base CX0 (k + 1) f fd ["self", "gone"] (spAlone K CT) := by
  refine F.ok scAlone (fun vs H Q E h => ?_) (fun cdv A outer s H vs Q E hr h => ?_)
  · obtain ⟨v, R, G, rfl, _⟩ := h
    rfl
  obtain ⟨v, R, G, rfl, hO, few, q⟩ := h
  have hu : (A.deeper (envOfC "Table.alone" (defScope sAlone) s.heap.objs.size f cdv)).units + 1 < cLine := by have := hr.un; omega
  refine ⟨_, pss_one (ps_ret (pe_lock (pe_lc (own := [("there", 2), ("own", 3)]) (g := gTup K 2 (gCons (gName 2) (gCons (gName 3) gNil))) (tt := tTest (tOp rEq (tOp (rI0 fun i j => .int (Builtin.bitAnd i j)) (tDGet (tFld K (tVar 0) "_around") (tVar 2)) (tUn (rU fun i => .int (Builtin.bitNot i)) (tVar 1))) (tVar 3))) (te := tVar 2) (by rfl) scAlone.nd (pi_itemsN (pe_fld (pv 0) rfl)) (blkOk_by (N := nAlone) (sc := defScope sAlone) (by decide +kernel))
    (fun _ _ _ _ _ => pg_tup (by rfl) (pgs_cons (pg_name (i := 2) scAlone.nd rfl (Or.inl rfl)) (pgs_cons (pg_name (i := 3) scAlone.nd rfl (Or.inl rfl)) pgs_nil)))
    (fun _ _ _ _ _ => pts_one (pt_cmpR op_eq (pe_op op_and (pe_dget hu (pe_fld (pv 0) rfl) (pv 2) (fun _ _ => rfl)) (pe_un un_inv (pv 1))) (pv 3) (nomark _))) (fun _ _ _ _ _ => pv 2)))), ?_⟩
  obtain ⟨a, dx, d3, d4, fs, rfl, hi, l1, l2, l3, nd, e3, kvs, e4, f4, v4⟩ := hO
  refine ⟨d3, _, e3, True.intro, fun od => ?_⟩
  have n3 : a ≠ d3 := fun z => by rw [z, e3] at hi; cases hi
  let HL : Hp := upd H d3 (.frz od (.dT (ownE R)))
  have ex : HL d3 = some (.frz od (.dT (ownE R))) := upd_same
  have oth : ∀ b u, b ≠ d3 → H b = some u → HL b = some u := fun b u nb e => (upd_ne nb).trans e
  refine ⟨.ref a, rfl, a, CT, dx, fs, _, rfl, oth _ _ n3 hi, N.c, N.n4, l1, d3, od, _, rfl, ex, .inl ⟨_, rfl, fun ps lp hps => fun D hD => ?_⟩⟩
  have ol : (ownE R).length = (dgT R).length := by
    unfold ownE
    rw [List.length_map]
  have dl : (dgT R).length ≤ 20000 := by
    unfold dgT
    rw [List.length_map]
    exact Nat.le_trans (List.length_filter_le _ _) few
  refine lc_it walk_itemsN (fun n H1 => Same HL H1 ∧ ∃ zs, H1 D = some (.lst zs) ∧ TpAll H1 zs (((dgT R).take n).filter (alB R G))) ⟨same_new hD _, [], upd_same, .nil⟩ (fun n H1 _ h => h.1 _ _ ex) (fun n y0 H1 H1' hn h hy => ?_) (fun H1 h => ?_)
  · obtain ⟨sm, zs, hz, hza⟩ := h
    obtain ⟨T, x, v, rfl, hT, rfl, e1, e2⟩ := hy
    rw [lp, ol] at hn
    obtain ⟨t, ht⟩ : ∃ t, (dgT R)[n]? = some t := ⟨_, List.getElem?_eq_getElem hn⟩
    obtain ⟨qa, hq, hqt⟩ := hps n (t.map Sum.inr) (V.int (msk R fun p => decide (p = (t, t)))) (by unfold ownE; rw [List.getElem?_map, ht]; rfl)
    have e1 : (ps[n]?).map Prod.fst = some x := e1
    have e2 : (ps[n]?).map Prod.snd = some v := e2
    rw [hq] at e1 e2
    obtain rfl : V.ref qa = x := Option.some.inj e1
    obtain rfl : V.int (msk R fun p => decide (p = (t, t))) = v := Option.some.inj e2
    have sT := same_new hT (.tup [.ref qa, .int (msk R fun p => decide (p = (t, t)))])
    have s2 := sm.trans sT
    let H2 : Hp := upd H1 T (.tup [.ref qa, .int (msk R fun p => decide (p = (t, t)))])
    have hq2 : H2 qa = some (.tup ((t.map Sum.inr : List Key).map kV)) := s2 _ _ hqt
    have h4 : H2 d4 = some (.dT kvs) := s2 _ _ (oth _ _ nd.symm e4)
    have hg := v4 t
    have tm := mem_dgT.mp (List.mem_of_getElem? ht)
    have ef : aroF R t = some (msk R fun p => decide (p.2 = t)) := if_pos (List.mem_map.mpr ⟨_, tm, rfl⟩)
    rw [ef] at hg
    have hz2 : H2 D = some (.lst zs) := sT _ _ hz
    have g1 := Tups.put (o := .lst (zs ++ [.ref qa])) hz2
    have zl : zs.length ≤ 20000 := by
      rw [hza.len]
      refine Nat.le_trans (List.length_filter_le _ _) ?_
      rw [List.length_take]
      omega
    refine ⟨T, [.ref qa, .int _], rfl, SqT.of upd_same, rfl, .ref qa, [.int _], rfl, .int _, [], rfl, rfl, rfl, ?_⟩
    refine ⟨.ref a, rfl, a, CT, dx, fs, _, rfl, s2 _ _ (oth _ _ n3 hi), N.c, N.n5, l2, .ref qa, rfl, d4, _, rfl, by rw [← Option.map_some (f := V.int), ← hg]; exact DGet.t (k := t.map Sum.inr) h4 hq2, ?_⟩
    refine ⟨.int (msk R G), rfl, msk R G, rfl, _, _, rfl, rfl, .int _, rfl, rfl, _, rfl, ?_⟩
    have eb : decide (V.int (Builtin.bitAnd (msk R fun p => decide (p.2 = t)) (Builtin.bitNot (msk R G))) = V.int (msk R fun p => decide (p = (t, t)))) = alB R G t := by
      rw [msk_diff, Bool.eq_iff_iff, decide_eq_true_iff, ← alB_iff]
      exact ⟨fun z => by injection z, fun z => by rw [z]⟩
    rw [eb]
    refine ite2 (fun e => ?_) (fun e => ?_)
    · refine ⟨.ref qa, rfl, zs, hz2, by rw [sizeLine_eq]; omega, same_put s2 hD, _, upd_same, ?_⟩
      rw [filt_one ht, if_pos e]
      refine TpAll.app (.cons ⟨qa, rfl, g1 _ _ ?_⟩ .nil) (hza.go ((Tups.of sT).trans g1))
      rw [hq2, keys_tup]
    · refine ⟨s2, zs, hz2, ?_⟩
      rw [filt_one ht, if_neg e, List.append_nil]
      exact hza.go (Tups.of sT)
  · obtain ⟨sm, zs, hz, hza⟩ := h
    rw [lp, ol, List.take_length] at hza
    obtain ⟨u1, u2⟩ := same_unlock e3 sm
    have nD : D ≠ d3 := fun z => by rw [z, upd_same] at hD; cases hD
    refine ⟨u1, q _ D zs u2 ((upd_ne nD).trans hz) (hza.go fun b xs e => (upd_ne fun z => ?_).trans e)⟩
    rw [z, u1] at e
    cases e
end
end Rw
namespace Rw
open PySem PySem.Spec PyProof.Rows L2 PySem.Froz
/-! ### {k: v for x in a for y in b} -/
theorem loop_lvD {Y : Cx} {kx vx : Expr} {gens : List Comprehension} {scope : Scope} {ep : Pos} {d : Nat} {tg : Expr} {ifs : List Expr} {pos : Pos} {it : Addr} {acc : Value} {bk : Sem PySem.Fin} {fp : List Addr} {tn : Nat → Heap → Prop} {J : It} {pins : List (Addr × Obj)} {σ0 : L2.St} {g : TG} {tt : TT} {B : L2.St → Hp → (Hp → Prop) → Prop} {C : L2.St → Prop} {R : Result → Shared → Prop} {N : Hp → Prop} {W : Nat → Nat → Hp → Prop}
    (hc : Y.calm = true) (hxe : ∀ e s, ¬ Y.xe e s) (hT : compTurn (.DictComp kx vx gens scope ep) d (.ref it) acc Y.env = turnOf tg ifs pos (.ref it) Y.env bk (.compLoop (.DictComp kx vx gens scope ep) d (.ref it) acc Y.env)) (T : Turn Y.prog Y.w Y.K tg J fp it tn) (hg : PG Y tg g) (ht : PTs Y ifs tt)
    (hb : ∀ pl s σ H (Nx : Hp → Prop) (Q : PySem.Fin → Shared → Prop) (E : Value → Shared → Prop), L2.Inv Y (pins ++ pl) σ H s → C σ → B σ H Nx → (∀ σ' H' s', L2.Inv Y (pins ++ pl) σ' H' s' → Le σ0 σ' → Nx H' → Q (.again (.compLoop (.DictComp kx vx gens scope ep) d (.ref it) acc Y.env)) s') → wpAny (model Y.prog Y.w) Y.A bk Q E s)
    (hC : ∀ σ, C σ → Le σ0 σ)
    (turn : ∀ i m H, W i m H → (J.stop i H ∧ N H) ∨ (J.go i H ∧ ∃ Nx : Hp → Prop, (∀ H', Nx H' → ∃ m', m' < m ∧ W (i + 1) m' H') ∧ ∀ x H', J.yld i H x H' → g x σ0 H' fun σ2 H2 => C σ2 ∧ tt σ2 H2 fun b H3 => if b = true then B σ2 H3 Nx else Nx H3))
    (hR : ∀ s' H', L2.Inv Y pins σ0 H' s' → N H' → R (.ok .next) s') :
    ∀ (n i : Nat) (H : Hp) (s : Shared), L2.Inv Y pins σ0 H s → tn i s.heap → (∀ b ∈ fp, FpOk Y pins H b) → W i n H → codeAny (model Y.prog Y.w) Y.A (.compLoop (.DictComp kx vx gens scope ep) d (.ref it) acc Y.env) R s := by
  intro n i H s I0 t0 f0 w0
  refine codeAny_loop (c := .compLoop (.DictComp kx vx gens scope ep) d (.ref it) acc Y.env) rfl (fun n s' => ∃ i H', L2.Inv Y pins σ0 H' s' ∧ tn i s'.heap ∧ (∀ b ∈ fp, FpOk Y pins H' b) ∧ W i n H') (fun n s5 ⟨i, H5, I5, st5, n5, w5⟩ => ?_) n ⟨i, H, I0, t0, f0, w0⟩
  show wpAny (model Y.prog Y.w) Y.A (Sem.onRaise (compTurn (.DictComp kx vx gens scope ep) d (.ref it) acc Y.env) fun x => do noteFrame x Y.env; theTreesLotGoes x) _ _ s5
  refine wpAny_noted ?_
  rw [hT]
  unfold turnOf
  refine wpAny_bind (wpAny_standAt (wpAny_bind ?_))
  rcases turn i n H5 w5 with ⟨stop, qq⟩ | ⟨go, Nx, hNx, step⟩
  · refine thnF (T.done Y rfl rfl rfl hc i pins s5 σ0 H5 (fun _ _ => False) I5 n5 st5 stop) fun r s6 ⟨hr, I6⟩ => ?_
    subst hr
    exact wpAny_pure (hR s6 H5 I6 qq)
  · refine thnF (T.item Y rfl rfl rfl hc i pins s5 σ0 H5 (fun _ _ => False) I5 n5 st5 go) fun r s6 ⟨u, hr, h6⟩ => ?_
    subst hr
    refine wpAny_bind (thnF h6 fun _ s7 ⟨x, H7, I7, r7, y7, st7, n7⟩ => ?_)
    have fp7 : ∀ b ∈ fp, FpOk Y pins H7 b := fun b hb => ⟨n7 b hb, (n5 b hb).2⟩
    have I7' := Inv.pinned I7 fp7 (T.obj (i + 1) s7.heap st7)
    refine wpAny_bind (wpAny_mono (hg.run (pins ++ pinsAt fp s7.heap) s7 σ0 H7 x u _ I7' r7 (step x H7 y7)) (fun _ s8 ⟨σ8, H8, I8, hw8, q8⟩ => ?_) fun e s z => (hxe e s z).elim)
    have fin : ∀ {s' : Shared} {H' : Hp} {σ' : L2.St}, L2.Inv Y (pins ++ pinsAt fp s7.heap) σ' H' s' → Le σ0 σ' → Nx H' → ∃ m, m < n ∧ ∃ i H', L2.Inv Y pins σ0 H' s' ∧ tn i s'.heap ∧ (∀ b ∈ fp, FpOk Y pins H' b) ∧ W i m H' := fun {s' H' σ'} I' le nx => by
      obtain ⟨m', hm, w'⟩ := hNx H' nx
      have pin' : ∀ b ∈ fp, ∀ o, s7.heap.get? b = some o → s'.heap.get? b = some o ∧ H' b = none := fun b hb o e => by
        have z := I'.pin (b, o) (List.mem_append_right Y.pn (List.mem_append_right pins (mem_pinsAt hb e)))
        exact ⟨z.1, z.2.1⟩
      refine ⟨m', hm, i + 1, H', Inv.weak (Inv.unpinned I') le.1 le.2, T.keep (i + 1) s7.heap s'.heap st7 fun b hb o e => (pin' b hb o e).1, fun b hb => ?_, w'⟩
      obtain ⟨o, e, _⟩ := T.obj (i + 1) s7.heap st7 b hb
      exact ⟨(pin' b hb o e).2, (n5 b hb).2⟩
    refine wpAny_bind (wpAny_mono (ht.run _ s8 σ8 H8 _ I8 q8) (fun b s9 ⟨H9, I9, q9⟩ => ?_) fun e s z => (hxe e s z).elim)
    cases b with
    | false =>
      have q9' : Nx H9 := q9
      exact wpAny_pure ⟨rfl, fin I9 (hC σ8 hw8) q9'⟩
    | true =>
      have q9' : B σ8 H9 Nx := q9
      exact hb (pinsAt fp s7.heap) s9 σ8 H9 Nx _ _ I9 hw8 q9' fun σ' H' s' I' le nx => ⟨rfl, fin I' le nx⟩
theorem start_lvD {P : Program} {w : World} {A : Around} {R : Result → Shared → Prop} {s : Shared} {kx vx : Expr} {gens : List Comprehension} {scope : Scope} {ep : Pos} {d : Nat} {t i : Expr} {ifs : List Expr} {it acc : Value} {env : Env} (hcl : gens[d]? = some ⟨t, i, ifs, 0⟩)
    (h0 : codeAny (model P w) A (.compLoop (.DictComp kx vx gens scope ep) d it acc env) R s) (h : wpAny (model P w) A (pyIter it) (fun it' s' => codeAny (model P w) A (.compLoop (.DictComp kx vx gens scope ep) d it' acc env) R s') (notedBy (model P w) A env fun x s' => R (.error x) s') s) :
    codeAny (model P w) A (.compStart (.DictComp kx vx gens scope ep) d it acc env) R s := by
  refine codeAny_of_tree ?_
  show wpAny (model P w) A (Sem.onRaise (compStart (.DictComp kx vx gens scope ep) d it acc env) fun x => do noteFrame x env; standAt theWindowsPlace) _ _ s
  refine wpAny_notedAt ?_
  unfold compStart
  rw [show (clausesOf (.DictComp kx vx gens scope ep))[d]? = some ⟨t, i, ifs, 0⟩ from hcl]
  show wpAny (model P w) A (ask >>= _) _ _ s
  refine wpAny_bind (wpAny_askSetting ?_)
  split
  · exact wpAny_pure ⟨rfl, h0⟩
  · refine wpAny_bind (wpAny_rule ?_)
    refine wpAny_bind (wpAny_standAt (wpAny_bind (wpAny_mono h (fun it' s' h' => wpAny_pure ⟨rfl, h'⟩) fun _ _ z => z)))
section
variable {kx vx t0 i0 t1 i1 : Expr} {scope : Scope} {ep : Pos}
abbrev gens2 (t0 i0 t1 i1 : Expr) : List Comprehension := [⟨t0, i0, [], 0⟩, ⟨t1, i1, [], 0⟩]
def bkLastD (kx vx : Expr) (D : Addr) (env : Env) (c : Code) : Sem PySem.Fin := do
  let _ ← (do
    let kv ← eval kx env
    let vv ← holding [kv] (eval vx env)
    standAt { kx.pos with endLine := vx.pos.endLine, endCol := vx.pos.endCol }
    holding [kv, vv] (dictSet D kv vv) : Sem Unit)
  again c
theorem turnD_0 (it acc : Value) (env : Env) : compTurn (.DictComp kx vx (gens2 t0 i0 t1 i1) scope ep) 0 it acc env = turnOf t0 [] i0.pos it env (bkIn i1 (.DictComp kx vx (gens2 t0 i0 t1 i1) scope ep) 0 acc env (.compLoop (.DictComp kx vx (gens2 t0 i0 t1 i1) scope ep) 0 it acc env)) (.compLoop (.DictComp kx vx (gens2 t0 i0 t1 i1) scope ep) 0 it acc env) := rfl
theorem turnD_1 (it : Value) (D : Addr) (env : Env) : compTurn (.DictComp kx vx (gens2 t0 i0 t1 i1) scope ep) 1 it (.ref D) env = turnOf t1 [] i1.pos it env (bkLastD kx vx D env (.compLoop (.DictComp kx vx (gens2 t0 i0 t1 i1) scope ep) 1 it (.ref D) env)) (.compLoop (.DictComp kx vx (gens2 t0 i0 t1 i1) scope ep) 1 it (.ref D) env) := rfl
def lastD (D : Addr) (tk tv : TE) : L2.St → Hp → (Hp → Prop) → Prop := fun σ H N => tk σ H fun y H1 => tv σ H1 fun z H2 => ∃ kvs k, y = kV k ∧ H2 D = some (.dK kvs) ∧ kvs.length < sizeLine ∧ N (upd H2 D (.dK (putK kvs k z)))
def tDc2 (wi0 wi1 : TI) (g0 g1 : TG) (tk tv : TE) (vs vs1 : List Nat) : TE := fun σ H Q => wi0 σ H fun J H1 => ∀ D, H1 D = none → ∃ W : Nat → Nat → Hp → Prop, (∃ m, W 0 m (upd H1 D (.dK []))) ∧
  ∀ i m H, W i m H → (J.stop i H ∧ Q (.ref D) H) ∨ (J.go i H ∧ ∃ Nx : Hp → Prop, (∀ H', Nx H' → ∃ m', m' < m ∧ W (i + 1) m' H') ∧ ∀ x H', J.yld i H x H' → g0 x (wipe σ vs) H' fun σ2 H2 => wipe σ2 vs = wipe σ vs ∧ lvlR wi1 g1 vs1 (lastD D tk tv) σ2 H2 Nx)
theorem bk_stD {Y : Cx} {kx vx : Expr} {gens : List Comprehension} {scope : Scope} {ep : Pos} {d : Nat} {tg iter : Expr} {acc : Value} {wi : TI} {g : TG} {vs : List Nat} {B : L2.St → Hp → (Hp → Prop) → Prop} {bkf : Value → Sem PySem.Fin} {D : L2.St → L2.St → Prop}
    (hc : Y.calm = true) (hxe : ∀ e s, ¬ Y.xe e s) (hgen : gens[d + 1]? = some ⟨tg, iter, [], 0⟩) (hs : ∀ x, foldedSetIterable iter Y.env x = pure x) (hi : PI Y tg iter wi) (hg : PG Y tg g)
    (hT : ∀ it, compTurn (.DictComp kx vx gens scope ep) (d + 1) it acc Y.env = turnOf tg [] iter.pos it Y.env (bkf it) (.compLoop (.DictComp kx vx gens scope ep) (d + 1) it acc Y.env))
    (hb : ∀ it pl s σ H (Nx : Hp → Prop) (Q : PySem.Fin → Shared → Prop) (E : Value → Shared → Prop), L2.Inv Y pl σ H s → B σ H Nx → (∀ σ' H' s', L2.Inv Y pl σ' H' s' → D σ σ' → Nx H' → Q (.again (.compLoop (.DictComp kx vx gens scope ep) (d + 1) it acc Y.env)) s') → wpAny (model Y.prog Y.w) Y.A (bkf it) Q E s)
    (hD : ∀ σ σ2 σ', wipe σ2 vs = wipe σ vs → D σ2 σ' → Le (wipe σ vs) σ') :
    ∀ pl s σ H (Nx : Hp → Prop) (Q : PySem.Fin → Shared → Prop) (E : Value → Shared → Prop) (c : Code), L2.Inv Y pl σ H s → lvlR wi g vs B σ H Nx → (∀ H' s', L2.Inv Y pl (wipe σ vs) H' s' → Nx H' → Q (.again c) s') → wpAny (model Y.prog Y.w) Y.A (bkIn iter (.DictComp kx vx gens scope ep) d acc Y.env c) Q E s := by
  intro pl s σ H Nx Q E c I hL hQ
  unfold bkIn
  refine wpAny_bind (wpAny_mono (hi.run pl s σ H _ I hL) (fun v s1 h1 => ?_) (fun e s z => (hxe e s z).elim))
  refine wpAny_bind (wpAny_standAt ?_)
  rw [hs v]
  refine wpAny_bind (wpAny_pure ?_)
  refine wpAny_bind (wpAny_holding (wpAny_mono h1 (fun itv s2 ⟨it, fp, tn, J, H2, e, I2, T, st2, f2, W, ⟨m, w0⟩, turn⟩ => ?_) (fun e s z => (hxe e s z).elim)))
  subst e
  have I2' : L2.Inv Y pl (wipe σ vs) H2 s2 := Inv.weak I2 (Le.wipe σ vs).1 (Le.wipe σ vs).2
  have loop : ∀ R : Result → Shared → Prop, (∀ s' H', L2.Inv Y pl (wipe σ vs) H' s' → Nx H' → R (.ok .next) s') → codeAny (model Y.prog Y.w) Y.A (.compLoop (.DictComp kx vx gens scope ep) (d + 1) (.ref it) acc Y.env) R s2 := fun R hR =>
    loop_lvD (Y := Y) (σ0 := wipe σ vs) (C := fun σ2 => wipe σ2 vs = wipe σ vs) (B := B) (tt := tYes) (W := W) (N := Nx) hc hxe (hT (.ref it)) T hg pts_nil
      (fun pl2 s σ2 H Nx2 Q E I hC hB hq => hb (.ref it) (pl ++ pl2) s σ2 H Nx2 Q E I hB fun σ' H' s' I' hd nx => hq σ' H' s' I' (hD σ σ2 σ' hC hd) nx)
      (fun σ2 hC => by have z := Le.wipe σ2 vs; rw [hC] at z; exact z) turn hR m 0 H2 s2 I2' st2 f2 w0
  refine wpAny_bind (wpAny_runOwn (h := none) (start_lvD hgen ?_ ?_))
  · exact loop _ fun s' H' I' nx => wpAny_pure (hQ H' s' I' nx)
  · exact T.self _ 0 s2 _ _ st2 (loop _ fun s' H' I' nx => wpAny_pure (hQ H' s' I' nx))
theorem last_stD {Y : Cx} {kx vx : Expr} {D : Addr} {tk tv : TE} (hxe : ∀ e s, ¬ Y.xe e s) (hk : PE Y kx tk) (he : PE Y vx tv) :
    ∀ pl s σ H (Nx : Hp → Prop) (Q : PySem.Fin → Shared → Prop) (E : Value → Shared → Prop) (c : Code), L2.Inv Y pl σ H s → lastD D tk tv σ H Nx → (∀ H' s', L2.Inv Y pl σ H' s' → Nx H' → Q (.again c) s') → wpAny (model Y.prog Y.w) Y.A (bkLastD kx vx D Y.env c) Q E s := by
  intro pl s σ H Nx Q E c I hL hQ
  unfold bkLastD
  refine wpAny_bind (wpAny_bind (wpAny_mono (hk.run pl s σ H _ I hL) (fun v s1 ⟨y, H1, I1, ry, h1⟩ => ?_) (fun e s z => (hxe e s z).elim)))
  refine wpAny_bind (wpAny_holding (wpAny_mono (he.run pl s1 σ H1 _ I1 h1) (fun u s2 ⟨z, H2, I2, rz, kvs, k, ek, hD, hz, nx⟩ => ?_) (fun e s z => (hxe e s z).elim)))
  subst ek
  exact wpAny_bind (wpAny_standAt (wpAny_holding (d_dictSet I2 hD hz ry rz fun s' I' => wpAny_pure (hQ _ s' I' nx))))
/-- a dict comprehension of two clauses -/
theorem pe_dc2 {X : Cx} {own : List (Str × Nat)} {wi0 wi1 : TI} {g0 g1 : TG} {tk tv : TE} {vs1 : List Nat} (hc : X.calm = true) (hN : X.N.Nodup) (hi : PI X t0 i0 wi0) (ok : BlkOk X.N X.env.scope scope own) (hv1 : ∀ i ∈ vs1, i ∈ own.map (·.2))
    (hg0 : ∀ s H C cl fp, PG (X.blk s H scope (compEnvC scope cl C X.env) fp) t0 g0) (hi1 : ∀ s H C cl fp, PI (X.blk s H scope (compEnvC scope cl C X.env) fp) t1 i1 wi1) (hg1 : ∀ s H C cl fp, PG (X.blk s H scope (compEnvC scope cl C X.env) fp) t1 g1)
    (hk : ∀ s H C cl fp, PE (X.blk s H scope (compEnvC scope cl C X.env) fp) kx tk) (he : ∀ s H C cl fp, PE (X.blk s H scope (compEnvC scope cl C X.env) fp) vx tv)
    (hs : ∀ x, foldedSetIterable i0 X.env x = pure x := by intro x; rfl) (hs1 : ∀ env x, foldedSetIterable i1 env x = pure x := by intro env x; rfl) :
    PE X (.DictComp kx vx (gens2 t0 i0 t1 i1) scope ep) (tDc2 wi0 wi1 g0 g1 tk tv (own.map (·.2)) vs1) := by
  refine ⟨fun pins s σ H Q I h => ?_⟩
  rw [arm_eval_DictComp]
  have hfree : ∀ y ∈ scope.names, y.2 = NameKind.free → ∃ c, X.env.cells.lookup y.1 = some c := fun y hy e => (ok.free y hy e).elim (fun k => I.ok.has y.1 (.inl k)) fun k => I.ok.has y.1 (.inr k)
  refine wpAny_comprehension_free (g := ⟨t0, i0, [], 0⟩) (gs := [⟨t1, i1, [], 0⟩]) rfl hs (closure_ok hfree) ok.kind (fun y hy e => by rw [ok.uniq y hy, e]) ?_
  refine thn (hi.run pins s σ H _ I h) fun xv s1 hx => thn hx fun itv s2 ⟨it, fp, tn, J, H2, e, I2, T, st2, f2, q⟩ => ?_
  subst e
  refine wpAny_newObj_type (newEnv_comp ?_)
  have hDn := I2.hok.fresh (Nat.le_refl _)
  obtain ⟨W, ⟨m0, w0⟩, turn⟩ := q s2.heap.objs.size hDn
  have I3 : L2.Inv X pins σ (upd H2 s2.heap.objs.size (.dK [])) { s2 with heap := s2.heap.push { cls := .type "dict", data := .dict #[] } } := I2.laid (t' := s2.toks) (fun b o e => Heap.get?_push_of_some _ e) (Nat.le_refl _) (dk_empty s2.heap I2.big)
  have sz : ∀ b ∈ fp, b < s2.heap.objs.size := fun b hb => by
    obtain ⟨o, e, _⟩ := T.obj 0 s2.heap st2 b hb
    exact Heap.lt_size e
  have f3 : ∀ b ∈ fp, FpOk X pins (upd H2 s2.heap.objs.size (.dK [])) b ∧ b < (s2.heap.push { cls := .type "dict", data := .dict #[] }).objs.size := fun b hb => by
    have hlt := sz b hb
    refine ⟨⟨?_, (f2 b hb).2⟩, ?_⟩
    · rw [upd_ne (Nat.ne_of_lt hlt)]
      exact (f2 b hb).1
    · rw [Heap.size_push]
      exact Nat.lt_succ_of_lt hlt
  have I4 := block_start I3 ok hN f3
  have st4 : tn 0 (pushCells ((s2.heap.push { cls := .type "dict", data := .dict #[] }).push { cls := .type "dict", data := .dict #[] }) scope.names) := T.keep 0 s2.heap _ st2 fun b hb o e => pushCells_keeps scope.names _ b o (Heap.get?_push_of_some _ (Heap.get?_push_of_some _ e))
  let s3 : Shared := { s2 with heap := s2.heap.push { cls := .type "dict", data := .dict #[] } }
  let H3 : Hp := upd H2 s2.heap.objs.size (.dK [])
  let cl := cellsFrom (s3.heap.objs.size + 1) scope.names (cloFrom X.env.cells scope.names [])
  let Y : Cx := X.blk s3 H3 scope (compEnvC scope cl s3.heap.objs.size X.env) fp
  have hxe : ∀ e s, ¬ Y.xe e s := fun _ _ z => z
  have stat : ∀ {σ' H' s'}, L2.Inv Y [] σ' H' s' → (∀ b ∈ fp, H' b = none) → ∀ b ∈ fp, FpOk Y [] H' b := fun {σ' H' s'} I' hn b hb => ⟨hn b hb, (I'.ok.exf b hb).1, I'.ok.exfs b hb, .inl hb, fun x c e => (I'.ok.exf b hb).2 x c e, fun p hp => by
    have z : p ∈ ([] : List (Addr × Obj)) := hp
    exact nomatch z⟩
  have last := last_stD (Y := Y) (D := s2.heap.objs.size) hxe (hk s3 H3 s3.heap.objs.size cl fp) (he s3 H3 s3.heap.objs.size cl fp)
  have top := bk_stD (Y := Y) (scope := scope) (ep := ep) (d := 0) (acc := .ref s2.heap.objs.size) (vs := vs1) (D := fun σ σ' => σ' = σ) hc hxe (gens := gens2 t0 i0 t1 i1) rfl (hs1 _) (hi1 s3 H3 s3.heap.objs.size cl fp) (hg1 s3 H3 s3.heap.objs.size cl fp) (fun it => turnD_1 it _ _)
    (fun it pl s σ H Nx Q E I hB hq => last pl s σ H Nx Q E _ I hB fun H' s' I' nx => hq σ H' s' I' rfl nx) (fun σ σ2 σ' hw hd => by subst hd; rw [← hw]; exact Le.wipe _ _)
  have loop : ∀ R : Result → Shared → Prop, (∀ s' H', L2.Inv Y [] (wipe σ (own.map (·.2))) H' s' → Q (.ref s2.heap.objs.size) H' → R (.ok .next) s') → codeAny (model Y.prog Y.w) Y.A (.compLoop (.DictComp kx vx (gens2 t0 i0 t1 i1) scope ep) 0 (.ref it) (.ref s2.heap.objs.size) Y.env) R _ := fun R hR =>
    loop_lvD (Y := Y) (σ0 := wipe σ (own.map (·.2))) (pins := []) (C := fun σ2 => wipe σ2 (own.map (·.2)) = wipe σ (own.map (·.2))) (B := lvlR wi1 g1 vs1 (lastD s2.heap.objs.size tk tv)) (tt := tYes) (W := W) (N := fun H' => Q (.ref s2.heap.objs.size) H') hc hxe (turnD_0 _ _ _) T (hg0 s3 H3 s3.heap.objs.size cl fp) pts_nil
      (fun pl2 s σ2 H Nx2 Q E I hC hB hq => top pl2 s σ2 H Nx2 Q E _ I hB fun H' s' I' nx => hq _ H' s' I' (by rw [← hC]; exact Le.wipes hv1) nx)
      (fun σ2 hC => by have z := Le.wipe σ2 (own.map (·.2)); rw [hC] at z; exact z) turn hR m0 0 H3 _ I4 st4 (stat I4 fun b hb => (f3 b hb).1.1) w0
  have fin : ∀ s6 H5, L2.Inv Y [] (wipe σ (own.map (·.2))) H5 s6 → Q (.ref s2.heap.objs.size) H5 → compPost (model X.prog X.w) X.A X.xe none (EP X pins σ Q) (.ref s2.heap.objs.size) s3.heap.objs.size (.ok .next) s6 := fun s6 H5 I6 qq => by
    have I7 : L2.Inv X pins σ H5 s6 := Inv.call' I3 I6.os I6.base I6.hok I6.bare fun b hb => ⟨(f3 b hb).1.2.2.2.1, (f3 b hb).1.2.1, (f3 b hb).1.2.2.2.2.1, (f3 b hb).1.2.2.2.2.2⟩
    have nC : H5 s3.heap.objs.size = none := I6.free
    obtain ⟨m, hn, _⟩ := I6.loc
    obtain ⟨k0, k1, k2, k3, k4, k5⟩ := Inv.fpOk I3 (Nat.le_refl _) nC
    exact ⟨m, hn, fun h'' sb => ⟨.ref s2.heap.objs.size, H5, Inv.turned I7 (fun b o hb e => (sb.2 b hb).trans e) k0 k1 k3 k4 k5, rfl, qq⟩⟩
  refine start_lvD (d := 0) (t := t0) (i := i0) (ifs := []) rfl ?_ ?_
  · exact loop _ fin
  · exact T.self _ 0 _ _ _ st4 (loop _ fin)
end
end Rw
namespace Rw
open PySem PySem.Spec PyProof.Rows L2
/-! ### _rows_of_layers -/
abbrev nRowsOf : List Str := ["program", "parts", "places", "rows", "row", "last", "place", "layer", "name", "_"]
theorem scRowsOf : FnScope nRowsOf ["program", "parts"] (defScope sRowsOf) := ⟨rfl, rfl, rfl, by decide +kernel, rfl, by decide +kernel, by decide +kernel⟩
/-- the place of a name among the layers -/
def plI (PT : List W) (x : Str) : Nat := PT.findIdx fun t => decide (x ∈ t)
def Apart (PT : List W) : Prop := ∀ (i j : Nat) (s t : W) (x : Str), PT[i]? = some s → PT[j]? = some t → x ∈ s → x ∈ t → i = j
theorem plI_at {PT : List W} (h : Apart PT) {i : Nat} {t : W} {x : Str} (ht : PT[i]? = some t) (hx : x ∈ t) : plI PT x = i := by
  have il : i < PT.length := (List.getElem?_eq_some_iff.mp ht).1
  have hl : plI PT x < PT.length := List.findIdx_lt_length.mpr ⟨t, List.mem_of_getElem? ht, decide_eq_true hx⟩
  have := List.findIdx_getElem (p := fun t => decide (x ∈ t)) (w := hl)
  exact h _ _ _ _ x (List.getElem?_eq_getElem hl) ht (of_decide_eq_true this) hx
/-- the last place that a rule's names have -/
def lastI (PT : List W) (r : Rl) : Nat := (own r).foldl (fun m x => max m (plI PT x)) 0
theorem foldl_max (f : Str → Nat) : ∀ (l : W) (m : Nat), m ≤ l.foldl (fun m x => max m (f x)) m ∧ (∀ x ∈ l, f x ≤ l.foldl (fun m x => max m (f x)) m) ∧ (l.foldl (fun m x => max m (f x)) m = m ∨ ∃ x ∈ l, l.foldl (fun m x => max m (f x)) m = f x)
  | [], m => ⟨Nat.le_refl _, (fun _ h => nomatch h), .inl rfl⟩
  | y :: l, m => by
    obtain ⟨h1, h2, h3⟩ := foldl_max f l (max m (f y))
    rw [List.foldl_cons]
    refine ⟨by omega, fun x hx => ?_, ?_⟩
    · rcases List.mem_cons.mp hx with rfl | hx
      · omega
      · exact h2 x hx
    · rcases h3 with h3 | ⟨x, hx, h3⟩
      · rw [h3]
        rcases Nat.le_total m (f y) with h | h
        · exact .inr ⟨y, List.mem_cons_self, Nat.max_eq_right h⟩
        · exact .inl (Nat.max_eq_left h)
      · exact .inr ⟨x, List.mem_cons_of_mem _ hx, h3⟩
theorem lastI_of {PT : List W} {r : Rl} {m : Nat} (h1 : m = 0 ∨ ∃ x ∈ own r, plI PT x = m) (h2 : ∀ x ∈ own r, plI PT x ≤ m) : lastI PT r = m := by
  obtain ⟨a, b, c⟩ := foldl_max (plI PT) (own r) 0
  unfold lastI
  apply Nat.le_antisymm
  · rcases c with c | ⟨x, hx, c⟩
    · rw [c]; exact Nat.zero_le _
    · rw [c]; exact h2 x hx
  · rcases h1 with rfl | ⟨x, hx, rfl⟩
    · exact a
    · exact b x hx
/-- the lists of rules, one for each layer -/
def RowsAt (K : PySem.W.Frag) (H : Hp) (l : Addr) (n : Nat) (g : Nat → List Rl) : Prop := ∃ rA : List Addr, H l = some (.lst (rA.map V.ref)) ∧ rA.length = n ∧ rA.Nodup ∧ ∀ (j : Nat) (a : Addr), rA[j]? = some a → ∃ ys, H a = some (.lst ys) ∧ DpAll K H ys ((g j).map rd)
def rowG (PT : List W) (S : List Rl) (j : Nat) : List Rl := S.filter fun r => decide (lastI PT r = j)
theorem walk_g {J : It} {n : Nat} {G : Hp → Prop} {Y : Nat → Hp → V → Hp → Prop} (w : Walk J n G Y) {H0 : Hp} {Qd : Hp → Prop} {B : V → Hp → (Hp → Prop) → Prop} (Pv : Nat → Hp → Prop) (h0 : Pv 0 H0) (hG : ∀ i H, i ≤ n → Pv i H → G H) (hs : ∀ i x H H', i < n → Pv i H → Y i H x H' → B x H' (Pv (i + 1))) (hd : ∀ H, Pv n H → Qd H) :
    ∃ W : Nat → Nat → Hp → Prop, (∃ m, W 0 m H0) ∧ ∀ i m H, W i m H → (J.stop i H ∧ Qd H) ∨ (J.go i H ∧ ∃ Nx : Hp → Prop, (∀ H', Nx H' → ∃ m', m' < m ∧ W (i + 1) m' H') ∧ ∀ x H', J.yld i H x H' → B x H' Nx) := by
  refine ⟨fun i m H => m = n - i ∧ i ≤ n ∧ Pv i H, ⟨n, by simp, Nat.zero_le _, h0⟩, ?_⟩
  rintro i m H ⟨rfl, hi, p⟩
  have q := hG i H hi p
  by_cases hlt : i < n
  · exact .inr ⟨w.goes i H hlt q, Pv (i + 1), fun H' p' => ⟨n - (i + 1), by omega, rfl, hlt, p'⟩, fun x H' y => hs i x H H' hlt p (w.yields i H x H' hlt q y)⟩
  · have e : i = n := by omega
    subst e
    exact .inl ⟨w.stops H q, hd H p⟩
/-- the places told so far -/
def plF (PT : List W) (ns : W) (x : Str) : Option Int := if x ∈ ns then some ((plI PT x : Nat) : Int) else none
section
variable {P : Program} {w : World} {K : PySem.W.Frag} {mg : Str → Option Value} {base : Heap} {f : Addr} {fd : FuncData} {k : Nat}
def spRowsOf (K : PySem.W.Frag) (C : Addr) : Sp := fun vs H Q _ => ∃ (v : V) (l : Addr) (ys : List V) (S : List Rl) (PT : List W), vs = [v, .ref l] ∧ PgAt K C H v S ∧ (∀ r ∈ S, IsR r) ∧ S.length < 76 ∧ H l = some (.lst ys) ∧ DpAll K H ys (PT.map wd) ∧ Apart PT ∧ PT.flatten.length ≤ 40 ∧ PT.length ≤ 42 ∧ 0 < PT.length ∧ (∀ r ∈ S, ∀ x ∈ own r, x ∈ PT.flatten) ∧
  ∀ H' l2, Same H H' → RowsAt K H' l2 PT.length (rowG PT S) → Q (.ref l2) H'
theorem ok_rowsOf {C f1 pR fR : Addr} {fd1 fdR : FuncData} (F : Fun K "_rows_of_layers" "_rows_of_layers" sRowsOf f fd) (T : Bl mg) (c : Cls K C) (hpR : PropOf K C "rules" pR fR)
    (GR : FnOk P w K mg base CX0 k fR fdR ["self"] (spRules K C)) (bR : Binds K fdR ["self"] [])
    (G1 : FnOk P w K mg base CX0 (k + 1) f1 fd1 ["row"] (spNamesIn K)) (b1 : Binds K fd1 ["row"] []) (k1 : PySem.W.keepIn K (.ref f1) = true) (m1 : mg "_names_in" = some (.ref f1)) : FnOk P w K mg base CX0 (k + 2) f fd ["program", "parts"] (spRowsOf K C) := by
  refine F.ok scRowsOf (fun vs H Q E h => ?_) (fun cdv A outer s H vs Q E hr h => ?_)
  · obtain ⟨v, l, ys, S, PT, rfl, _⟩ := h
    rfl
  obtain ⟨v, l, ys, S, PT, rfl, hS, hI, few, hl, hys, hA, hfl, hpl, hp0, hsub, q⟩ := h
  have hu : (A.deeper (envOfC "_rows_of_layers" (defScope sRowsOf) s.heap.objs.size f cdv)).units + 1 < cLine := by have := hr.un; omega
  refine ⟨_, pss_cons (ps_set (i := 2) scRowsOf.nd rfl (.inr rfl) (pe_dc2 (own := [("place", 6), ("layer", 7), ("name", 8)]) (vs1 := [8]) (g0 := gTup K 2 (gCons (gName 6) (gCons (gName 7) gNil))) (g1 := gName 8) (wi1 := iTup K (tVar 7)) (tk := tVar 8) (tv := tVar 6) (by rfl) scRowsOf.nd (pi_enum (by rfl) T.enum (pa_cons (pv 1) pa_nil)) (blkOk_by (N := nRowsOf) (sc := defScope sRowsOf) (by decide +kernel)) (by decide)
      (fun _ _ _ _ _ => pg_tup (by rfl) (pgs_cons (pg_name (i := 6) scRowsOf.nd rfl (Or.inl rfl)) (pgs_cons (pg_name (i := 7) scRowsOf.nd rfl (Or.inl rfl)) pgs_nil))) (fun _ _ _ _ _ => pi_tup (pv 7)) (fun _ _ _ _ _ => pg_name (i := 8) scRowsOf.nd rfl (Or.inl rfl)) (fun _ _ _ _ _ => pv 8) (fun _ _ _ _ _ => pv 6)))
    (pss_cons (ps_setLc (i := 3) (own := [("_", 9)]) (g := gName 9) (te := tLst tNil) (by rfl) scRowsOf.nd rfl rfl (sw_true rfl rfl rfl (by decide +kernel)) (pi_list (pv 1)) (blkOk_by (N := nRowsOf) (sc := defScope sRowsOf) (by decide +kernel))
        (fun _ _ _ _ _ => pg_name (i := 9) scRowsOf.nd rfl (Or.inl rfl)) (fun _ _ _ _ _ => pts_nil) (fun _ _ _ _ _ => pe_lst pa_nil))
    (pss_cons (ps_for PassesOwn.never rfl (pi_tup (pe_prop (pv 0) c hpR GR hr bR .nil pass0 rfl)) (pg_name (i := 4) scRowsOf.nd rfl (.inl rfl))
      (pss_cons (ps_set (i := 5) scRowsOf.nd rfl (.inl rfl) (pe_callB (cr_max rfl) (by rfl) T.max (by decide +kernel) (pa_cons (pe_op op_cat (pe_lst (pa_cons pe_int pa_nil)) (pe_lc (own := [("name", 8)]) (g := gName 8) (te := tDGet (tVar 2) (tVar 8)) (by rfl) scRowsOf.nd (pi_list (pe_call G1 hr (by rfl) m1 k1 b1 .nil pass0 (pa_cons (pv 4) pa_nil))) (blkOk_by (N := nRowsOf) (sc := defScope sRowsOf) (by decide +kernel))
          (fun _ _ _ _ _ => pg_name (i := 8) scRowsOf.nd rfl (Or.inl rfl)) (fun _ _ _ _ _ => pts_nil) (fun _ _ _ _ _ => pe_dget hu (pv 2) (pv 8) (fun _ _ => rfl)))) pa_nil)))
      (pss_one (ps_expr (pe_bm PySem.F.plainAttrs_list PySem.F.slot_list_append PySem.F.type_list_append mt_append (pe_ix ix_list (pv 3) (pv 5) (fun _ _ => rfl)) (pa_cons (pv 4) pa_nil))))))
    (pss_one (ps_ret (pv 3))))), ?_⟩
  obtain ⟨av, dx, t0, ys0, rfl, i1, i2, i3⟩ := id hS
  have yl : ys.length = PT.length := by rw [dpAll_len hys, List.length_map]
  -- places
  refine ⟨.ref l, rfl, l, ys, rfl, SqL.of hl, fun D hD => ?_⟩
  have lenT : ∀ i, (PT.take i).flatten.length ≤ 40 := fun i => by
    refine Nat.le_trans ?_ hfl
    conv => rhs; rw [← List.take_append_drop i PT]
    rw [List.flatten_append, List.length_append]
    omega
  refine walk_g walk_enum (fun i H1 => Same H H1 ∧ MkS H1 D (PT.take i).flatten.length (plF PT (PT.take i).flatten)) ⟨same_new hD _, [], upd_same, Nat.zero_le _, fun _ => rfl⟩ (fun i H1 _ h => SqL.of (h.1 _ _ hl)) (fun i x H1 H1' hi h hy => ?_) (fun H1 h => ?_)
  · obtain ⟨sm, hM⟩ := h
    obtain ⟨T0, x1, y1, rfl, hT, rfl, e1, e2⟩ := hy
    obtain rfl : V.int (i : Int) = x1 := Option.some.inj e1
    have e2 : ys[i]? = some y1 := e2
    obtain ⟨dd, hdd, hxd⟩ := dpAll_at' hys e2
    obtain ⟨t, ht, rfl⟩ := map_at hdd
    obtain ⟨b, rfl, hb⟩ := of_wd hxd
    have sT := same_new hT (.tup [.int (i : Int), .ref b])
    have s2 := sm.trans sT
    have ft : (PT.take (i + 1)).flatten = (PT.take i).flatten ++ t := by rw [take_snoc ht, List.flatten_append, List.flatten_singleton]
    have f40 := lenT (i + 1)
    rw [ft, List.length_append] at f40
    refine ⟨T0, [.int (i : Int), .ref b], rfl, SqT.of upd_same, rfl, .int (i : Int), [.ref b], rfl, .ref b, [], rfl, rfl, rfl, ?_⟩
    refine ⟨.ref b, rfl, b, rfl, ⟨_, same_tup s2 hb⟩, ?_⟩
    obtain ⟨kv0, g1, g2, g3⟩ := hM
    refine walk_tup (xs := t.map V.str) (fun j H2 => Same H H2 ∧ MkS H2 D ((PT.take i).flatten.length + j) (plF PT ((PT.take i).flatten ++ t.take j))) ⟨s2, kv0, sT _ _ g1, g2, by rw [List.take_zero, List.append_nil]; exact g3⟩ (fun j H2 _ h => same_tup h.1 hb) (fun j x H2 hx h => ?_) (fun H2 h => ?_)
    · obtain ⟨sm2, kvs, hk, hlk, hv⟩ := h
      obtain ⟨z, hz, rfl⟩ := map_at hx
      have jl : j < t.length := (List.getElem?_eq_some_iff.mp hz).1
      refine ⟨rfl, .str z, rfl, .int (i : Int), rfl, kvs, .inr z, rfl, hk, small_line' (by omega), same_put sm2 hD, _, upd_same, ?_, fun x => ?_⟩
      · refine Nat.le_trans (length_putK _ _ _) ?_
        omega
      · rw [valV_put, take_snoc hz, ← List.append_assoc]
        have pz := plI_at hA ht (List.mem_of_getElem? hz)
        unfold plF
        by_cases e : x = z
        · subst e
          rw [if_pos rfl, if_pos (by simp), pz]
          rfl
        · rw [if_neg (fun q => e (by injection q)), hv x]
          unfold plF
          by_cases m : x ∈ (PT.take i).flatten ++ t.take j
          · rw [if_pos m, if_pos (List.mem_append_left _ m)]
          · rw [if_neg m, if_neg (fun q => (List.mem_append.mp q).elim m fun q => e (List.mem_singleton.mp q))]
    · obtain ⟨sm2, hM2⟩ := h
      rw [List.length_map, List.take_length, ← ft, ← List.length_append, ← ft] at hM2
      exact ⟨sm2, hM2⟩
  obtain ⟨s1, kvs, hk1, hlk, hv⟩ := h
  rw [yl, List.take_length] at hv
  have hl1 := s1 _ _ hl
  -- rows
  refine ⟨.ref l, rfl, l, rfl, ⟨_, SqL.of hl1⟩, fun D2 hD2 => ?_⟩
  refine lc_list (xs := ys) (fun i H2 => Same H1 H2 ∧ ∃ rA : List Addr, H2 D2 = some (.lst (rA.map V.ref)) ∧ rA.length = i ∧ rA.Nodup ∧ ∀ a ∈ rA, H2 a = some (.lst []) ∧ a ≠ D2 ∧ H1 a = none) ⟨same_new hD2 _, [], upd_same, rfl, List.nodup_nil, (fun _ z => nomatch z)⟩ (fun i H2 _ h => SqL.of (h.1 _ _ hl1)) (fun i x H2 hx h => ?_) (fun H2 h => ?_)
  · obtain ⟨sm, rA, r1, r2, r3, r4⟩ := h
    have il : i < ys.length := (List.getElem?_eq_some_iff.mp hx).1
    refine ⟨rfl, by show 0 ≤ sizeLine; decide, fun p hp => ?_⟩
    have sp := same_new hp (.lst [])
    have hD3 := sp _ _ r1
    have npD : p ≠ D2 := fun z => by rw [z, r1] at hp; cases hp
    have nin : ∀ a ∈ rA, a ≠ p := fun a ha z => by
      have := (r4 a ha).1
      rw [z, hp] at this
      cases this
    have hp1 : H1 p = none := by
      cases e : H1 p with
      | none => rfl
      | some u => rw [sm _ _ e] at hp; cases hp
    refine ⟨_, hD3, small_line' (by rw [List.length_map]; omega), same_put (sm.trans sp) hD2, rA ++ [p], by rw [upd_same, List.map_append]; rfl, by rw [List.length_append, r2]; rfl, List.nodup_append.mpr ⟨r3, by simp, fun a ha b hb => by rw [List.mem_singleton.mp hb]; exact nin a ha⟩, fun a ha => ?_⟩
    rcases List.mem_append.mp ha with ha | ha
    · obtain ⟨q1, q2, q3⟩ := r4 a ha
      exact ⟨(upd_ne q2).trans (sp _ _ q1), q2, q3⟩
    · rw [List.mem_singleton.mp ha]
      exact ⟨(upd_ne npD).trans upd_same, npD, hp1⟩
  obtain ⟨s12, rA, r1, r2, r3, r4⟩ := h
  rw [yl] at r2
  have s2 := s1.trans s12
  have hk2 := s12 _ _ hk1
  have nDk : ∀ a ∈ rA, a ≠ D := fun a ha z => by
    have := (r4 a ha).2.2
    rw [z, hk1] at this
    cases this
  -- the rules
  refine ⟨.ref av, rfl, av, dx, _, rfl, s2 _ _ i1, .ref av, S, rfl, hS.same s2, fun t ys2 ht2 hys2 => ?_⟩
  refine ⟨t, rfl, ⟨_, ht2⟩, for_tup (xs := ys2) (fun i σ H3 => (∃ y4 y5, σ = [some (.ref av), some (.ref l), some (.ref D), some (.ref D2), y4, y5, none, none, none, none]) ∧ Stay H2 H3 ∧ Same H H3 ∧ H3 D = some (.dK kvs) ∧ H3 D2 = some (.lst (rA.map V.ref)) ∧ (∀ (j : Nat) (a : Addr), rA[j]? = some a → ∃ zs, H3 a = some (.lst zs) ∧ DpAll K H3 zs ((rowG PT (S.take i) j).map rd))) ⟨⟨_, _, rfl⟩, Stay.same fun _ _ e => e, s2, hk2, r1, fun j a ha => ⟨[], (r4 a (List.mem_of_getElem? ha)).1, .nil⟩⟩ (fun i σ H3 _ h => h.2.1.seq ht2) (fun i x σ H3 hx h => ?_) (fun σ H3 h => ?_)⟩
  · obtain ⟨⟨y4, y5, rfl⟩, st3, sm3, hk3, hD3, hrows⟩ := h
    obtain ⟨dd, hdd, hxd⟩ := dpAll_at' hys2 hx
    obtain ⟨r, hr0, rfl⟩ := map_at hdd
    have hrS := List.mem_of_getElem? hr0
    have hr' := hI r hrS
    have hxd3 := st3.rd hxd
    have olen := own_len hr'
    have hl9z : ∀ z ∈ own r, valV kvs (.inr z) = some (.int ((plI PT z : Nat) : Int)) := fun z hz => by
      rw [hv z]
      unfold plF
      rw [if_pos (hsub r hrS z hz)]
      rfl
    refine ⟨by show 1 ≤ sizeLine; decide, fun l9 hl9 => ?_⟩
    have s4 := same_new hl9 (.lst [.int 0])
    refine ⟨x, rfl, ?_⟩
    dsimp only [tNil]
    refine ⟨x, r, rfl, dp_same s4 _ _ hxd3, hr', fun H5 v5 s5 ⟨D5, e5, hD5⟩ => ?_⟩
    subst e5
    refine ⟨D5, rfl, ⟨_, SqL.of hD5⟩, fun D6 hD6 => ?_⟩
    have s45 := s4.trans s5
    refine lc_list (xs := (own r).map V.str) (fun j H6 => Same H5 H6 ∧ H6 D6 = some (.lst (((own r).take j).map fun z => V.int ((plI PT z : Nat) : Int)))) ⟨same_new hD6 _, upd_same⟩ (fun j H6 _ h => SqL.of (h.1 _ _ hD5)) (fun j y H6 hy h => ?_) (fun H6 h => ?_)
    · obtain ⟨sm6, hd6⟩ := h
      obtain ⟨z, hz, rfl⟩ := map_at hy
      have jl : j < (own r).length := (List.getElem?_eq_some_iff.mp hz).1
      refine ⟨rfl, .ref D, rfl, .str z, rfl, D, _, rfl, by rw [← hl9z z (List.mem_of_getElem? hz)]; exact DGet.k (k := .inr z) (sm6 _ _ (s45 _ _ hk3)), ?_⟩
      refine ⟨_, hd6, small_line' (by rw [List.length_map, List.length_take]; omega), same_put sm6 hD6, ?_⟩
      rw [upd_same, take_snoc hz, List.map_append]
      rfl
    obtain ⟨sm6, hd6⟩ := h
    rw [List.length_map, List.take_length] at hd6
    have h9 := (s5.trans sm6) _ _ (upd_same : (upd H3 l9 (.lst [.int 0])) l9 = _)
    refine ⟨l9, D6, [.int 0], _, rfl, rfl, h9, hd6, by rw [List.length_map]; show 1 + _ ≤ _; rw [sizeLine_eq]; omega, fun p hp => ?_⟩
    have s7 := same_new hp (.lst ([V.int 0] ++ (own r).map fun z => V.int ((plI PT z : Nat) : Int)))
    let ns : List Int := 0 :: (own r).map fun z => ((plI PT z : Nat) : Int)
    have ens : ([V.int 0] ++ (own r).map fun z => V.int ((plI PT z : Nat) : Int)) = ns.map V.int := by
      show V.int 0 :: _ = V.int 0 :: _
      rw [List.map_map]
      rfl
    refine ⟨p, ns, rfl, by rw [← ens]; exact SqL.of upd_same, by show 0 < _ + 1; omega, fun m hm hmax => ?_⟩
    have s37 := s45.trans (sm6.trans s7)
    -- the place
    have em : m = ((lastI PT r : Nat) : Int) := by
      rcases List.mem_cons.mp hm with rfl | hm
      · have z := lastI_of (PT := PT) (r := r) (m := 0) (.inl rfl) fun x hx => by
          have := hmax _ (List.mem_cons_of_mem _ (List.mem_map.mpr ⟨x, hx, rfl⟩))
          omega
        rw [z]
        rfl
      · obtain ⟨x, hx, rfl⟩ := List.mem_map.mp hm
        rw [lastI_of (PT := PT) (r := r) (m := plI PT x) (.inr ⟨x, hx, rfl⟩) fun y hy => by
          have := hmax _ (List.mem_cons_of_mem _ (List.mem_map.mpr ⟨y, hy, rfl⟩))
          omega]
    subst em
    have lt : lastI PT r < rA.length := by
      rw [r2]
      obtain ⟨_, _, c⟩ := foldl_max (plI PT) (own r) 0
      unfold lastI
      rcases c with c | ⟨x, hx, c⟩
      · rw [c]; exact hp0
      · rw [c]
        obtain ⟨u, hu, hxu⟩ := List.mem_flatten.mp (hsub r hrS x hx)
        exact List.findIdx_lt_length.mpr ⟨u, hu, decide_eq_true hxu⟩
    obtain ⟨a, ha⟩ : ∃ a, rA[lastI PT r]? = some a := ⟨_, List.getElem?_eq_getElem lt⟩
    obtain ⟨zs, hza, hzs⟩ := hrows _ a ha
    have hza7 := s37 _ _ hza
    have zl : zs.length ≤ 76 := by
      rw [dpAll_len hzs, List.length_map]
      refine Nat.le_trans (List.length_filter_le _ _) ?_
      rw [List.length_take]
      omega
    obtain ⟨a1, a2, a3⟩ := r4 a (List.mem_of_getElem? ha)
    let H7 : Hp := upd H6 p (.lst ([V.int 0] ++ (own r).map fun z => V.int ((plI PT z : Nat) : Int)))
    let H8 : Hp := upd H7 a (.lst (zs ++ [x]))
    refine ⟨.ref D2, rfl, .int _, rfl, D2, _, _, .ref a, rfl, rfl, SqL.of (s37 _ _ hD3), atI_nat (by rw [List.getElem?_map, ha]; rfl), .inl ⟨rfl, _, SqL.of hza7⟩, x, rfl, a, zs, x, rfl, rfl, hza7, small_line' (by omega), ?_⟩
    have st7 : Stay H7 H8 := Stay.put (by rw [show H7 a = _ from hza7]; exact True.intro) _
    have st38 : Stay H3 H8 := (Stay.same s37).trans st7
    have ha0 : H a = none := by
      cases e : H a with
      | none => rfl
      | some u => rw [s1 _ _ e] at a3; cases a3
    have oth : ∀ b u, b ≠ a → H3 b = some u → H8 b = some u := fun b u nb e => (upd_ne nb).trans (s37 _ _ e)
    refine ⟨⟨_, _, rfl⟩, st3.trans st38, same_put (sm3.trans s37) ha0, oth _ _ (nDk a (List.mem_of_getElem? ha)).symm hk3, oth _ _ a2.symm hD3, fun j b hb => ?_⟩
    have ej : rowG PT (S.take (i + 1)) j = rowG PT (S.take i) j ++ if lastI PT r = j then [r] else [] := by
      unfold rowG
      rw [filt_one hr0]
      by_cases e : lastI PT r = j
      · rw [if_pos e, if_pos (decide_eq_true e)]
      · rw [if_neg e, if_neg (by simp [e])]
    by_cases e : j = lastI PT r
    · subst e
      obtain rfl : a = b := by rw [ha] at hb; exact Option.some.inj hb
      refine ⟨_, upd_same, ?_⟩
      rw [ej, if_pos rfl, List.map_append]
      exact dpAll_app (st38.dpAll _ _ (okDs_rd _) hzs) (.cons (st38.rd hxd3) .nil)
    · have nb : b ≠ a := fun z => e (nodup_at r3 hb (by rw [z]; exact ha))
      obtain ⟨us, hu1, hu2⟩ := hrows j b hb
      refine ⟨us, oth _ _ nb hu1, ?_⟩
      rw [ej, if_neg (fun z => e z.symm), List.append_nil]
      exact st38.dpAll _ _ (okDs_rd _) hu2
  · obtain ⟨⟨y4, y5, rfl⟩, st3, sm3, hk3, hD3, hrows⟩ := h
    rw [dpAll_len hys2, List.length_map, List.take_length] at hrows
    exact ⟨.ref D2, rfl, q H3 D2 sm3 ⟨rA, hD3, r2, r3, hrows⟩⟩
end
end Rw
namespace Rw
open PySem PySem.Spec PyProof.Rows L2
/-! ### all pairs of a layer -/
theorem every_tail : ∀ {own t : W}, t ∈ (everyW own).tail → t ≠ []
  | [], t, h => nomatch h
  | x :: own, t, h => by
    have h : t ∈ (everyW own).map (fun t => x :: t) ++ (everyW own).tail := h
    rcases List.mem_append.mp h with h | h
    · obtain ⟨s, _, rfl⟩ := List.mem_map.mp h
      exact List.cons_ne_nil _ _
    · exact every_tail h
theorem every_nodup : ∀ {own : W}, own.Nodup → (everyW own).Nodup
  | [], _ => by simp [everyW]
  | x :: own, h => by
    obtain ⟨h1, h2⟩ := List.nodup_cons.mp h
    have ih := every_nodup h2
    unfold everyW
    refine List.nodup_cons.mpr ⟨fun z => ?_, List.nodup_append.mpr ⟨?_, List.Sublist.nodup (List.tail_sublist _) ih, fun a ha b hb e => ?_⟩⟩
    · rcases List.mem_append.mp z with z | z
      · obtain ⟨s, _, e⟩ := List.mem_map.mp z
        exact nomatch e
      · exact every_tail z rfl
    · refine List.pairwise_map.mpr (ih.imp fun {a b} z e => z ?_)
      injection e
    · obtain ⟨s, _, rfl⟩ := List.mem_map.mp ha
      subst e
      have := (mem_every.mp (every_ne hb)).subset List.mem_cons_self
      exact h1 this
theorem okW_nil (ns t : W) : okW ns [] t = true := rfl
theorem every_nil (ns : W) : (everyW ns).filter (okW ns []) = everyW ns := List.filter_eq_self.mpr fun t _ => okW_nil ns t
theorem num_minus0 {own h t : W} (hown : IsW own) (sh : h.Sublist own) (st : t.Sublist own) : Builtin.bitAnd (num own h) (Builtin.bitNot (num own t)) = num own (minus h t) := num_diff own h t
theorem inB_iff {own h t : W} (hown : IsW own) (sh : h.Sublist own) (st : t.Sublist own) : inB own [] h t = true ↔ ∀ z ∈ h, z ∈ t := by
  unfold inB
  rw [num_minus0 hown sh st]
  have e : agreeI (([] : List Rl).map (numR own)) (num own h) (num own t) = true := rfl
  rw [e, Bool.and_true, Bool.not_eq_true']
  constructor
  · intro z x hx
    refine Classical.byContradiction fun nx => ?_
    have z0 : num own (minus h t) = 0 := by simpa [nz] using z
    exact num_zero.mp z0 x (sh.subset hx) (List.mem_filter.mpr ⟨hx, by simp [nx]⟩)
  · intro z
    have e2 : minus h t = [] := List.filter_eq_nil_iff.mpr fun x hx => by simp [z x hx]
    rw [e2, num_nil]
    rfl
theorem mem_pairs0 {own : W} (hown : IsW own) {p : W × W} : p ∈ pairsB own [] ↔ p.1 ∈ everyW own ∧ p.2 ∈ everyW own ∧ ∀ z ∈ p.1, z ∈ p.2 := by
  unfold pairsB
  rw [List.mem_flatMap]
  constructor
  · rintro ⟨h, hh, hp⟩
    unfold rowB at hp
    rw [every_nil] at hp
    obtain ⟨t, ht, rfl⟩ := List.mem_map.mp hp
    obtain ⟨h1, h2⟩ := List.mem_filter.mp ht
    exact ⟨hh, h1, (inB_iff hown (mem_every.mp hh) (mem_every.mp h1)).mp h2⟩
  · rintro ⟨h1, h2, h3⟩
    refine ⟨p.1, h1, ?_⟩
    unfold rowB
    rw [every_nil]
    exact List.mem_map.mpr ⟨p.2, List.mem_filter.mpr ⟨h2, (inB_iff hown (mem_every.mp h1) (mem_every.mp h2)).mpr h3⟩, rfl⟩
theorem pairs_nodup {own : W} (hown : IsW own) : (pairsB own []).Nodup := by
  have nd := every_nodup (upX_nodup hown.up)
  unfold pairsB List.Nodup
  rw [List.pairwise_flatMap]
  refine ⟨fun h _ => ?_, nd.imp fun {a b} ne x hx y hy e => ?_⟩
  · unfold rowB
    rw [every_nil]
    exact List.pairwise_map.mpr ((nd.sublist List.filter_sublist).imp fun {a b} ne e => ne (congrArg Prod.snd e))
  · unfold rowB at hx hy
    obtain ⟨_, _, rfl⟩ := List.mem_map.mp hx
    obtain ⟨_, _, rfl⟩ := List.mem_map.mp hy
    exact ne (congrArg Prod.fst e)
theorem pairs_len {own : W} (l7 : own.length ≤ 7) : (pairsB own []).length ≤ 16384 := by
  have el : (everyW own).length ≤ 128 := by
    rw [every_len]
    exact Nat.le_trans (Nat.pow_le_pow_right (by decide) l7) (by decide)
  have z : ∀ (L : List W), (L.flatMap (rowB own [])).length ≤ L.length * 128 := by
    intro L
    induction L with
    | nil => simp
    | cons h L ih =>
      rw [List.flatMap_cons, List.length_append, List.length_cons]
      have : (rowB own [] h).length ≤ 128 := by
        unfold rowB
        rw [List.length_map, every_nil]
        exact Nat.le_trans (List.length_filter_le _ _) el
      omega
  exact Nat.le_trans (z _) (by omega)
theorem mem_dg0 {own t : W} (hown : IsW own) : t ∈ dgT (pairsB own []) ↔ t ∈ everyW own := by
  rw [mem_dgT, mem_pairs0 hown]
  exact ⟨fun h => h.1, fun h => ⟨h, h, fun _ z => z⟩⟩
theorem dg_nodup {R : List (W × W)} (nd : R.Nodup) : (dgT R).Nodup := by
  unfold dgT
  refine List.pairwise_map.mpr ((nd.sublist List.filter_sublist).imp_of_mem fun {a b} ha hb ne e => ne ?_)
  have h1 : a.1 = a.2 := of_decide_eq_true (List.mem_filter.mp ha).2
  have h2 : b.1 = b.2 := of_decide_eq_true (List.mem_filter.mp hb).2
  exact Prod.ext (by rw [h1, h2, e]) e
theorem dg_len {own : W} (hown : IsW own) : (dgT (pairsB own [])).length ≤ 2 ^ own.length := by
  rw [← every_len]
  exact len_le (dg_nodup (pairs_nodup hown)) fun t ht => (mem_dg0 hown).mp ht
/-! ### what a rule asks of the earlier names -/
def AsT (E : W) (r : Rl) : Pr := (inn (r.2.1 ++ r.2.2.1) E, inn r.2.2.2 E)
def asksB (p : Pr) (ws : W) : Bool := sub p.1 ws && !meets p.2 ws
def tkB (r : Rl) (p : W × W) : Bool := unB (·.2) r p || unB (·.1) r p
/-- what goes when the earlier answer is ws -/
def gnB (E : W) (Rs : List Rl) (ws : W) (p : W × W) : Bool := Rs.any fun r => asksB (AsT E r) ws && tkB (lessR r E) p
def wlOne (E Ly : W) (Rs : List Rl) (ws : W) : List W := ((dgT (pairsB Ly [])).filter (alB (pairsB Ly []) (gnB E Rs ws))).map fun m => ws ++ m
def wlF (E Ly : W) (Rs : List Rl) (F : List W) : List W := F.flatMap (wlOne E Ly Rs)
theorem wlOne_len {E Ly : W} {Rs : List Rl} {ws : W} (h : IsW Ly) : (wlOne E Ly Rs ws).length ≤ 2 ^ Ly.length := by
  unfold wlOne
  rw [List.length_map]
  exact Nat.le_trans (List.length_filter_le _ _) (dg_len h)
theorem wlF_len {E Ly : W} {Rs : List Rl} (h : IsW Ly) : ∀ F : List W, (wlF E Ly Rs F).length ≤ F.length * 2 ^ Ly.length
  | [] => by simp [wlF]
  | a :: F => by
    have ih := wlF_len (E := E) (Rs := Rs) h F
    have := wlOne_len (E := E) (Rs := Rs) (ws := a) h
    unfold wlF at ih ⊢
    rw [List.flatMap_cons, List.length_append, List.length_cons, Nat.add_mul]
    omega
/-! ### the dict of what is ruled out -/
structure RO (E : W) (R : List (W × W)) (Rs : List Rl) (L : List (Pr × Int)) : Prop where
  val : ∀ e ∈ L, e.2 = msk R fun p => Rs.any fun r => decide (AsT E r = e.1) && tkB (lessR r E) p
  has : ∀ r ∈ Rs, ∃ e ∈ L, e.1 = AsT E r
  few : L.length ≤ Rs.length
  src : ∀ e ∈ L, ∃ r ∈ Rs, e.1 = AsT E r
theorem RO.nil {E : W} {R : List (W × W)} : RO E R [] [] := ⟨(fun _ z => nomatch z), (fun _ z => nomatch z), Nat.le_refl _, (fun _ z => nomatch z)⟩
/-- one rule more; what the entry of its asking was -/
theorem RO.put {E : W} {R : List (W × W)} {Rs : List Rl} {L : List (Pr × Int)} (h : RO E R Rs L) (r : Rl) {o : Int} (ho : (∃ e ∈ L, e.1 = AsT E r ∧ e.2 = o) ∨ ((∀ e ∈ L, e.1 ≠ AsT E r) ∧ o = 0)) {L' : List (Pr × Int)}
    (hL : ((∃ e ∈ L, e.1 = AsT E r) ∧ L' = L.map fun e => if e.1 = AsT E r then (e.1, Builtin.bitOr o (msk R (tkB (lessR r E)))) else e) ∨ ((∀ e ∈ L, e.1 ≠ AsT E r) ∧ L' = L ++ [(AsT E r, Builtin.bitOr o (msk R (tkB (lessR r E))))])) : RO E R (Rs ++ [r]) L' := by
  have eo : o = msk R fun p => Rs.any fun q => decide (AsT E q = AsT E r) && tkB (lessR q E) p := by
    rcases ho with ⟨e, he, e1, e2⟩ | ⟨no, rfl⟩
    · rw [← e2, h.val e he, e1]
    · refine (msk_zero.mpr fun p _ => ?_).symm
      rw [List.any_eq_false]
      intro q hq
      obtain ⟨e, he, e1⟩ := h.has q hq
      have : AsT E q ≠ AsT E r := fun z => no e he (e1.trans z)
      simp [this]
  have en : Builtin.bitOr o (msk R (tkB (lessR r E))) = msk R fun p => (Rs ++ [r]).any fun q => decide (AsT E q = AsT E r) && tkB (lessR q E) p := by
    rw [eo, msk_or]
    refine msk_congr fun p _ => ?_
    rw [List.any_append]
    simp
  have old : ∀ e ∈ L, e.1 ≠ AsT E r → e.2 = msk R fun p => (Rs ++ [r]).any fun q => decide (AsT E q = e.1) && tkB (lessR q E) p := fun e he ne => by
    rw [h.val e he]
    refine msk_congr fun p _ => ?_
    rw [List.any_append]
    have : AsT E r ≠ e.1 := fun z => ne z.symm
    simp [this]
  rcases hL with ⟨⟨e0, he0, ee0⟩, rfl⟩ | ⟨no, rfl⟩
  · refine ⟨fun e he => ?_, fun q hq => ?_, by rw [List.length_map, List.length_append]; have := h.few; omega, fun e he => ?_⟩
    · obtain ⟨e1, he1, rfl⟩ := List.mem_map.mp he
      by_cases c : e1.1 = AsT E r
      · rw [if_pos c, c]
        exact en
      · rw [if_neg c]
        exact old e1 he1 c
    · have key : ∃ e ∈ L, e.1 = AsT E q := by
        rcases List.mem_append.mp hq with hq | hq
        · exact h.has q hq
        · rw [List.mem_singleton.mp hq]
          exact ⟨e0, he0, ee0⟩
      obtain ⟨e, he, ee⟩ := key
      refine ⟨_, List.mem_map.mpr ⟨e, he, rfl⟩, ?_⟩
      by_cases c : e.1 = AsT E r
      · rw [if_pos c]
        exact ee
      · rw [if_neg c]
        exact ee
    · obtain ⟨e1, he1, rfl⟩ := List.mem_map.mp he
      obtain ⟨q, hq, eq⟩ := h.src e1 he1
      refine ⟨q, List.mem_append_left _ hq, ?_⟩
      by_cases c : e1.1 = AsT E r
      · rw [if_pos c]
        exact eq
      · rw [if_neg c]
        exact eq
  · refine ⟨fun e he => ?_, fun q hq => ?_, by rw [List.length_append, List.length_append]; have := h.few; simp; omega, fun e he => ?_⟩
    · rcases List.mem_append.mp he with he | he
      · exact old e he (no e he)
      · rw [List.mem_singleton.mp he]
        exact en
    · rcases List.mem_append.mp hq with hq | hq
      · obtain ⟨e, he, ee⟩ := h.has q hq
        exact ⟨e, List.mem_append_left _ he, ee⟩
      · rw [List.mem_singleton.mp hq]
        exact ⟨_, List.mem_append_right _ List.mem_cons_self, rfl⟩
    · rcases List.mem_append.mp he with he | he
      · obtain ⟨q, hq, eq⟩ := h.src e he
        exact ⟨q, List.mem_append_left _ hq, eq⟩
      · rw [List.mem_singleton.mp he]
        exact ⟨r, List.mem_append_right _ List.mem_cons_self, rfl⟩
/-- what all entries that are asked for take together -/
theorem RO.gone {E : W} {R : List (W × W)} {Rs : List Rl} {L : List (Pr × Int)} (h : RO E R Rs L) (ws : W) : (msk R fun p => L.any fun e => asksB e.1 ws && Rs.any fun r => decide (AsT E r = e.1) && tkB (lessR r E) p) = msk R (gnB E Rs ws) := by
  refine msk_congr fun p _ => ?_
  unfold gnB
  rw [Bool.eq_iff_iff, List.any_eq_true, List.any_eq_true]
  constructor
  · rintro ⟨e, he, h1⟩
    obtain ⟨a, h2⟩ := Bool.and_eq_true_iff.mp h1
    obtain ⟨r, hr, h3⟩ := List.any_eq_true.mp h2
    obtain ⟨b, h4⟩ := Bool.and_eq_true_iff.mp h3
    exact ⟨r, hr, by rw [of_decide_eq_true b, a, h4]; rfl⟩
  · rintro ⟨r, hr, h1⟩
    obtain ⟨a, h2⟩ := Bool.and_eq_true_iff.mp h1
    obtain ⟨e, he, ee⟩ := h.has r hr
    exact ⟨e, he, by rw [ee, a, Bool.true_and]; exact List.any_eq_true.mpr ⟨r, hr, by rw [h2, decide_eq_true rfl]; rfl⟩⟩
end Rw
namespace Rw
open PySem PySem.Spec PyProof.Rows L2
/-! ### _with_layer -/
abbrev nWith : List Str := ["found", "earlier", "layer", "rows", "free", "table", "ruled_out", "row", "asked", "unions", "world", "gone", "taken", "more"]
theorem scWith : FnScope nWith ["found", "earlier", "layer", "rows"] (defScope sWith) := ⟨rfl, rfl, rfl, by decide +kernel, rfl, by decide +kernel, by decide +kernel⟩
theorem noStop {K : PySem.W.Frag} : NoStop K (fun _ _ _ => False) := fun _ _ _ h => h.elim
/-- the entries as they lie -/
def ROat (kvs : List Ent) (L : List (Pr × Int)) : Prop := kvs.map (fun e => (e.1, e.2.2)) = L.map fun e => (pd e.1, V.int e.2)
theorem of_pd2 {K : PySem.W.Frag} {H : Hp} {x : V} {p : Pr} (h : Dp K H x (pd p)) : ∃ a v1 v2, x = .ref a ∧ SqT K H a [v1, v2] ∧ Dp K H v1 (wd p.1) ∧ Dp K H v2 (wd p.2) := by
  unfold pd at h
  cases h with
  | @tup a xs _ hS hxs =>
    cases hxs with
    | @cons v1 _ _ _ h1 t1 =>
      cases t1 with
      | @cons v2 _ _ _ h2 t2 =>
        cases t2
        exact ⟨a, v1, v2, rfl, hS, h1, h2⟩
theorem ROat.get {kvs : List Ent} {L : List (Pr × Int)} (h : ROat kvs L) {k : Pr} {Q : VK} {H : Hp} (q : ∀ o : Int, ((∃ e ∈ L, e.1 = k ∧ e.2 = o) ∨ ((∀ e ∈ L, e.1 ≠ k) ∧ o = 0)) → Q (.int o) H) :
    (∀ e ∈ kvs, e.1 = pd k → Q e.2.2 H) ∧ (pd k ∉ kvs.map (·.1) → Q (.int 0) H) := by
  unfold ROat at h
  refine ⟨fun e he ee => ?_, fun no => q 0 (.inr ⟨fun e he ee => no ?_, rfl⟩)⟩
  · have hm : (e.1, e.2.2) ∈ kvs.map fun e => (e.1, e.2.2) := List.mem_map.mpr ⟨e, he, rfl⟩
    rw [h] at hm
    obtain ⟨f, hf, ef⟩ := List.mem_map.mp hm
    injection ef with e1 e2
    have ek : f.1 = k := pd_inj (e1.trans ee)
    rw [← e2]
    exact q _ (.inl ⟨f, hf, ek, rfl⟩)
  · have hm : (pd e.1, V.int e.2) ∈ L.map fun e => (pd e.1, V.int e.2) := List.mem_map.mpr ⟨e, he, rfl⟩
    rw [← h] at hm
    obtain ⟨f, hf, ef⟩ := List.mem_map.mp hm
    injection ef with e1 e2
    exact List.mem_map.mpr ⟨f, hf, by rw [e1, ee]⟩
theorem putN_i {K : PySem.W.Frag} {P : Program} {w : World} {r : R2} {tm : TE} {i j : Nat} {D : Ends} {σ : L2.St} {H : Hp} {d a : Addr} {kvs : List Ent} {L : List (Pr × Int)} {k : Pr} (ei : σ[i]? = some (some (.ref d))) (ej : σ[j]? = some (some (.ref a))) (hd : H d = some (NDO P w d kvs)) (hk : KeysOk K H kvs) (hat : ROat kvs L) (da : Dp K H (.ref a) (pd k))
    (h : ∀ o : Int, ((∃ e ∈ L, e.1 = k ∧ e.2 = o) ∨ ((∀ e ∈ L, e.1 ≠ k) ∧ o = 0)) → tm σ H fun y H2 => r (.int o) y H2 fun v H1 => tVar i σ H1 fun x H2 => tVar j σ H2 fun y H3 => ∃ (d a : Addr) (kvs : List Ent) (k : PyData), x = .ref d ∧ y = .ref a ∧ H3 d = some (NDO P w d kvs) ∧ KeysOk K H3 kvs ∧ Good k ∧ Dp K H3 (.ref a) k ∧ kvs.length < 100000 ∧ D.nx σ (upd H3 d (NDO P w d (putE kvs k a v)))) :
    sPutN K P w (tVar i) (tVar j) (tOp r (tGetN2 K P w (tVar i) (tVar j) (tC (.int 0))) tm) D σ H := by
  refine ⟨.ref d, ei, d, kvs, rfl, hd, .ref a, ej, a, kvs, pd k, rfl, hd, hk, good_pd _, da, ?_⟩
  exact ROat.get (Q := fun v H1 => tm σ H1 fun y H2 => r v y H2 fun v H1 => tVar i σ H1 fun x H2 => tVar j σ H2 fun y H3 => ∃ (d a : Addr) (kvs : List Ent) (k : PyData), x = .ref d ∧ y = .ref a ∧ H3 d = some (NDO P w d kvs) ∧ KeysOk K H3 kvs ∧ Good k ∧ Dp K H3 (.ref a) k ∧ kvs.length < 100000 ∧ D.nx σ (upd H3 d (NDO P w d (putE kvs k a v)))) hat h
open Classical in
theorem ROat.put {kvs : List Ent} {L : List (Pr × Int)} (h : ROat kvs L) {k : Pr} {a : Addr} {n : Int} : ∃ L', ROat (putE kvs (pd k) a (.int n)) L' ∧ (((∃ e ∈ L, e.1 = k) ∧ L' = L.map fun e => if e.1 = k then (e.1, n) else e) ∨ ((∀ e ∈ L, e.1 ≠ k) ∧ L' = L ++ [(k, n)])) := by
  unfold ROat at h ⊢
  have keys : kvs.map (·.1) = L.map fun e => pd e.1 := by
    have := congrArg (List.map Prod.fst) h
    rw [List.map_map, List.map_map] at this
    exact this
  have mem : pd k ∈ kvs.map (·.1) ↔ ∃ e ∈ L, e.1 = k := by
    rw [keys, List.mem_map]
    exact ⟨fun ⟨e, he, ee⟩ => ⟨e, he, pd_inj ee⟩, fun ⟨e, he, ee⟩ => ⟨e, he, by rw [ee]⟩⟩
  unfold putE
  by_cases c : pd k ∈ kvs.map (·.1)
  · rw [if_pos c]
    refine ⟨_, ?_, .inl ⟨mem.mp c, rfl⟩⟩
    have e1 : (kvs.map fun p : Ent => if p.1 = pd k then (p.1, p.2.1, V.int n) else p).map (fun e => (e.1, e.2.2)) = (kvs.map fun e => (e.1, e.2.2)).map fun q => if q.1 = pd k then (q.1, V.int n) else q := by
      rw [List.map_map, List.map_map]
      refine List.map_congr_left fun p _ => ?_
      show (let p := if p.1 = pd k then (p.1, p.2.1, V.int n) else p; (p.1, p.2.2)) = if p.1 = pd k then (p.1, V.int n) else (p.1, p.2.2)
      by_cases e : p.1 = pd k
      · simp [e]
      · simp [e]
    rw [e1, h, List.map_map, List.map_map]
    refine List.map_congr_left fun e _ => ?_
    show (if pd e.1 = pd k then (pd e.1, V.int n) else (pd e.1, V.int e.2)) = _
    by_cases z : e.1 = k
    · rw [if_pos (by rw [z])]
      show _ = (let e := if e.1 = k then (e.1, n) else e; (pd e.1, V.int e.2))
      rw [if_pos z]
    · rw [if_neg (fun q => z (pd_inj q))]
      show _ = (let e := if e.1 = k then (e.1, n) else e; (pd e.1, V.int e.2))
      rw [if_neg z]
  · rw [if_neg c]
    refine ⟨_, ?_, .inr ⟨fun e he ee => c (mem.mpr ⟨e, he, ee⟩), rfl⟩⟩
    rw [List.map_append, List.map_append, h]
    rfl
section
variable {P : Program} {w : World} {K : PySem.W.Frag} {mg : Str → Option Value} {base : Heap} {f : Addr} {fd : FuncData} {k : Nat}
theorem asg_i {t : TE} {i : Nat} {u : TS} {D : Ends} {σ : L2.St} {H : Hp} (h : t σ H fun x H1 => u D (σ.set i (some x)) H1) : tSeq (tAsg t (gName i)) u D σ H := h
theorem make0_ok {C : Addr} {Q : VK} {E : XK} {σ : L2.St} {H : Hp} (q : ∀ H' v S, Same H H' → Srt S [] → S.length < 76 → PgAt K C H' v S → Q v H') : StX.tMakeR C (spInit K C) E tNil σ H Q :=
  made_ok (C := C) (L := []) (Q := Q) .nil (fun _ z => nomatch z) (by decide) q
def spWith (K : PySem.W.Frag) : Sp := fun vs H Q _ => ∃ (lf lr : Addr) (e y : V) (fs rs : List V) (F : List W) (Ea Ly : W) (Rs : List Rl), vs = [.ref lf, e, y, .ref lr] ∧ H lf = some (.lst fs) ∧ DpAll K H fs (F.map wd) ∧ F.length ≤ 2 ^ Ea.length ∧ Dp K H e (wd Ea) ∧ Dp K H y (wd Ly) ∧ IsW Ly ∧ Ea.length + Ly.length ≤ 7 ∧ (∀ x ∈ F, x.length ≤ 7) ∧
  H lr = some (.lst rs) ∧ DpAll K H rs (Rs.map rd) ∧ (∀ r ∈ Rs, IsR r) ∧ Rs.length < 76 ∧
  ∀ H' l zs, Same H H' → H' l = some (.lst zs) → DpAll K H' zs ((wlF Ea Ly Rs F).map wd) → Q (.ref l) H'
theorem ok_with {C CT fI fT f1 f2 f3 f4 f5 fW : Addr} {fd1 fd2 fd3 fd4 fd5 fdW : FuncData} (F : Fun K "_with_layer" "_with_layer" sWith f fd) (T : Bl mg) (N : NoTab K CT)
    (M : Mk K C fI) (GI : FnR P w K mg base CX0 (k + 2) fI (spInit K C)) (mP : mg "Program" = some (.ref C)) (MT : Mk K CT fT) (GT : FnR P w K mg base CX0 (k + 2) fT (spTabInit K CT)) (mT : mg "Table" = some (.ref CT))
    (GW : CFn P w K mg base k fW fdW ["program", "names"] (spPairs K C)) (bW : Binds K fdW ["program", "names"] []) (kW : PySem.W.keepIn K (.ref fW) = true) (mW : mg "pairs" = some (.ref fW))
    (hA : Meth K CT "against" f1) (GA : FnOk P w K mg base CX0 (k + 3) f1 fd1 ["self", "row"] (spAgainst K CT)) (bA : Binds K fd1 ["self", "row"] [])
    (hL : Meth K CT "alone" f2) (GL : FnOk P w K mg base CX0 (k + 3) f2 fd2 ["self", "gone"] (spAlone K CT)) (bL : Binds K fd2 ["self", "gone"] [])
    (G3 : FnOk P w K mg base CX0 (k + 3) f3 fd3 ["row", "names"] (spAsked K)) (b3 : Binds K fd3 ["row", "names"] []) (k3 : PySem.W.keepIn K (.ref f3) = true) (m3 : mg "_asked" = some (.ref f3))
    (G4 : FnOk P w K mg base CX0 (k + 3) f4 fd4 ["row", "names"] (spRowWithout K)) (b4 : Binds K fd4 ["row", "names"] []) (k4 : PySem.W.keepIn K (.ref f4) = true) (m4 : mg "_row_without" = some (.ref f4))
    (G5 : FnOk P w K mg base CX0 (k + 3) f5 fd5 ["asked", "world"] (spIsAskedFor K)) (b5 : Binds K fd5 ["asked", "world"] []) (k5 : PySem.W.keepIn K (.ref f5) = true) (m5 : mg "_is_asked_for" = some (.ref f5)) :
    FnOk P w K mg base CX0 (k + 4) f fd ["found", "earlier", "layer", "rows"] (spWith K) := by
  refine F.ok scWith (fun vs H Q E h => ?_) (fun cdv A outer s H vs Q E hr h => ?_)
  · obtain ⟨lf, lr, e, y, fs, rs, F, Ea, Ly, Rs, rfl, _⟩ := h
    rfl
  obtain ⟨lf, lr, e, y, fs, rs, Fs, Ea, Ly, Rs, rfl, hf, hfs, fF, he, hy, hW, l7, hFl, hr0, hrs, hI_, few, q⟩ := h
  have hrW : Room k (A.deeper (envOfC "_with_layer" (defScope sWith) s.heap.objs.size f cdv)) := hr.mono (by omega)
  have hu : (A.deeper (envOfC "_with_layer" (defScope sWith) s.heap.objs.size f cdv)).units + 64 < cLine := hr.units
  refine ⟨_, pss_cons (ps_set (i := 4) scWith.nd rfl (.inl rfl) (pe_makeR0 M GI hr (by rfl) mP pass0))
    (pss_cons (ps_set (i := 5) scWith.nd rfl (.inl rfl) (StX.pe_makeR MT GT hr (by rfl) mT pass0 (pa_cons (pe_listG (pgen_call (gfn_c GW) hrW (by rfl) mW kW bW .nil (pa_cons (pv 4) (pa_cons (pv 2) pa_nil))) passNo noStop hr (by rfl) T.list (by decide +kernel)) pa_nil)))
    (pss_cons (ps_set (i := 6) scWith.nd rfl (.inl rfl) pe_dnewN)
    (pss_cons (ps_for PassesOwn.never rfl (pi_list (pv 3)) (pg_name (i := 7) scWith.nd rfl (.inl rfl))
      (pss_cons (ps_set (i := 8) scWith.nd rfl (.inl rfl) (pe_call G3 hr (by rfl) m3 k3 b3 .nil pass0 (pa_cons (pv 7) (pa_cons (pv 1) pa_nil))))
      (pss_one (ps_putN hu (pv 6) (pv 8) (pe_op op_or (pe_getN2 hu (pv 6) (pv 8) pe_int ⟨rfl, rfl, rfl, rfl⟩) (pe_meth (pv 5) N.c hA GA hr bA .nil pass0 (pa_cons (pe_call G4 hr (by rfl) m4 k4 b4 .nil pass0 (pa_cons (pv 7) (pa_cons (pv 1) pa_nil))) pa_nil))) rfl))))
    (pss_cons (ps_set (i := 9) scWith.nd rfl (.inl rfl) (pe_lst pa_nil))
    (pss_cons (ps_for PassesOwn.never rfl (pi_list (pv 0)) (pg_name (i := 10) scWith.nd rfl (.inr rfl))
      (pss_cons (ps_set (i := 11) scWith.nd rfl (.inl rfl) pe_int)
      (pss_cons (ps_lock (ps_for PassesOwn.never rfl (pi_itemsN (pv 6)) (pg_tup (by rfl) (pgs_cons (pg_name (i := 8) scWith.nd rfl (.inl rfl)) (pgs_cons (pg_name (i := 12) scWith.nd rfl (.inl rfl)) pgs_nil)))
        (pss_one (ps_if (pt_val (pe_call G5 hr (by rfl) m5 k5 b5 .nil pass0 (pa_cons (pv 8) (pa_cons (pv 10) pa_nil)))) (pss_one (ps_set (i := 11) scWith.nd rfl (.inl rfl) (pe_op op_or (pv 11) (pv 12)))) pss_nil))))
      (pss_one (ps_expr (pe_bm PySem.F.plainAttrs_list PySem.F.slot_list_extend PySem.F.type_list_extend mt_extend (pv 9) (pa_cons (pe_lc (own := [("more", 13)]) (g := gName 13) (te := tOp (rCatA K) (tVar 10) (tVar 13)) (by rfl) scWith.nd (pi_list (pe_meth (pv 5) N.c hL GL hr bL .nil pass0 (pa_cons (pv 11) pa_nil))) (blkOk_by (N := nWith) (sc := defScope sWith) (by decide +kernel))
        (fun _ _ _ _ _ => pg_name (i := 13) scWith.nd rfl (Or.inl rfl)) (fun _ _ _ _ _ => pts_nil) (fun _ _ _ _ _ => pe_op op_catA (pv 10) (pv 13))) pa_nil)))))))
    (pss_one (ps_ret (pv 9)))))))), ?_⟩
  show tSeq (tAsg (StX.tMakeR C (spInit K C) E0 tNil) (gName 4)) _ _ _ _
  refine asg_i (make0_ok fun H1 vf S0 s1 hS0 hl0 hvf => ?_)
  obtain rfl : S0 = [] := List.eq_nil_iff_forall_not_mem.mpr fun r hr => nomatch (hS0.mem r).mp hr
  -- the table
  refine ⟨vf, rfl, y, rfl, ?_⟩
  show spPairs K C [vf, y] _ _ (fun _ _ _ => False)
  refine ⟨vf, y, [], [], rfl, hvf, (fun _ z => nomatch z), by decide, (fun _ z => nomatch z), by decide, .inr ⟨Ly, dp_same s1 _ _ hy, hW, by omega, (fun _ z => nomatch z), fun H3 xs s3 hxs l3 hl3 => ?_⟩⟩
  have s4 := same_new hl3 (.lst xs)
  have h4l : (upd H3 l3 (.lst xs)) l3 = some (.lst xs) := upd_same
  have hx4 : PrAll (upd H3 l3 (.lst xs)) xs (pairsB Ly []) := hxs.up (Tups.of s4)
  have s14 := s1.trans (s3.trans s4)
  generalize upd H3 l3 (.lst xs) = H4 at s4 h4l hx4 s14
  intro x2 dx2 hx2 hdx2 ne2
  have s6 := same_new hdx2 (.own x2)
  have hx2' : (upd H4 dx2 (.own x2)) x2 = none := by
    rw [upd_ne ne2.symm]
    exact hx2
  have s7 := same_new hx2' (.ins CT dx2 [])
  have s57 := s6.trans s7
  have pl := pairs_len (own := Ly) (by omega)
  refine ⟨x2, dx2, l3, xs, pairsB Ly [], rfl, upd_same, s57 _ _ h4l, hx4.up (Tups.of s57), fun p hp => ?_, pairs_nodup hW, by omega, fun H6 keep tab own6 => ⟨rfl, ?_⟩⟩
  · obtain ⟨h1, h2, _⟩ := (mem_pairs0 hW).mp hp
    have t1 := mem_every.mp h1
    have t2 := mem_every.mp h2
    have w1 : IsW p.1 := ⟨fun x hx => hW.names x (t1.subset hx), List.Pairwise.sublist t1 hW.up, Nat.le_trans t1.length_le hW.few⟩
    have w2 : IsW p.2 := ⟨fun x hx => hW.names x (t2.subset hx), List.Pairwise.sublist t2 hW.up, Nat.le_trans t2.length_le hW.few⟩
    have := t1.length_le
    have := t2.length_le
    exact ⟨w1, w2, by omega, by omega⟩
  have s16 : Same H H6 := fun b u e => keep b u (fun z => by
    have := s14 _ _ e
    rw [z, hx2] at this
    cases this) (s57 _ _ (s14 _ _ e))
  -- ruled_out
  intro d6 hd6
  have sd := same_new hd6 (NDO P w d6 [])
  have hr6 := s16 _ _ hr0
  refine ⟨.ref lr, rfl, lr, rfl, ⟨_, SqL.of (sd _ _ hr6)⟩, for_list (xs := rs) (fun i σ H7 => (∃ y7 y8, σ = [some (.ref lf), some e, some y, some (.ref lr), some vf, some (.ref x2), some (.ref d6), y7, y8, none, none, none, none, none]) ∧ Same H6 H7 ∧ ∃ kvs L, H7 d6 = some (NDO P w d6 kvs) ∧ KeysOk K H7 kvs ∧ ROat kvs L ∧ RO Ea (pairsB Ly []) (Rs.take i) L) ⟨⟨_, _, rfl⟩, sd, [], [], upd_same, (fun _ z => nomatch z), rfl, RO.nil⟩ (fun i σ H7 _ hI => SqL.of (hI.2.1 _ _ hr6)) (fun i x σ H7 hx hI => ?_) (fun σ H7 hI => ?_)⟩
  · obtain ⟨⟨y7, y8, rfl⟩, s67, kvs, L, hd7, hk7, hat, hro⟩ := hI
    have s17 := s16.trans s67
    obtain ⟨dd, hdd, hxd⟩ := dpAll_at' hrs hx
    obtain ⟨r, hr, rfl⟩ := map_at hdd
    have il : i < Rs.length := (List.getElem?_eq_some_iff.mp hr).1
    have hrI := hI_ r (List.mem_of_getElem? hr)
    have hx7 := dp_same s17 _ _ hxd
    have he7 := dp_same s17 _ _ he
    refine ⟨x, rfl, e, rfl, ?_⟩
    dsimp only [tNil]
    refine ⟨x, e, r, Ea, rfl, hx7, hrI, Ws.wd he7, fun H8 a v1 v2 s8 ha h1 h2 => ?_⟩
    have da : Dp K H8 (.ref a) (pd (AsT Ea r)) := .tup ha (.cons h1 (.cons h2 .nil))
    have hd8 := s8 _ _ hd7
    have hk8 : KeysOk K H8 kvs := hk7.stay (Stay.same s8)
    refine putN_i (i := 6) (j := 8) rfl rfl hd8 hk8 hat da fun o ho => ?_
    obtain ⟨a2, dx3, e1, e2, fs2, ea2, hi, l1, l2, l3', ⟨l4, l5⟩, m1, m2⟩ := id tab
    cases ea2
    have s68 := s67.trans s8
    refine ⟨.ref x2, rfl, x2, dx3, fs2, rfl, s68 _ _ hi, l5, x, rfl, e, rfl, ?_⟩
    dsimp only [tNil]
    refine ⟨x, e, r, Ea, rfl, dp_same s8 _ _ hx7, hrI, Ws.wd (dp_same s8 _ _ he7), fun H9 v9 s9 hv9 => ?_⟩
    dsimp only [tNil]
    refine ⟨.ref x2, v9, pairsB Ly [], lessR r Ea, rfl, tab.same (s68.trans s9), hv9, isR_less Ea hrI, fun H10 s10 => ?_⟩
    have s80 := s9.trans s10
    have hk10 : KeysOk K H10 kvs := hk8.stay (Stay.same s80)
    have da10 := dp_same s80 _ _ da
    refine ⟨_, _, rfl, rfl, .ref d6, rfl, .ref a, rfl, d6, a, kvs, pd (AsT Ea r), rfl, rfl, s80 _ _ hd8, hk10, good_pd _, da10, ?_, ⟨_, _, rfl⟩, same_put (s68.trans s80) hd6, putE kvs (pd (AsT Ea r)) a (.int (Builtin.bitOr o (msk (pairsB Ly []) (tkB (lessR r Ea))))), ?_⟩
    · have kl : kvs.length = L.length := by
        have := congrArg List.length hat
        rw [List.length_map, List.length_map] at this
        exact this
      have := hro.few
      rw [List.length_take] at this
      omega
    · obtain ⟨L', h1', h2'⟩ := hat.put (k := AsT Ea r) (a := a) (n := Builtin.bitOr o (msk (pairsB Ly []) (tkB (lessR r Ea))))
      have stp : Stay H10 (upd H10 d6 (NDO P w d6 (putE kvs (pd (AsT Ea r)) a (.int (Builtin.bitOr o (msk (pairsB Ly []) (tkB (lessR r Ea)))))))) := Stay.put (by rw [s80 _ _ hd8]; exact True.intro) _
      refine ⟨L', upd_same, (putE_keys hk10 (good_pd _) da10).stay stp, h1', ?_⟩
      rw [take_snoc hr]
      exact hro.put r ho h2'
  obtain ⟨⟨y7, y8, rfl⟩, s67, kvs, L, hd7, hk7, hat, hro⟩ := hI
  have rl : rs.length = Rs.length := by rw [dpAll_len hrs, List.length_map]
  rw [rl, List.take_length] at hro
  have s17 := s16.trans s67
  have kl : kvs.length = L.length := by
    have := congrArg List.length hat
    rw [List.length_map, List.length_map] at this
    exact this
  have fl : fs.length = Fs.length := by rw [dpAll_len hfs, List.length_map]
  -- unions
  refine ⟨by show 0 ≤ sizeLine; decide, fun D9 hD9 => ?_⟩
  have s9 := same_new hD9 (.lst [])
  have hf7 := s17 _ _ hf
  have pow7 : 2 ^ Ea.length * 2 ^ Ly.length ≤ 128 := by
    rw [← Nat.pow_add]
    exact Nat.le_trans (Nat.pow_le_pow_right (by decide) l7) (by decide)
  refine ⟨.ref lf, rfl, lf, rfl, ⟨_, SqL.of (s9 _ _ hf7)⟩, for_list (xs := fs) (fun i σ H8 => (∃ y8 y10 y11 y12, σ = [some (.ref lf), some e, some y, some (.ref lr), some vf, some (.ref x2), some (.ref d6), y7, y8, some (.ref D9), y10, y11, y12, none]) ∧ Same H7 H8 ∧ ∃ us, H8 D9 = some (.lst us) ∧ DpAll K H8 us ((wlF Ea Ly Rs (Fs.take i)).map wd)) ⟨⟨_, _, _, _, rfl⟩, s9, [], upd_same, .nil⟩ (fun i σ H8 _ hI => SqL.of (hI.2.1 _ _ hf7)) (fun i x σ H8 hx hI => ?_) (fun σ H8 hI => ?_)⟩
  · obtain ⟨⟨y8', y10, y11, y12, rfl⟩, s78, us, hus, hud⟩ := hI
    have s18 := s17.trans s78
    obtain ⟨dd, hdd, hxd⟩ := dpAll_at' hfs hx
    obtain ⟨ws, hws, rfl⟩ := map_at hdd
    have il : i < Fs.length := (List.getElem?_eq_some_iff.mp hws).1
    have hd8 := s78 _ _ hd7
    have hx8 := dp_same s18 _ _ hxd
    refine ⟨d6, _, hd8, True.intro, fun od => ?_⟩
    let HL : Hp := upd H8 d6 (.frz od (NDO P w d6 kvs))
    have ex : HL d6 = some (.frz od (NDO P w d6 kvs)) := upd_same
    have stL : Stay H8 HL := Stay.put (by rw [hd8]; exact True.intro) _
    have hkL : KeysOk K HL kvs := (hk7.stay (Stay.same s78)).stay stL
    have hxL := stL.wd hx8
    refine ⟨.ref d6, rfl, d6, od, _, rfl, ex, .inr ⟨kvs, rfl, ?_⟩⟩
    refine for_it walk_itemsN (fun j σ H9 => (∃ y8 y12, σ = [some (.ref lf), some e, some y, some (.ref lr), some vf, some (.ref x2), some (.ref d6), y7, y8, some (.ref D9), some x, some (.int (msk (pairsB Ly []) fun p => (L.take j).any fun e => asksB e.1 ws && Rs.any fun r => decide (AsT Ea r = e.1) && tkB (lessR r Ea) p)), y12, none]) ∧ Same HL H9) ⟨⟨y8', y12, ?_⟩, fun _ _ e => e⟩ (fun j σ H9 _ h => h.2 _ _ ex) (fun j u σ H9 H9' hj h hy9 => ?_) (fun σ H9 h => ?_)
    · have e0 : (msk (pairsB Ly []) fun p => ([] : List (Pr × Int)).any fun e => asksB e.1 ws && Rs.any fun r => decide (AsT Ea r = e.1) && tkB (lessR r Ea) p) = 0 := msk_none _
      rw [List.take_zero, e0]
      rfl
    · obtain ⟨⟨y8, y12, rfl⟩, sm⟩ := h
      obtain ⟨T0, x1, y1, rfl, hT, rfl, e1, e2⟩ := hy9
      rw [List.length_map] at hj
      obtain ⟨en, hen⟩ : ∃ en, kvs[j]? = some en := ⟨_, List.getElem?_eq_getElem hj⟩
      have e1 : ((kvs.map fun e : Ent => (V.ref e.2.1, e.2.2))[j]?).map Prod.fst = some x1 := e1
      have e2 : ((kvs.map fun e : Ent => (V.ref e.2.1, e.2.2))[j]?).map Prod.snd = some y1 := e2
      rw [List.getElem?_map, hen] at e1 e2
      obtain rfl : V.ref en.2.1 = x1 := Option.some.inj e1
      obtain rfl : en.2.2 = y1 := Option.some.inj e2
      obtain ⟨le, hle, e3, e4⟩ : ∃ le, L[j]? = some le ∧ en.1 = pd le.1 ∧ en.2.2 = V.int le.2 := by
        have z : (kvs.map fun e => (e.1, e.2.2))[j]? = (L.map fun e => (pd e.1, V.int e.2))[j]? := by rw [show (kvs.map fun e => (e.1, e.2.2)) = _ from hat]
        rw [List.getElem?_map, List.getElem?_map, hen] at z
        obtain ⟨le, h1, h2⟩ := Option.map_eq_some_iff.mp z.symm
        injection h2 with h2 h3
        exact ⟨le, h1, h2.symm, h3.symm⟩
      have sT := same_new hT (.tup [.ref en.2.1, en.2.2])
      have s2 := sm.trans sT
      have dk := dp_same s2 _ _ (hkL en (List.mem_of_getElem? hen)).2
      rw [e3] at dk
      obtain ⟨qa, v1, v2, eq, hq, h1, h2⟩ := of_pd2 dk
      obtain ⟨rq, hrq, eas⟩ := hro.src le (List.mem_of_getElem? hle)
      have hIr := hI_ rq hrq
      have b1' : le.1.1.length ≤ 1000 := by
        rw [eas]
        refine Nat.le_trans (List.length_filter_le _ _) ?_
        rw [List.length_append]
        have := hIr.d.few
        have := hIr.n.few
        omega
      have b2' : le.1.2.length ≤ 1000 := by
        rw [eas]
        refine Nat.le_trans (List.length_filter_le _ _) ?_
        have := hIr.b.few
        omega
      refine ⟨T0, [.ref en.2.1, en.2.2], rfl, SqT.of upd_same, rfl, .ref en.2.1, [en.2.2], rfl, en.2.2, [], rfl, rfl, ?_⟩
      refine ⟨.ref en.2.1, rfl, x, rfl, ?_⟩
      dsimp only [tNil]
      refine ⟨qa, v1, v2, x, le.1.1, le.1.2, ws, by rw [eq]; rfl, hq, h1, h2, Ws.wd (dp_same s2 _ _ hxL), b1', b2', fun H10 s10 => ⟨_, rfl, ?_⟩⟩
      have tk1 : ∀ p, (L.take (j + 1)).any (fun e => asksB e.1 ws && Rs.any fun r => decide (AsT Ea r = e.1) && tkB (lessR r Ea) p) = ((L.take j).any (fun e => asksB e.1 ws && Rs.any fun r => decide (AsT Ea r = e.1) && tkB (lessR r Ea) p) || (asksB le.1 ws && Rs.any fun r => decide (AsT Ea r = le.1) && tkB (lessR r Ea) p)) := fun p => by
        rw [take_snoc hle, List.any_append, List.any_cons, List.any_nil, Bool.or_false]
      refine ite2 (fun ea => ?_) (fun ea => ?_)
      · have ea' : asksB le.1 ws = true := ea
        refine ⟨_, rfl, en.2.2, rfl, _, le.2, rfl, e4, ⟨some (.ref en.2.1), some en.2.2, ?_⟩, s2.trans s10⟩
        have em : Builtin.bitOr (msk (pairsB Ly []) fun p => (L.take j).any fun e => asksB e.1 ws && Rs.any fun r => decide (AsT Ea r = e.1) && tkB (lessR r Ea) p) le.2 = msk (pairsB Ly []) fun p => (L.take (j + 1)).any fun e => asksB e.1 ws && Rs.any fun r => decide (AsT Ea r = e.1) && tkB (lessR r Ea) p := by
          rw [hro.val le (List.mem_of_getElem? hle), msk_or]
          refine msk_congr fun p _ => ?_
          rw [tk1 p, ea', Bool.true_and]
        rw [← em]
        rfl
      · have ea' : asksB le.1 ws = false := (Bool.not_eq_true _).mp ea
        refine ⟨⟨some (.ref en.2.1), some en.2.2, ?_⟩, s2.trans s10⟩
        have em : (msk (pairsB Ly []) fun p => (L.take j).any fun e => asksB e.1 ws && Rs.any fun r => decide (AsT Ea r = e.1) && tkB (lessR r Ea) p) = msk (pairsB Ly []) fun p => (L.take (j + 1)).any fun e => asksB e.1 ws && Rs.any fun r => decide (AsT Ea r = e.1) && tkB (lessR r Ea) p := by
          refine msk_congr fun p _ => ?_
          rw [tk1 p, ea', Bool.false_and, Bool.or_false]
        rw [← em]
        rfl
    · obtain ⟨⟨y8, y12, rfl⟩, sm⟩ := h
      obtain ⟨u1, u2⟩ := same_unlock hd8 sm
      refine ⟨u1, ?_⟩
      rw [List.length_map, kl, List.take_length, hro.gone ws]
      obtain ⟨a2, dx3, d3, d4, fs2, ea2, hi, o1, o2, o3, o4, o5, o6⟩ := id own6
      cases ea2
      have s78' : Same H7 (upd H9 d6 (NDO P w d6 kvs)) := s78.trans u2
      have s6' := s67.trans s78'
      have s1' := s16.trans s6'
      have hus' := u2 _ _ hus
      have hud' := dpAll_same u2 _ _ hud
      have hx' := dp_same u2 _ _ hx8
      generalize upd H9 d6 (NDO P w d6 kvs) = HB at s78' s6' s1' hus' hud' hx' u2 ⊢
      obtain ⟨wa, rfl, hwa⟩ := of_wd hx'
      refine ⟨.ref D9, rfl, .inl ⟨rfl, _, SqL.of hus'⟩, ?_⟩
      refine ⟨.ref x2, rfl, x2, dx3, fs2, rfl, s6' _ _ hi, o3, .int (msk (pairsB Ly []) (gnB Ea Rs ws)), rfl, ?_⟩
      dsimp only [tNil]
      refine ⟨.ref x2, pairsB Ly [], gnB Ea Rs ws, rfl, own6.same s6', by omega, fun H10 l10 zs s10 hl10 hzs => ?_⟩
      refine ⟨l10, rfl, ⟨_, SqL.of hl10⟩, fun D10 hD10 => ?_⟩
      have zl : zs.length ≤ 128 := by
        rw [hzs.len]
        refine Nat.le_trans (List.length_filter_le _ _) (Nat.le_trans (dg_len hW) (Nat.le_trans ?_ pow7))
        exact Nat.le_mul_of_pos_left _ (Nat.pow_pos (by decide))
      have wsl := hFl ws (List.mem_of_getElem? hws)
      let AL : List W := (dgT (pairsB Ly [])).filter (alB (pairsB Ly []) (gnB Ea Rs ws))
      refine lc_list (xs := zs) (fun j H11 => Same H10 H11 ∧ ∃ ms, H11 D10 = some (.lst ms) ∧ ms.length = j ∧ DpAll K H11 ms (((AL.take j).map fun m => ws ++ m).map wd)) ⟨same_new hD10 _, [], upd_same, rfl, .nil⟩ (fun j H11 _ h => SqL.of (h.1 _ _ hl10)) (fun j u H11 hu11 h => ?_) (fun H11 h => ?_)
      · obtain ⟨sm11, ms, hms, hml, hmd⟩ := h
        obtain ⟨m, hm, b, rfl, hb⟩ := hzs.at' hu11
        have jl : j < zs.length := (List.getElem?_eq_some_iff.mp hu11).1
        have mtm : m.Sublist Ly := mem_every.mp ((mem_dg0 hW).mp (List.mem_filter.mp (List.mem_of_getElem? hm)).1)
        have ml := mtm.length_le
        refine ⟨rfl, .ref wa, rfl, .ref b, rfl, catA_w (same_tup (s10.trans sm11) hwa) (SqT.of (sm11 _ _ hb)) (small_line (by rw [List.length_map, List.length_map]; omega)) fun c H12 s12 hc => ?_⟩
        have hms12 := s12 _ _ hms
        have st12 : Stay H12 (upd H12 D10 (.lst (ms ++ [.ref c]))) := Stay.put (by rw [hms12]; exact True.intro) _
        refine ⟨ms, hms12, small_line' (by omega), same_put (sm11.trans s12) hD10, _, upd_same, by rw [List.length_append, hml]; rfl, ?_⟩
        rw [take_snoc hm, List.map_append, List.map_append]
        refine dpAll_app (((Stay.same s12).trans st12).dpAll _ _ (okDs_wd _) hmd) (.cons (to_wd (st12.seq ?_)) .nil)
        rw [List.map_append]
        exact hc
      · obtain ⟨sm11, ms, hms, hml, hmd⟩ := h
        rw [hzs.len, List.take_length] at hmd
        have s12 := s10.trans sm11
        have hus11 := s12 _ _ hus'
        have ul : us.length ≤ 128 := by
          rw [dpAll_len hud, List.length_map]
          refine Nat.le_trans (wlF_len hW _) (Nat.le_trans (Nat.mul_le_mul_right _ ?_) pow7)
          rw [List.length_take]
          omega
        refine ⟨D9, D10, us, ms, rfl, rfl, hus11, hms, by rw [hml, sizeLine_eq]; omega, ?_⟩
        have stp : Stay H11 (upd H11 D9 (.lst (us ++ ms))) := Stay.put (by rw [hus11]; exact True.intro) _
        refine ⟨⟨_, _, _, _, rfl⟩, same_put (s78'.trans s12) hD9, _, upd_same, ?_⟩
        have ew : wlF Ea Ly Rs (Fs.take (i + 1)) = wlF Ea Ly Rs (Fs.take i) ++ wlOne Ea Ly Rs ws := by
          unfold wlF
          rw [take_snoc hws, List.flatMap_append, List.flatMap_singleton]
        rw [ew, List.map_append]
        exact dpAll_app (((Stay.same s12).trans stp).dpAll _ _ (okDs_wd _) hud') (stp.dpAll _ _ (okDs_wd _) hmd)
  · obtain ⟨⟨y8', y10, y11, y12, rfl⟩, s78, us, hus, hud⟩ := hI
    rw [fl, List.take_length] at hud
    exact ⟨.ref D9, rfl, q H8 D9 us (s17.trans s78) hus hud⟩
end
end Rw
namespace Rw
open PySem PySem.Spec PyProof.Rows L2
/-! ### sorted(a tuple of texts) -/
section
variable {P : Program} {w : World} {A : Around} {E : Value → Shared → Prop} {s : Shared}
theorem collect_tup {a : Addr} {o : Obj} {vs : List Value} {n : Nat} {Q : List Value → Shared → Prop} (ho : s.heap.get? a = some o) (hc : o.cls = .type "tuple") (hd : o.data = .seq vs.toArray n) (hsz : vs.length ≤ sizeLine)
    (h : Q vs { s with heap := (s.heap.push (seqObj "list" #[] 0)).update s.heap.objs.size (Obj.mapSeq fun x => x ++ vs.toArray) }) : wpAny (model P w) A (collect (.ref a)) Q E s := by
  show wpAny (model P w) A (_ >>= _) Q E s
  refine wpAny_bind (wpAny_runValue (codeAny_builtin F.entry_proto_collect ?_))
  rw [Around.under_plainId F.plain_proto_collect]
  unfold Builtin.«proto.collect»
  refine wpAny_bind (wpAny_newList (wpAny_pure ⟨plainId_quiet F.plain_list_iadd _, codeAny_builtin F.entry_list_iadd ?_⟩) (Nat.zero_le _))
  rw [Around.under_plainId F.plain_list_iadd]
  have ho' := Heap.get?_push_of_some (seqObj "list" #[] 0) ho
  have hS : (s.heap.push (seqObj "list" #[] 0)).get? s.heap.objs.size = some (seqObj "list" #[] 0) := Heap.get?_push_size s.heap rfl
  unfold Builtin.«list.__iadd__»
  refine wpAny_bind (wpAny_pure ?_)
  show wpAny (model P w) A.in1 (Builtin.List.listExtendWith (.ref s.heap.objs.size) (.ref a) (.ref s.heap.objs.size)) _ _ _
  unfold Builtin.List.listExtendWith
  refine wpAny_bind (wpAny_typeOf ⟨o, ho', hc⟩ ?_)
  rw [if_pos (by simp)]
  refine wpAny_bind (listItems_at ho' hd (wpAny_bind (listItems_at hS rfl ?_)))
  rw [if_neg (by simp)]
  refine wpAny_bind (listUpdate_at hS rfl (wpAny_pure ?_) (Nat.zero_le _) ?_)
  · show wpAny (model P w) A _ _ _ _
    refine wpAny_bind (wpAny_load (get?_update_seq hS fun x => x ++ vs.toArray) ?_)
    show wpAny (model P w) A (pure ((#[] : Array Value) ++ vs.toArray).toList) Q E _
    rw [show ((#[] : Array Value) ++ vs.toArray).toList = vs by simp]
    exact wpAny_pure h
  · simp
    omega
open PySem.W in
theorem sorted_tupS {a : Addr} {vs : List Value} {zs : List Str} {Q : Value → Shared → Prop} (ht : IsTup s.heap a vs.toArray) (e : EachIs (fun v z => RelV (.str z) v) vs zs) (few : zs.length < 1000) (hu : A.units + 8 < cLine)
    (hQ : ∀ s' p (out : Array Value) (c : Nat) (zs' : List Str), (∀ b o, s.heap.get? b = some o → s'.heap.get? b = some o) → s'.gens = s.gens → s'.os = s.os → s.heap.objs.size ≤ p → s'.heap.get? p = some (seqObj "list" out c) →
      EachIs (fun v z => RelV (.str z) v) out.toList zs' → zs'.Perm zs → Q (.ref p) s') :
    wpAny (model P w) A (call (.builtin "sorted") [.ref a]) Q E s := by
  have lv : vs.length = zs.length := e.length
  refine Calls.call_function_entry kind_sorted plain_sorted entry_sorted (args_sorted1 _) ?_
  unfold Builtin.«sorted»
  refine wpAny_bind (m := checkCount "sorted" 1 1 _) (wpAny_pure ?_)
  obtain ⟨o, ho, hc, n, hd⟩ := ht
  refine wpAny_bind (collect_tup (A := A.in1) ho hc hd (by rw [lv, sizeLine_eq]; omega) ?_)
  have k1 : ∀ b u, s.heap.get? b = some u → ((s.heap.push (seqObj "list" #[] 0)).update s.heap.objs.size (Obj.mapSeq fun x => x ++ vs.toArray)).get? b = some u := fun b u hb => (PySem.Heap.get?_update_other _ (Obj.mapSeq fun x => x ++ vs.toArray) (Nat.ne_of_gt (Heap.lt_size hb))).trans (Heap.get?_push_of_some _ hb)
  have hz : s.heap.objs.size ≤ ((s.heap.push (seqObj "list" #[] 0)).update s.heap.objs.size (Obj.mapSeq fun x => x ++ vs.toArray)).objs.size := by
    exact Nat.le_of_lt (Heap.lt_size (get?_update_seq (Heap.get?_push_size s.heap (o := seqObj "list" #[] 0) rfl) fun x => x ++ vs.toArray))
  generalize (s.heap.push (seqObj "list" #[] 0)).update s.heap.objs.size (Obj.mapSeq fun x => x ++ vs.toArray) = h' at k1 hz
  refine wpAny_bind (wpAny_newList ?_ (by rw [sizeLine_eq]; omega))
  have hoL : (h'.push (seqObj "list" vs.toArray 0)).get? h'.objs.size = some (seqObj "list" vs.toArray 0) := Heap.get?_push_size _ rfl
  refine wpAny_bind (wpAny_holding (list_sorts (s := { s with heap := h'.push (seqObj "list" vs.toArray 0) }) (enc := fun z : Str => PyData.str z) (R := fun v z => RelV (.str z) v) (vs := vs) (bs := zs) hoL e
    (e.mono fun v b z => ?_) (AllAlike.of fun b b' => by simp [alike]) (.inr (Sortable.others fun b => ⟨(fun z => nomatch z), (fun xs z => nomatch z)⟩)) (by rw [sizeLine_eq]; omega) (fun b hb => ?_) fun out ho2 eo => ?_))
  · obtain ⟨u, e⟩ := z
    exact ⟨[], by rw [e]; exact .str b u, fun hm => nomatch hm⟩
  · show A.in1.units + 1 + (PyData.str b).depth < cLine
    simp only [PyData.depth, Around.in1_units]
    omega
  · obtain ⟨c, hcc⟩ := sortedHeap_at (vs := vs) (out := out.toArray) hoL
    have sf := sort_facts (fun z : Str => PyData.str z) zs
    refine wpAny_pure ⟨_, rfl, hQ _ h'.objs.size out.toArray c _ (fun b u q => ?_) rfl rfl hz hcc (by simpa using eo) sf.1⟩
    have q1 := k1 b u q
    have hlt := Heap.lt_size q1
    show (sortedHeap (h'.push (seqObj "list" vs.toArray 0)) h'.objs.size vs out.toArray).get? b = some u
    rw [sortedHeap_old (Nat.ne_of_lt hlt) (by rw [size_push']; exact Nat.lt_succ_of_lt hlt)]
    exact Heap.get?_push_of_some _ q1
section
variable {X : Cx}
/-- sorted(a tuple of texts): a list of the same texts -/
def rSortTS (K : PySem.W.Frag) : List V → Hp → VK → Prop := fun vs H Q => ∃ (a : Addr) (zs : List Str), vs = [V.ref a] ∧ SqT K H a (zs.map V.str) ∧ zs.length < 1000 ∧
  ∀ (ys : List Str) (p : Addr), ys.Perm zs → H p = none → Q (.ref p) (upd H p (.lst (ys.map V.str)))
theorem cr_sortTS (hu : X.A.units + 64 < cLine) : CallR X (.builtin "sorted") (rSortTS X.K) := by
  intro pins s σ H vs us Q I r h
  obtain ⟨a, zs, rfl, ha, few, q⟩ := h
  rw [Vals.ref1 r]
  obtain ⟨its, rv, ht, hz⟩ := I.tuple ha
  have e : PySem.W.EachIs (fun v z => RelV (.str z) v) its zs := vals_texts rv
  refine sorted_tupS ht e few (by omega) fun s' p out c zs' k g os hp hg ho' pm => ?_
  have hn : H p = none := I.hok.fresh hp
  have hv : Vals (zs'.map V.str) out.toList := texts_vals ho'
  have hl : zs'.length = zs.length := pm.length_eq
  have hlen : (zs'.map V.str).length ≤ sizeLine := by
    rw [List.length_map, sizeLine_eq]
    omega
  have J : Inv X pins σ (upd H p (.lst (zs'.map V.str))) { s with heap := s'.heap, gens := s'.gens, drawn := s'.drawn, toks := s'.toks } :=
    I.call (ch := []) (Un.laid k hp hn) (I.hok.laid k hp ⟨hlen, out.toList, c, hv, hg⟩) (by rw [g]; exact I.bare) (fun _ z => nomatch z)
  have e2 : s' = { s with heap := s'.heap, gens := s'.gens, drawn := s'.drawn, toks := s'.toks } := by
    cases s'
    cases s
    cases os
    rfl
  rw [e2]
  exact ⟨.ref p, _, J, rfl, q zs' p pm hn⟩
end
end
end Rw
namespace Rw
open PySem PySem.Spec PyProof.Rows L2
/-! ### sorted(a tuple of texts), rising -/
section
variable {P : Program} {w : World} {A : Around} {E : Value → Shared → Prop} {s : Shared}
open PySem.W in
theorem sorted_tupT {a : Addr} {vs : List Value} {zs : List Str} {Q : Value → Shared → Prop} (ht : IsTup s.heap a vs.toArray) (e : EachIs (fun v z => RelV (.str z) v) vs zs) (few : zs.length < 1000) (hu : A.units + 8 < cLine)
    (hQ : ∀ s' p (out : Array Value) (c : Nat) (zs' : List Str), (∀ b o, s.heap.get? b = some o → s'.heap.get? b = some o) → s'.gens = s.gens → s'.os = s.os → s.heap.objs.size ≤ p → s'.heap.get? p = some (seqObj "list" out c) →
      EachIs (fun v z => RelV (.str z) v) out.toList zs' → zs'.Perm zs → RisingX zs' → Q (.ref p) s') :
    wpAny (model P w) A (call (.builtin "sorted") [.ref a]) Q E s := by
  have lv : vs.length = zs.length := e.length
  refine Calls.call_function_entry kind_sorted plain_sorted entry_sorted (args_sorted1 _) ?_
  unfold Builtin.«sorted»
  refine wpAny_bind (m := checkCount "sorted" 1 1 _) (wpAny_pure ?_)
  obtain ⟨o, ho, hc, n, hd⟩ := ht
  refine wpAny_bind (collect_tup (A := A.in1) ho hc hd (by rw [lv, sizeLine_eq]; omega) ?_)
  have k1 : ∀ b u, s.heap.get? b = some u → ((s.heap.push (seqObj "list" #[] 0)).update s.heap.objs.size (Obj.mapSeq fun x => x ++ vs.toArray)).get? b = some u := fun b u hb => (PySem.Heap.get?_update_other _ (Obj.mapSeq fun x => x ++ vs.toArray) (Nat.ne_of_gt (Heap.lt_size hb))).trans (Heap.get?_push_of_some _ hb)
  have hz : s.heap.objs.size ≤ ((s.heap.push (seqObj "list" #[] 0)).update s.heap.objs.size (Obj.mapSeq fun x => x ++ vs.toArray)).objs.size := by
    exact Nat.le_of_lt (Heap.lt_size (get?_update_seq (Heap.get?_push_size s.heap (o := seqObj "list" #[] 0) rfl) fun x => x ++ vs.toArray))
  generalize (s.heap.push (seqObj "list" #[] 0)).update s.heap.objs.size (Obj.mapSeq fun x => x ++ vs.toArray) = h' at k1 hz
  refine wpAny_bind (wpAny_newList ?_ (by rw [sizeLine_eq]; omega))
  have hoL : (h'.push (seqObj "list" vs.toArray 0)).get? h'.objs.size = some (seqObj "list" vs.toArray 0) := Heap.get?_push_size _ rfl
  refine wpAny_bind (wpAny_holding (list_sorts (s := { s with heap := h'.push (seqObj "list" vs.toArray 0) }) (enc := fun z : Str => PyData.str z) (R := fun v z => RelV (.str z) v) (vs := vs) (bs := zs) hoL e
    (e.mono fun v b z => ?_) (AllAlike.of fun b b' => by simp [alike]) (.inr (Sortable.others fun b => ⟨(fun z => nomatch z), (fun xs z => nomatch z)⟩)) (by rw [sizeLine_eq]; omega) (fun b hb => ?_) fun out ho2 eo => ?_))
  · obtain ⟨u, e⟩ := z
    exact ⟨[], by rw [e]; exact .str b u, fun hm => nomatch hm⟩
  · show A.in1.units + 1 + (PyData.str b).depth < cLine
    simp only [PyData.depth, Around.in1_units]
    omega
  · obtain ⟨c, hcc⟩ := sortedHeap_at (vs := vs) (out := out.toArray) hoL
    have sf := sort_facts (fun z : Str => PyData.str z) zs
    refine wpAny_pure ⟨_, rfl, hQ _ h'.objs.size out.toArray c _ (fun b u q => ?_) rfl rfl hz hcc (by simpa using eo) sf.1 (sf.2.imp fun {a b} h => by rw [PySem.W.dataLe_str fun z : Str => z] at h; exact h)⟩
    have q1 := k1 b u q
    have hlt := Heap.lt_size q1
    show (sortedHeap (h'.push (seqObj "list" vs.toArray 0)) h'.objs.size vs out.toArray).get? b = some u
    rw [sortedHeap_old (Nat.ne_of_lt hlt) (by rw [size_push']; exact Nat.lt_succ_of_lt hlt)]
    exact Heap.get?_push_of_some _ q1
section
variable {X : Cx}
/-- sorted(a tuple of texts): a list of the same texts, rising -/
def rSortTT (K : PySem.W.Frag) : List V → Hp → VK → Prop := fun vs H Q => ∃ (a : Addr) (zs : List Str), vs = [V.ref a] ∧ SqT K H a (zs.map V.str) ∧ zs.length < 1000 ∧
  ∀ (ys : List Str) (p : Addr), ys.Perm zs → RisingX ys → H p = none → Q (.ref p) (upd H p (.lst (ys.map V.str)))
theorem cr_sortTT (hu : X.A.units + 64 < cLine) : CallR X (.builtin "sorted") (rSortTT X.K) := by
  intro pins s σ H vs us Q I r h
  obtain ⟨a, zs, rfl, ha, few, q⟩ := h
  rw [Vals.ref1 r]
  obtain ⟨its, rv, ht, hz⟩ := I.tuple ha
  have e : PySem.W.EachIs (fun v z => RelV (.str z) v) its zs := vals_texts rv
  refine sorted_tupT ht e few (by omega) fun s' p out c zs' k g os hp hg ho' pm rs => ?_
  have hn : H p = none := I.hok.fresh hp
  have hv : Vals (zs'.map V.str) out.toList := texts_vals ho'
  have hl : zs'.length = zs.length := pm.length_eq
  have hlen : (zs'.map V.str).length ≤ sizeLine := by
    rw [List.length_map, sizeLine_eq]
    omega
  have J : Inv X pins σ (upd H p (.lst (zs'.map V.str))) { s with heap := s'.heap, gens := s'.gens, drawn := s'.drawn, toks := s'.toks } :=
    I.call (ch := []) (Un.laid k hp hn) (I.hok.laid k hp ⟨hlen, out.toList, c, hv, hg⟩) (by rw [g]; exact I.bare) (fun _ z => nomatch z)
  have e2 : s' = { s with heap := s'.heap, gens := s'.gens, drawn := s'.drawn, toks := s'.toks } := by
    cases s'
    cases s
    cases os
    rfl
  rw [e2]
  exact ⟨.ref p, _, J, rfl, q zs' p pm rs hn⟩
end
end
end Rw
namespace Rw
open PySem PySem.Spec PyProof.Rows L2
/-! ### all_answers -/
abbrev nAllAns : List Str := ["program", "parts", "rows", "found", "earlier", "place", "layer", "world", "names"]
theorem scAllAns : GScope nAllAns ["program"] (defScope sAllAns) := ⟨rfl, rfl, rfl, by decide +kernel, rfl, by decide +kernel, by decide +kernel⟩
def rTup (K : PySem.W.Frag) : List V → Hp → VK → Prop := fun xs H Q => ∃ p ys, xs = [V.ref p] ∧ ((SqL K H p ys ∧ ∀ (l : Addr), H l = none → Q (V.ref l) (upd H l (HO.tup ys))) ∨ SqT K H p ys ∧ Q (V.ref p) H)
/-- the unions found when i of the layers are done -/
def foundN (S : List Rl) (PT : List W) : Nat → List W
  | 0 => [[]]
  | i + 1 => wlF ((PT.take i).flatten) (PT.getD i []) (rowG PT S i) (foundN S PT i)
/-- the union as a world -/
def SortOf (x y : W) : Prop := y.Perm x ∧ RisingX y
theorem LayO.cover {S : List Rl} {lf : W} {R : List W} (h : LayO S lf R) : ∀ z, z ∈ R.flatten ↔ z ∈ lf := by
  induction h with
  | nil => exact fun z => Iff.rfl
  | @cons lf pre post l x R e1 e2 e3 hu hm h ih =>
    intro z
    rw [List.flatten_cons, List.mem_append, ih z]
    unfold minus
    rw [List.mem_filter]
    constructor
    · rintro (h | h)
      · exact ((hm z).mp h).1
      · exact h.1
    · intro h
      by_cases c : z ∈ l
      · exact .inl c
      · exact .inr ⟨h, by simp [c]⟩
theorem LayO.nd {S : List Rl} {lf : W} {R : List W} (h : LayO S lf R) : R.flatten.Nodup := by
  induction h with
  | nil => exact List.nodup_nil
  | @cons lf pre post l x R e1 e2 e3 hu hm h ih =>
    rw [List.flatten_cons]
    refine List.nodup_append.mpr ⟨upX_nodup hu, ih, fun a ha b hb e => ?_⟩
    have z := (h.cover b).mp hb
    unfold minus at z
    have := (List.mem_filter.mp z).2
    subst e
    simp [ha] at this
theorem LayO.len {S : List Rl} {lf : W} {R : List W} (h : LayO S lf R) : R.length ≤ R.flatten.length := by
  induction h with
  | nil => exact Nat.le_refl _
  | @cons lf pre post l x R e1 e2 e3 hu hm h ih =>
    rw [List.flatten_cons, List.length_append, List.length_cons]
    have : x ∈ l := (hm x).mpr ⟨by rw [e1]; simp, .inl rfl⟩
    have := List.length_pos_of_mem this
    omega
theorem apart_of {PT : List W} (nd : PT.flatten.Nodup) : Apart PT := by
  have pw := (List.pairwise_flatten.mp nd).2
  intro i j s t x hi hj hs ht
  obtain ⟨h1, e1⟩ := List.getElem?_eq_some_iff.mp hi
  obtain ⟨h2, e2⟩ := List.getElem?_eq_some_iff.mp hj
  rcases Nat.lt_trichotomy i j with h | h | h
  · exact absurd rfl (List.pairwise_iff_getElem.mp pw i j h1 h2 h x (by rw [e1]; exact hs) x (by rw [e2]; exact ht))
  · exact h
  · exact absurd rfl (List.pairwise_iff_getElem.mp pw j i h2 h1 h x (by rw [e2]; exact ht) x (by rw [e1]; exact hs))
theorem LayO.isW {S : List Rl} {own : W} {R : List W} (h : LayO S own R) (hw : IsW own) : ∀ l ∈ R, IsW l := fun l hl => by
  obtain ⟨h1, h2⟩ := h.sub l hl
  exact ⟨fun x hx => hw.names x (h2 x hx), h1, Nat.le_trans (len_le (upX_nodup h1) h2) hw.few⟩
theorem maps_of {α β : Type} {f : α → β} : ∀ {es : List β}, (∀ e ∈ es, ∃ a, e = f a) → ∃ us : List α, es = us.map f
  | [], _ => ⟨[], rfl⟩
  | e :: es, h => by
    obtain ⟨a, rfl⟩ := h e List.mem_cons_self
    obtain ⟨us, rfl⟩ := maps_of (es := es) fun x hx => h x (List.mem_cons_of_mem _ hx)
    exact ⟨a :: us, rfl⟩
theorem foundN_lens {S : List Rl} {PT : List W} (hW : ∀ l ∈ PT, IsW l) : ∀ i, i ≤ PT.length → (foundN S PT i).length ≤ 2 ^ ((PT.take i).flatten).length ∧ ∀ x ∈ foundN S PT i, x.length ≤ ((PT.take i).flatten).length
  | 0, _ => ⟨by show 1 ≤ 2 ^ _; exact Nat.pow_pos (by decide), fun x hx => by rw [List.mem_singleton.mp hx]; exact Nat.zero_le _⟩
  | i + 1, hi => by
    obtain ⟨ih1, ih2⟩ := foundN_lens (S := S) hW i (by omega)
    have il : i < PT.length := by omega
    have hg : PT[i]? = some PT[i] := List.getElem?_eq_getElem il
    have hd : PT.getD i [] = PT[i] := by rw [List.getD_eq_getElem?_getD, hg]; rfl
    have ft : (PT.take (i + 1)).flatten = (PT.take i).flatten ++ PT[i] := by rw [take_snoc hg, List.flatten_append, List.flatten_singleton]
    have w1 := hW PT[i] (List.getElem_mem il)
    rw [ft, List.length_append]
    unfold foundN
    rw [hd]
    refine ⟨Nat.le_trans (wlF_len w1 _) ?_, fun x hx => ?_⟩
    · rw [Nat.pow_add]
      exact Nat.mul_le_mul_right _ ih1
    · unfold wlF at hx
      obtain ⟨a, ha, hx⟩ := List.mem_flatMap.mp hx
      unfold wlOne at hx
      obtain ⟨m, hm, rfl⟩ := List.mem_map.mp hx
      have := (mem_every.mp ((mem_dg0 w1).mp (List.mem_filter.mp hm).1)).length_le
      have := ih2 a ha
      rw [List.length_append]
      omega
section
variable {P : Program} {w : World} {K : PySem.W.Frag} {mg : Str → Option Value} {base : Heap} {f : Addr} {fd : FuncData} {k : Nat}
def spAllAns (K : PySem.W.Frag) (C : Addr) : SpG := fun vs H Q _ => ∃ (v : V) (S : List Rl) (bd : W), vs = [v] ∧ PgAt K C H v S ∧ (∀ r ∈ S, IsR r) ∧ S.length < 76 ∧ (∀ z ∈ namesL S, z ∈ bd) ∧ bd.length ≤ 7 ∧
  ∀ H' xs own R (ts us : List W), Same H H' → IsW own → (∀ z, z ∈ own ↔ z ∈ namesL S) → LayO S own R → Paired SortOf (foundN S ([] :: R) (R.length + 1)) ts → us.Perm ts → Rising (us.map wd) → DpAll K H' xs (us.map wd) → Q xs H'
theorem ok_allAns {C CP f1 f2 f3 f4 : Addr} {fd1 fd2 fd3 fd4 : FuncData} (F : FunD K "all_answers" "all_answers" (defArgs sAllAns) (defBody sAllAns) (defScope sAllAns) [] [] f fd) (T : Bl mg)
    (G1 : FnOk P w K mg base (L2.CX P w) k f1 fd1 ["thing"] (spCheckProgram K C CP)) (b1 : Binds K fd1 ["thing"] []) (k1 : PySem.W.keepIn K (.ref f1) = true) (m1 : mg "check_program" = some (.ref f1))
    (G2 : FnOk P w K mg base (L2.CX P w) k f2 fd2 ["program"] (spLayers K C CP)) (b2 : Binds K fd2 ["program"] []) (k2 : PySem.W.keepIn K (.ref f2) = true) (m2 : mg "layers" = some (.ref f2))
    (G3 : FnOk P w K mg base CX0 k f3 fd3 ["program", "parts"] (spRowsOf K C)) (b3 : Binds K fd3 ["program", "parts"] []) (k3 : PySem.W.keepIn K (.ref f3) = true) (m3 : mg "_rows_of_layers" = some (.ref f3))
    (G4 : FnOk P w K mg base CX0 k f4 fd4 ["found", "earlier", "layer", "rows"] (spWith K)) (b4 : Binds K fd4 ["found", "earlier", "layer", "rows"] []) (k4 : PySem.W.keepIn K (.ref f4) = true) (m4 : mg "_with_layer" = some (.ref f4)) :
    CFn P w K mg base (k + 1) f fd ["program"] (spAllAns K C) := by
  obtain ⟨oc, od, dV, kV, doc, pm, an, cdv, ct, osl, rfl, lk, hcd, _, _⟩ := F.ex
  refine cfn_of (N := nAllAns) lk hcd scAllAns (fun vs H Q E h => ?_) (fun A outer s H vs Q E pn hr h => ?_)
  · obtain ⟨v, S, bd, rfl, _⟩ := h
    rfl
  obtain ⟨v, S, bd, rfl, hS, hI, few, hbd, lbd, q⟩ := h
  refine ⟨_, css_cons (cs_ps (ps_expr (pe_call G1 hr (by rfl) m1 k1 b1 .nil passNo (pa_cons (pv 0) pa_nil))))
    (css_cons (cs_ps (ps_set (i := 1) scAllAns.nd rfl (.inl rfl) (pe_lst (pa_cons (pe_tup pa_nil) (StX.pa_star (pe_call G2 hr (by rfl) m2 k2 b2 .nil passNo (pa_cons (pv 0) pa_nil)) pa_nil)))))
    (css_cons (cs_ps (ps_set (i := 2) scAllAns.nd rfl (.inl rfl) (pe_call G3 hr (by rfl) m3 k3 b3 .nil pass0 (pa_cons (pv 0) (pa_cons (pv 1) pa_nil)))))
    (css_cons (cs_ps (ps_set (i := 3) scAllAns.nd rfl (.inl rfl) (pe_lst (pa_cons (pe_tup pa_nil) pa_nil))))
    (css_cons (cs_ps (ps_set (i := 4) scAllAns.nd rfl (.inl rfl) (pe_tup pa_nil)))
    (css_cons (cs_ps (ps_for owns_gcx rfl (pi_enum (by rfl) T.enum (pa_cons (pv 1) pa_nil)) (pg_tup (by rfl) (pgs_cons (pg_name (i := 5) scAllAns.nd rfl (.inl rfl)) (pgs_cons (pg_name (i := 6) scAllAns.nd rfl (.inl rfl)) pgs_nil)))
      (pss_cons (ps_set (i := 3) scAllAns.nd rfl (.inl rfl) (pe_call G4 hr (by rfl) m4 k4 b4 .nil pass0 (pa_cons (pv 3) (pa_cons (pv 4) (pa_cons (pv 6) (pa_cons (pe_ix ix_list (pv 2) (pv 5) (fun _ _ => rfl)) pa_nil))))))
      (pss_one (ps_set (i := 4) scAllAns.nd rfl (.inl rfl) (pe_op op_catA (pv 4) (pv 6)))))))
    (css_cons (cs_for owns_gcx rfl (pi_list (pe_callB (r := rSortL K) (cr_sortL hr.units) (by rfl) T.sorted (by decide +kernel) (pa_cons (pe_lc (own := [("names", 8)]) (g := gName 8) (te := tCB (rTup K) (tCons (tCB (rSortTT K) (tCons (tVar 8) tNil)) tNil)) (by rfl) scAllAns.nd (pi_list (pv 3)) (blkOk_by (N := nAllAns) (sc := defScope sAllAns) (by decide +kernel))
        (fun _ _ _ _ _ => pg_name (i := 8) scAllAns.nd rfl (Or.inl rfl)) (fun _ _ _ _ _ => pts_nil) (fun _ _ _ _ _ => pe_callTy (T := "tuple") (r := rTup K) call_tuple_of (by rfl) T.tuple (by decide +kernel) (pa_cons (pe_callB (r := rSortTT K) (cr_sortTT hr.units) (by rfl) T.sorted (by decide +kernel) (pa_cons (pv 8) pa_nil)) pa_nil))) pa_nil))) (pg_name (i := 7) scAllAns.nd rfl (.inl rfl))
      (css_cons (cs_yield (pv 7)) css_nil)) css_nil)))))), ?_⟩
  obtain ⟨av, dx, t0, ys0, rfl, i1, i2, i3⟩ := id hS
  refine ⟨.ref av, rfl, .ref av, rfl, .inl ⟨S, hS, ?_⟩⟩
  -- parts
  refine ⟨by show 0 ≤ sizeLine; decide, fun t1 ht1 => ?_⟩
  have s1 := same_new ht1 (.tup [])
  refine ⟨.ref av, rfl, ?_⟩
  dsimp only [tNil]
  refine ⟨.ref av, rfl, .inl ⟨S, bd, hS.same s1, hI, few, hbd, by omega, fun H2 D ysL own R s2 hD0 hD hys hown hmem hlay => ?_⟩⟩
  have ol : own.length ≤ 7 := Nat.le_trans (few_own hown hmem hbd) lbd
  have yl : ysL.length = R.length := by rw [dpAll_len hys, List.length_map]
  have nd := hlay.nd
  have fll : R.flatten.length ≤ 7 := Nat.le_trans (len_le nd fun z hz => (hlay.cover z).mp hz) ol
  have rl := hlay.len
  let PT : List W := [] :: R
  have pf : PT.flatten = R.flatten := rfl
  have hPW : ∀ l ∈ PT, IsW l := fun l hl => by
    rcases List.mem_cons.mp hl with rfl | hl
    · exact ⟨(fun _ z => nomatch z), List.Pairwise.nil, Nat.zero_le _⟩
    · exact hlay.isW hown l hl
  refine ⟨D, ysL, rfl, .inr (SqL.of hD), by rw [List.append_nil, List.length_cons, sizeLine_eq]; omega, fun lp hlp => ?_⟩
  have s3 := same_new hlp (.lst (.ref t1 :: (ysL ++ [])))
  have s23 := s2.trans s3
  have s13 := s1.trans s23
  let H3 : Hp := upd H2 lp (.lst (.ref t1 :: (ysL ++ [])))
  have hp3 : H3 lp = some (.lst (.ref t1 :: (ysL ++ []))) := upd_same
  have dp3 : DpAll K H3 (.ref t1 :: (ysL ++ [])) (PT.map wd) := by
    rw [List.append_nil]
    exact .cons (to_wd (ns := []) (SqT.of (s23 _ _ upd_same))) (dpAll_same s3 _ _ hys)
  have pl : (V.ref t1 :: (ysL ++ [])).length = PT.length := by rw [dpAll_len dp3, List.length_map]
  -- rows
  refine ⟨.ref av, rfl, .ref lp, rfl, ?_⟩
  dsimp only [tNil]
  refine ⟨.ref av, lp, _, S, PT, rfl, hS.same s13, hI, few, hp3, dp3, apart_of (PT := PT) nd, by rw [pf]; omega, by show R.length + 1 ≤ 42; omega, by show 0 < R.length + 1; omega, fun r hr x hx => (hlay.cover x).mpr ((hmem x).mpr (List.mem_flatMap.mpr ⟨r, hr, hx⟩)), fun H4 l2 s4 hrows => ?_⟩
  obtain ⟨rA, r1, r2, r3, r4⟩ := hrows
  -- found, earlier
  refine ⟨by show 0 ≤ sizeLine; decide, fun t5 ht5 => ?_⟩
  have s5 := same_new ht5 (.tup [])
  refine ⟨by show 1 ≤ sizeLine; decide, fun l5 hl5 => ?_⟩
  have s6 := same_new hl5 (.lst [.ref t5])
  refine ⟨by show 0 ≤ sizeLine; decide, fun t7 ht7 => ?_⟩
  have s7 := same_new ht7 (.tup [])
  have s47 := s5.trans (s6.trans s7)
  have s37 := s4.trans s47
  have s17 := s13.trans s37
  refine ⟨.ref lp, rfl, lp, _, rfl, SqL.of (s37 _ _ hp3), for_it walk_enum (fun i σ H8 => (∃ y5 y6 lf e fs, σ = [some (.ref av), some (.ref lp), some (.ref l2), some (.ref lf), some e, y5, y6, none, none] ∧ H8 lf = some (.lst fs) ∧ DpAll K H8 fs ((foundN S PT i).map wd) ∧ Dp K H8 e (wd (PT.take i).flatten)) ∧ Same H4 H8) ⟨⟨_, _, l5, .ref t7, [.ref t5], rfl, s7 _ _ upd_same, .cons (to_wd (ns := []) (SqT.of ((s6.trans s7) _ _ upd_same))) .nil, to_wd (ns := []) (SqT.of upd_same)⟩, s47⟩ (fun i σ H8 _ h => SqL.of (h.2 _ _ (s4 _ _ hp3))) (fun i x σ H8 H8' hi h hy => ?_) (fun σ H8 h => ?_)⟩
  · obtain ⟨⟨y5, y6, lf, e, fs, rfl, hlf, hfs, he⟩, sm⟩ := h
    obtain ⟨T0, x1, y1, rfl, hT, rfl, e1, e2⟩ := hy
    obtain rfl : V.int (i : Int) = x1 := Option.some.inj e1
    have e2 : (V.ref t1 :: (ysL ++ []))[i]? = some y1 := e2
    rw [pl] at hi
    obtain ⟨dd, hdd, hxd⟩ := dpAll_at' dp3 e2
    obtain ⟨ly, hly, rfl⟩ := map_at hdd
    have sT := same_new hT (.tup [.int (i : Int), y1])
    have sm2 := sm.trans sT
    have hg : PT.getD i [] = ly := by rw [List.getD_eq_getElem?_getD, hly]; rfl
    have ft : (PT.take (i + 1)).flatten = (PT.take i).flatten ++ ly := by rw [take_snoc hly, List.flatten_append, List.flatten_singleton]
    have f7 : (PT.take i).flatten.length + ly.length ≤ 7 := by
      rw [← List.length_append, ← ft]
      refine Nat.le_trans ?_ (Nat.le_trans (Nat.le_of_eq (congrArg List.length pf)) fll)
      conv => rhs; rw [← List.take_append_drop (i + 1) PT]
      rw [List.flatten_append, List.length_append]
      omega
    obtain ⟨fl1, fl2⟩ := foundN_lens (S := S) hPW i (by omega)
    obtain ⟨a, ha⟩ : ∃ a, rA[i]? = some a := ⟨_, List.getElem?_eq_getElem (by rw [r2]; exact hi)⟩
    obtain ⟨zs, hza, hzs⟩ := r4 i a ha
    refine ⟨T0, [.int (i : Int), y1], rfl, SqT.of upd_same, rfl, .int (i : Int), [y1], rfl, y1, [], rfl, rfl, ?_⟩
    refine ⟨.ref lf, rfl, e, rfl, y1, rfl, .ref l2, rfl, .int (i : Int), rfl, l2, _, _, .ref a, rfl, rfl, SqL.of (sm2 _ _ r1), atI_nat (by rw [List.getElem?_map, ha]; rfl), ?_⟩
    dsimp only [tNil]
    have he2 := dp_same sT _ _ he
    have hy2 := dp_same (s4.trans sm2) _ _ hxd
    refine ⟨lf, a, e, y1, fs, zs, foundN S PT i, (PT.take i).flatten, ly, rowG PT S i, rfl, sT _ _ hlf, dpAll_same sT _ _ hfs, fl1, he2, hy2, hPW ly (List.mem_of_getElem? hly), f7, fun x hx => by have := fl2 x hx; omega, sm2 _ _ hza, dpAll_same sm2 _ _ hzs, fun r hr => hI r (List.mem_filter.mp hr).1, Nat.lt_of_le_of_lt (List.length_filter_le _ _) few, fun H9 l9 zs9 s9 hl9 hz9 => ?_⟩
    obtain ⟨ea, rfl, hea⟩ := of_wd (dp_same s9 _ _ he2)
    obtain ⟨ya, rfl, hya⟩ := of_wd (dp_same s9 _ _ hy2)
    refine ⟨.ref ea, rfl, .ref ya, rfl, catA_w hea hya (small_line (by rw [List.length_map, List.length_map]; omega)) fun c H10 s10 hc => ?_⟩
    refine ⟨⟨_, _, l9, .ref c, zs9, rfl, s10 _ _ hl9, ?_, ?_⟩, sm2.trans (s9.trans s10)⟩
    · unfold foundN
      rw [hg]
      exact dpAll_same s10 _ _ hz9
    · rw [ft]
      refine to_wd ?_
      rw [List.map_append]
      exact hc
  · obtain ⟨⟨y5, y6, lf, e, fs, rfl, hlf, hfs, he⟩, sm⟩ := h
    rw [pl] at hfs
    have s18 := s13.trans (s4.trans sm)
    obtain ⟨fl1, fl2⟩ := foundN_lens (S := S) hPW PT.length (Nat.le_refl _)
    rw [List.take_length, pf] at fl1 fl2
    have fsl : fs.length ≤ 128 := by
      rw [dpAll_len hfs, List.length_map]
      exact Nat.le_trans fl1 (Nat.le_trans (Nat.pow_le_pow_right (by decide) fll) (by decide))
    refine ⟨.ref lf, rfl, lf, rfl, ⟨_, SqL.of hlf⟩, fun D9 hD9 => ?_⟩
    refine lc_list (xs := fs) (fun j H9 => Same H8 H9 ∧ ∃ zs ts, H9 D9 = some (.lst zs) ∧ DpAll K H9 zs (ts.map wd) ∧ Paired SortOf ((foundN S PT PT.length).take j) ts) ⟨same_new hD9 _, [], [], upd_same, .nil, .nil⟩ (fun j H9 _ h => SqL.of (h.1 _ _ hlf)) (fun j x H9 hx h => ?_) (fun H9 h => ?_)
    · obtain ⟨sm9, zs, ts, hzs, hzd, hpa⟩ := h
      obtain ⟨dd, hdd, hxd⟩ := dpAll_at' hfs hx
      obtain ⟨wn, hwn, rfl⟩ := map_at hdd
      have jl : j < fs.length := (List.getElem?_eq_some_iff.mp hx).1
      have hpl := hpa.length
      rw [List.length_take] at hpl
      obtain ⟨ba, rfl, hba⟩ := of_wd (dp_same sm9 _ _ hxd)
      have wl := fl2 wn (List.mem_of_getElem? hwn)
      refine ⟨rfl, .ref ba, rfl, ba, wn, rfl, hba, by omega, fun zy p9 pm9 rs9 hp9 => ?_⟩
      have s9 := same_new hp9 (.lst (zy.map V.str))
      refine ⟨p9, _, rfl, .inl ⟨SqL.of upd_same, fun t9 ht9 => ?_⟩⟩
      have s10 := same_new ht9 (.tup (zy.map V.str))
      have s90 := s9.trans s10
      have hz10 := s90 _ _ hzs
      have st := Stay.put (H := upd (upd H9 p9 (.lst (zy.map V.str))) t9 (.tup (zy.map V.str))) (p := D9) (by rw [hz10]; exact True.intro) (.lst (zs ++ [.ref t9]))
      refine ⟨zs, hz10, small_line' (by rw [dpAll_len hzd, List.length_map]; omega), same_put (sm9.trans s90) hD9, _, ts ++ [zy], upd_same, ?_, ?_⟩
      · rw [List.map_append]
        exact dpAll_app (((Stay.same s90).trans st).dpAll _ _ (okDs_wd _) hzd) (.cons (st.wd (to_wd (SqT.of upd_same))) .nil)
      · rw [take_snoc hwn]
        exact paired_snoc ⟨pm9, rs9⟩ hpa
    obtain ⟨sm9, zs, ts, hzs, hzd, hpa⟩ := h
    have fsl2 : fs.length = (foundN S PT PT.length).length := by rw [dpAll_len hfs, List.length_map]
    rw [fsl2, List.take_length] at hpa
    have tl : ts.length = fs.length := by rw [fsl2, hpa.length]
    refine ⟨D9, zs, ts.map wd, rfl, SqL.of hzs, hzd, fun d hd => ?_, fun d hd d' hd' => ?_, fun yv es p10 pm10 rs10 hyv hp10 => ?_⟩
    · obtain ⟨t, _, rfl⟩ := List.mem_map.mp hd
      exact good_wd t
    · obtain ⟨t, _, rfl⟩ := List.mem_map.mp hd
      obtain ⟨t', _, rfl⟩ := List.mem_map.mp hd'
      exact alike_wd t t'
    obtain ⟨us, rfl⟩ := maps_of (f := wd) (es := es) fun e he => by
      obtain ⟨t, _, et⟩ := List.mem_map.mp (pm10.mem_iff.mp he)
      exact ⟨t, et.symm⟩
    have pmu : us.Perm ts := perm_of_map (fun _ _ e => wd_inj e) pm10
    have s10 := same_new hp10 (.lst yv)
    have ul : yv.length = us.length := by rw [dpAll_len hyv, List.length_map]
    have uts : us.length ≤ 128 := by rw [pmu.length_eq, tl]; exact fsl
    have hyv10 := dpAll_same s10 _ _ hyv
    have hp11 : (upd H9 p10 (.lst yv)) p10 = some (.lst yv) := upd_same
    have s1A := s18.trans (sm9.trans s10)
    generalize upd H9 p10 (.lst yv) = HA at hyv10 hp11 s1A ⊢
    refine ⟨p10, rfl, ⟨_, SqL.of hp11⟩, for_listG (xs := yv) (fun i ys σ HB => (∃ y7, σ = [some (.ref av), some (.ref lp), some (.ref l2), some (.ref lf), some e, y5, y6, y7, none]) ∧ Same HA HB ∧ ys = yv.take i) ⟨⟨_, rfl⟩, (fun _ _ e => e), rfl⟩ (fun i ys σ HB _ hI => SqL.of (hI.2.1 _ _ hp11)) (fun i u ys σ HB hu hI2 => ?_) (fun ys σ HB hI2 => ?_)⟩
    · obtain ⟨⟨y7, rfl⟩, smB, rfl⟩ := hI2
      refine ⟨by rw [List.length_take, sizeLine_eq]; omega, u, rfl, ⟨_, rfl⟩, smB, ?_⟩
      rw [take_snoc hu]
    · obtain ⟨⟨y7, rfl⟩, smB, rfl⟩ := hI2
      rw [List.take_length]
      exact q HB yv own R ts us (s1A.trans smB) hown hmem hlay hpa pmu rs10 (dpAll_same smB _ _ hyv10)
end
end Rw
namespace Rw
open PySem PySem.Spec PyProof.Rows L2
def innW (ns ms : W) : W := ns.filter fun z => decide (z ∈ ms)
def neL (zs : W) : Bool := !decide (zs = [])
def standsB (r : Rl) (h t : W) : Bool := (neL (minus r.2.2.1 h) || neL (innW r.2.2.2 t)) || (neL (innW r.1 h) || neL (minus r.2.1 t))
def holdsB (S : List Rl) (h t : W) : Bool := S.all fun r => standsB r t t && standsB r h t
/-! ### what the program tells is what the law tells -/
theorem nz_num {own w : W} (h : ∀ x ∈ w, x ∈ own) : nz (num own w) = neL w := by
  unfold nz neL
  have z := @num_zero own w
  cases w with
  | nil =>
    rw [num_nil]
    rfl
  | cons x w =>
    have ne : num own (x :: w) ≠ 0 := fun e => z.mp e x (h x List.mem_cons_self) List.mem_cons_self
    simp [ne]
def NIn (own : W) (r : Rl) : Prop := ∀ t ∈ parts r, ∀ z ∈ t, z ∈ own
theorem num_inn (own a b : W) : Builtin.bitAnd (num own a) (num own b) = num own (innW a b) := num_and own a b
theorem nzM {own a : W} (h : ∀ x ∈ a, x ∈ own) (b : W) : nz (num own (minus a b)) = neL (minus a b) := nz_num fun x hx => h x (List.mem_filter.mp hx).1
theorem nzI {own a : W} (h : ∀ x ∈ a, x ∈ own) (b : W) : nz (num own (innW a b)) = neL (innW a b) := nz_num fun x hx => h x (List.mem_filter.mp hx).1
theorem pass_stands {own : W} {r : Rl} (hr : NIn own r) (h t : W) : passI (numR own r) (num own h) (num own t) = standsB r h t := by
  have p1 : ∀ z ∈ r.1, z ∈ own := hr _ (by unfold parts; simp)
  have p2 : ∀ z ∈ r.2.1, z ∈ own := hr _ (by unfold parts; simp)
  have p3 : ∀ z ∈ r.2.2.1, z ∈ own := hr _ (by unfold parts; simp)
  have p4 : ∀ z ∈ r.2.2.2, z ∈ own := hr _ (by unfold parts; simp)
  show (nz (Builtin.bitAnd (num own r.2.2.1) (Builtin.bitNot (num own h))) || (nz (Builtin.bitAnd (num own r.2.2.2) (num own t)) || (nz (Builtin.bitAnd (num own r.1) (num own h)) || nz (Builtin.bitAnd (num own r.2.1) (Builtin.bitNot (num own t)))))) = _
  rw [num_diff, num_diff, num_inn, num_inn, nzM p3, nzM p2, nzI p4, nzI p1]
  unfold standsB
  simp only [Bool.or_assoc]
theorem agree_stands {own : W} {S : List Rl} (hS : ∀ r ∈ S, NIn own r) (h t : W) : agreeI (S.map (numR own)) (num own h) (num own t) = S.all fun r => standsB r h t := by
  unfold agreeI
  rw [List.all_map, Bool.eq_iff_iff, List.all_eq_true, List.all_eq_true]
  have e : ∀ r ∈ S, ((fun n => passI n (num own h) (num own t)) ∘ numR own) r = standsB r h t := fun r hr => pass_stands (hS r hr) h t
  exact ⟨fun g r hr => (e r hr) ▸ g r hr, fun g r hr => (e r hr).symm ▸ g r hr⟩
theorem neL_iff {zs : W} : neL zs = true ↔ ∃ z, z ∈ zs := by
  unfold neL
  cases zs with
  | nil => simp
  | cons x zs => simp
theorem met_stands {own : W} {S : List Rl} (hS : ∀ r ∈ S, NIn own r) {h t : W} (ht : ∀ z ∈ h, z ∈ t) : allMetI (urgI (S.map (numR own)) (num own t)) (num own h) = true ↔ ∀ r ∈ S, standsB r h t = true := by
  unfold allMetI urgI
  rw [List.all_eq_true]
  have key : ∀ r ∈ S, (urgB (num own t) (numR own r) = true → metI ((numR own r).1, (numR own r).2.2.1) (num own h) = true) ↔ standsB r h t = true := fun r hr => by
    have hr := hS r hr
    have p1 : ∀ z ∈ r.1, z ∈ own := hr _ (by unfold parts; simp)
    have p2 : ∀ z ∈ r.2.1, z ∈ own := hr _ (by unfold parts; simp)
    have p3 : ∀ z ∈ r.2.2.1, z ∈ own := hr _ (by unfold parts; simp)
    have p4 : ∀ z ∈ r.2.2.2, z ∈ own := hr _ (by unfold parts; simp)
    have eu : urgB (num own t) (numR own r) = !(neL (innW r.2.2.2 t) || (neL (minus r.2.1 t) || neL (minus r.2.2.1 t))) := by
      show (!(nz (Builtin.bitAnd (num own r.2.2.2) (num own t)) || (nz (Builtin.bitAnd (num own r.2.1) (Builtin.bitNot (num own t))) || nz (Builtin.bitAnd (num own r.2.2.1) (Builtin.bitNot (num own t)))))) = _
      rw [num_diff, num_diff, num_inn, nzM p3, nzM p2, nzI p4]
    have em : metI ((numR own r).1, (numR own r).2.2.1) (num own h) = (neL (minus r.2.2.1 h) || neL (innW r.1 h)) := by
      show (nz (Builtin.bitAnd (num own r.2.2.1) (Builtin.bitNot (num own h))) || nz (Builtin.bitAnd (num own r.1) (num own h))) = _
      rw [num_diff, num_inn, nzM p3, nzI p1]
    have mono : neL (minus r.2.2.1 t) = true → neL (minus r.2.2.1 h) = true := fun e => by
      obtain ⟨z, hz⟩ := neL_iff.mp e
      obtain ⟨a, b⟩ := List.mem_filter.mp hz
      refine neL_iff.mpr ⟨z, List.mem_filter.mpr ⟨a, ?_⟩⟩
      have b' : z ∉ t := by simpa using b
      simpa using fun q => b' (ht z q)
    rw [eu, em]
    unfold standsB
    revert mono
    cases neL (minus r.2.2.1 t) <;> cases neL (minus r.2.2.1 h) <;> cases neL (innW r.2.2.2 t) <;> cases neL (minus r.2.1 t) <;> cases neL (innW r.1 h) <;> simp
  constructor
  · intro g r hr
    refine (key r hr).mp fun e => ?_
    exact g _ (List.mem_map.mpr ⟨numR own r, List.mem_filter.mpr ⟨List.mem_map.mpr ⟨r, hr, rfl⟩, e⟩, rfl⟩)
  · intro g x hx
    obtain ⟨n, hn, rfl⟩ := List.mem_map.mp hx
    obtain ⟨hn, e⟩ := List.mem_filter.mp hn
    obtain ⟨r, hr, rfl⟩ := List.mem_map.mp hn
    exact (key r hr).mpr (g r hr) e
theorem holds_all {S : List Rl} {h t : W} : holdsB S h t = true ↔ (∀ r ∈ S, standsB r t t = true) ∧ ∀ r ∈ S, standsB r h t = true := by
  unfold holdsB
  rw [List.all_eq_true]
  constructor
  · intro g
    exact ⟨fun r hr => (Bool.and_eq_true_iff.mp (g r hr)).1, fun r hr => (Bool.and_eq_true_iff.mp (g r hr)).2⟩
  · rintro ⟨a, b⟩ r hr
    exact Bool.and_eq_true_iff.mpr ⟨a r hr, b r hr⟩
theorem num_below {own h t : W} (hown : IsW own) (sh : h.Sublist own) (st : t.Sublist own) (sub : ∀ z ∈ h, z ∈ t) (ne : h ≠ t) : num own h < num own t ∧ Builtin.bitAnd (num own h) (num own t) = num own h := by
  have e : h.filter (fun z => decide (z ∈ t)) = h := List.filter_eq_self.mpr fun z hz => decide_eq_true (sub z hz)
  have e2 : Builtin.bitAnd (num own h) (num own t) = num own h := by rw [num_and, e]
  refine ⟨?_, e2⟩
  have z := (and_nn (num_nn own t) (num_nn own h)).2.1
  rw [bitAnd_comm, e2] at z
  have n : num own h ≠ num own t := fun q => ne (upX_one (List.Pairwise.sublist sh hown.up) (List.Pairwise.sublist st hown.up) fun a => ⟨sub a, fun ha => (num_same.mp q a (st.subset ha)).mpr ha⟩)
  omega
theorem fd_iff {S : List Rl} {own t : W} (hown : IsW own) (hS : ∀ r ∈ S, NIn own r) (ht : t ∈ everyW own) : fdB S own t = true ↔ holdsB S t t = true ∧ ∀ h ∈ everyW t, holdsB S h t = true → h = t := by
  have st := mem_every.mp ht
  have f : fdB S own t = true ↔ FoundI (S.map (numR own)) (num own t) := by
    unfold fdB
    exact @decide_eq_true_iff _ (Classical.propDecidable _)
  rw [f]
  unfold FoundI
  rw [agree_stands hS, List.all_eq_true, holds_all]
  constructor
  · rintro ⟨a, b⟩
    refine ⟨⟨a, a⟩, fun h hh g => ?_⟩
    refine Classical.byContradiction fun ne => ?_
    have sh := mem_every.mp hh
    obtain ⟨lt, e⟩ := num_below hown (sh.trans st) st (fun z hz => sh.subset hz) ne
    have z := b _ (num_nn own h) lt e
    have z2 := (met_stands hS (h := h) (t := t) fun z hz => sh.subset hz).mpr (holds_all.mp g).2
    rw [z] at z2
    exact nomatch z2
  · rintro ⟨⟨a, _⟩, b⟩
    refine ⟨a, fun m m0 lt e => ?_⟩
    obtain ⟨h, sh, sub, eh⟩ := num_part (upX_nodup hown.up) m0 e
    subst eh
    cases c : allMetI (urgI (S.map (numR own)) (num own t)) (num own h) with
    | false => rfl
    | true =>
      have g := (met_stands hS sub).mp c
      have hh : h ∈ everyW t := mem_every.mpr (by
        have e : t.filter (fun z => decide (z ∈ h)) = h := upX_one ((List.Pairwise.sublist st hown.up).sublist List.filter_sublist) (List.Pairwise.sublist sh hown.up) fun z => by
          rw [List.mem_filter, decide_eq_true_iff]
          exact ⟨fun q => q.2, fun q => ⟨sub z q, q⟩⟩
        rw [← e]
        exact List.filter_sublist)
      have q := b h hh (holds_all.mpr ⟨a, g⟩)
      subst q
      exact absurd lt (Int.lt_irrefl _)
theorem ltW_nil (a : W) : PySem.W.dataLt (wd a) (wd []) = false := by
  cases a with
  | nil => rw [PySem.W.dataLt]; exact lex_irrefl _
  | cons x a =>
    unfold wd
    rw [PySem.W.dataLt_tuple, List.map_cons, PySem.W.toks_all_cons]
    rfl
theorem ltW_same (x : Str) (a b : W) : PySem.W.dataLt (wd (x :: b)) (wd (x :: a)) = PySem.W.dataLt (wd b) (wd a) := by
  unfold wd
  rw [PySem.W.dataLt_tuple, PySem.W.dataLt_tuple, List.map_cons, List.map_cons, PySem.W.dataLt_cons (by rfl), if_pos]
  rw [PyData.eqv]
  exact decide_eq_true rfl
theorem ltW_less {x y : Str} (h : x.cps.toList < y.cps.toList) (a b : W) : PySem.W.dataLt (wd (y :: b)) (wd (x :: a)) = false := by
  unfold wd
  rw [PySem.W.dataLt_tuple, List.map_cons, List.map_cons, PySem.W.dataLt_cons (by rfl), if_neg, PySem.W.dataLt_str]
  · exact decide_eq_false fun z => List.lt_asymm h z
  · rw [PyData.eqv]
    intro z
    have e : y = x := of_decide_eq_true z
    rw [e] at h
    exact List.lt_irrefl _ h
theorem every_rising : ∀ {own : W}, UpX own → Rising ((everyW own).map wd)
  | [], _ => List.pairwise_singleton _ _
  | x :: own, h => by
    obtain ⟨h1, h2⟩ := List.pairwise_cons.mp h
    have ih := every_rising h2
    unfold everyW
    rw [List.map_cons, List.map_append]
    refine List.pairwise_cons.mpr ⟨fun d hd => ?_, List.pairwise_append.mpr ⟨?_, ?_, fun d hd e he => ?_⟩⟩
    · have : ∃ t, d = wd t := by
        rcases List.mem_append.mp hd with hd | hd <;> obtain ⟨t, _, rfl⟩ := List.mem_map.mp hd <;> exact ⟨t, rfl⟩
      obtain ⟨t, rfl⟩ := this
      show (!PySem.W.dataLt (wd t) (wd [])) = true
      rw [ltW_nil]
      rfl
    · rw [List.map_map]
      refine List.pairwise_map.mpr ((List.pairwise_map.mp ih).imp fun {a b} z => ?_)
      show (!PySem.W.dataLt (wd (x :: b)) (wd (x :: a))) = true
      rw [ltW_same]
      exact z
    · rw [List.map_tail]
      exact List.Pairwise.sublist (List.tail_sublist _) ih
    · obtain ⟨s, hs, rfl⟩ := List.mem_map.mp hd
      obtain ⟨a, _, rfl⟩ := List.mem_map.mp hs
      obtain ⟨b, hb, rfl⟩ := List.mem_map.mp he
      cases b with
      | nil => exact absurd rfl (every_tail hb)
      | cons y b =>
        have hy : y ∈ own := (mem_every.mp (every_ne hb)).subset List.mem_cons_self
        show (!PySem.W.dataLt (wd (y :: b)) (wd (x :: a))) = true
        rw [ltW_less (h1 y hy)]
        rfl
end Rw
namespace Rw
open PySem PySem.Spec PyProof.Rows L2
/-! ### answers told by sets, and programs that are split -/
def StP (r : Rl) (h t : Str → Prop) : Prop := (∃ z ∈ r.2.2.1, ¬ h z) ∨ (∃ z ∈ r.2.2.2, t z) ∨ (∃ z ∈ r.1, h z) ∨ ∃ z ∈ r.2.1, ¬ t z
def HdP (S : List Rl) (h t : Str → Prop) : Prop := ∀ r ∈ S, StP r h t
def AnP (S : List Rl) (t : Str → Prop) : Prop := HdP S t t ∧ ∀ h : Str → Prop, (∀ z, h z → t z) → HdP S h t → ∀ z, t z → h z
theorem mem_own {r : Rl} {z : Str} : z ∈ own r ↔ z ∈ r.1 ∨ z ∈ r.2.1 ∨ z ∈ r.2.2.1 ∨ z ∈ r.2.2.2 := by
  rw [own_mem]
  unfold parts
  simp
/-- what is left of the rules that a world of E asks for -/
def restP (B : List Rl) (E ws : W) : List Rl := (B.filter fun r => asksB (AsT E r) ws).map fun r => lessR r E
theorem asks_iff {E ws : W} {r : Rl} : asksB (AsT E r) ws = true ↔ (∀ z, z ∈ r.2.1 ∨ z ∈ r.2.2.1 → z ∈ E → z ∈ ws) ∧ ∀ z ∈ r.2.2.2, z ∈ E → z ∉ ws := by
  unfold asksB AsT sub meets inn
  rw [Bool.and_eq_true, List.all_eq_true, Bool.not_eq_true', List.any_eq_false]
  constructor
  · rintro ⟨h1, h2⟩
    refine ⟨fun z hz hE => ?_, fun z hz hE => ?_⟩
    · exact of_decide_eq_true (h1 z (List.mem_filter.mpr ⟨List.mem_append.mpr hz, decide_eq_true hE⟩))
    · have := h2 z (List.mem_filter.mpr ⟨hz, decide_eq_true hE⟩)
      simpa using this
  · rintro ⟨h1, h2⟩
    refine ⟨fun z hz => ?_, fun z hz => ?_⟩
    · obtain ⟨a, b⟩ := List.mem_filter.mp hz
      exact decide_eq_true (h1 z (List.mem_append.mp a) (of_decide_eq_true b))
    · obtain ⟨a, b⟩ := List.mem_filter.mp hz
      simpa using h2 z a (of_decide_eq_true b)
theorem mem_minus {t E : W} {z : Str} : z ∈ minus t E ↔ z ∈ t ∧ z ∉ E := by
  unfold minus
  rw [List.mem_filter]
  simp
/-- a rule within E -/
theorem st_in {r : Rl} {E : W} (hr : ∀ z ∈ own r, z ∈ E) {h t g u : Str → Prop} (e1 : ∀ z ∈ E, h z ↔ g z) (e2 : ∀ z ∈ E, t z ↔ u z) : StP r h t ↔ StP r g u := by
  have m : ∀ z, z ∈ r.1 ∨ z ∈ r.2.1 ∨ z ∈ r.2.2.1 ∨ z ∈ r.2.2.2 → z ∈ E := fun z hz => hr z (mem_own.mpr hz)
  unfold StP
  refine or_congr ?_ (or_congr ?_ (or_congr ?_ ?_))
  · exact exists_congr fun z => and_congr_right fun hz => not_congr (e1 z (m z (.inr (.inr (.inl hz)))))
  · exact exists_congr fun z => and_congr_right fun hz => e2 z (m z (.inr (.inr (.inr hz))))
  · exact exists_congr fun z => and_congr_right fun hz => e1 z (m z (.inl hz))
  · exact exists_congr fun z => and_congr_right fun hz => not_congr (e2 z (m z (.inr (.inl hz))))
/-- a rule whose heads lie outside of E, not asked for -/
theorem st_no {r : Rl} {E ws : W} (no : asksB (AsT E r) ws = false) {h T : Str → Prop} (sub : ∀ z, h z → T z) (hw : ∀ z, z ∈ ws ↔ T z ∧ z ∈ E) : StP r h T := by
  have n : ¬ ((∀ z, z ∈ r.2.1 ∨ z ∈ r.2.2.1 → z ∈ E → z ∈ ws) ∧ ∀ z ∈ r.2.2.2, z ∈ E → z ∉ ws) := fun q => by
    rw [asks_iff.mpr q] at no
    cases no
  refine Classical.byContradiction fun ns => n ⟨fun z hz hE => ?_, fun z hz hE hzw => ns (.inr (.inl ⟨z, hz, ((hw z).mp hzw).1⟩))⟩
  refine Classical.byContradiction fun nz => ?_
  have nT : ¬ T z := fun q => nz ((hw z).mpr ⟨q, hE⟩)
  rcases hz with hz | hz
  · exact ns (.inr (.inr (.inr ⟨z, hz, nT⟩)))
  · exact ns (.inl ⟨z, hz, fun q => nT (sub z q)⟩)
/-- .. asked for -/
theorem st_as {r : Rl} {E ws : W} (ha : asksB (AsT E r) ws = true) (hd : ∀ z ∈ r.1, z ∉ E) {h T : Str → Prop} (hw : ∀ z, z ∈ ws ↔ T z ∧ z ∈ E) :
    StP r h T ↔ (∃ z ∈ r.2.2.1, z ∈ E ∧ ¬ h z) ∨ StP (lessR r E) (fun z => h z ∧ z ∉ E) (fun z => T z ∧ z ∉ E) := by
  obtain ⟨a1, a2⟩ := asks_iff.mp ha
  unfold StP lessR
  constructor
  · rintro (⟨z, hz, n⟩ | ⟨z, hz, n⟩ | ⟨z, hz, n⟩ | ⟨z, hz, n⟩)
    · by_cases hE : z ∈ E
      · exact .inl ⟨z, hz, hE, n⟩
      · exact .inr (.inl ⟨z, mem_minus.mpr ⟨hz, hE⟩, fun q => n q.1⟩)
    · have hE : z ∉ E := fun hE => a2 z hz hE ((hw z).mpr ⟨n, hE⟩)
      exact .inr (.inr (.inl ⟨z, mem_minus.mpr ⟨hz, hE⟩, n, hE⟩))
    · exact .inr (.inr (.inr (.inl ⟨z, mem_minus.mpr ⟨hz, hd z hz⟩, n, hd z hz⟩)))
    · have hE : z ∉ E := fun hE => n ((hw z).mp (a1 z (.inl hz) hE)).1
      exact .inr (.inr (.inr (.inr ⟨z, mem_minus.mpr ⟨hz, hE⟩, fun q => n q.1⟩)))
  · rintro (⟨z, hz, _, n⟩ | ⟨z, hz, n⟩ | ⟨z, hz, n, _⟩ | ⟨z, hz, n, _⟩ | ⟨z, hz, n⟩)
    · exact .inl ⟨z, hz, n⟩
    · obtain ⟨h1, h2⟩ := mem_minus.mp hz
      exact .inl ⟨z, h1, fun q => n ⟨q, h2⟩⟩
    · exact .inr (.inl ⟨z, (mem_minus.mp hz).1, n⟩)
    · exact .inr (.inr (.inl ⟨z, (mem_minus.mp hz).1, n⟩))
    · obtain ⟨h1, h2⟩ := mem_minus.mp hz
      exact .inr (.inr (.inr ⟨z, h1, fun q => n ⟨q, h2⟩⟩))
theorem mem_rest {B : List Rl} {E ws : W} {q : Rl} : q ∈ restP B E ws ↔ ∃ r ∈ B, asksB (AsT E r) ws = true ∧ q = lessR r E := by
  unfold restP
  rw [List.mem_map]
  constructor
  · rintro ⟨r, hr, rfl⟩
    obtain ⟨h1, h2⟩ := List.mem_filter.mp hr
    exact ⟨r, h1, h2, rfl⟩
  · rintro ⟨r, h1, h2, rfl⟩
    exact ⟨r, List.mem_filter.mpr ⟨h1, h2⟩, rfl⟩
/-- the answers of a program whose rules are those of A, within E, and those of B, whose heads lie outside -/
theorem split_an {S A B : List Rl} {E : W} (hS : ∀ r, r ∈ S ↔ r ∈ A ∨ r ∈ B) (hA : ∀ r ∈ A, ∀ z ∈ own r, z ∈ E) (hB : ∀ r ∈ B, ∀ z ∈ r.1, z ∉ E) {T : Str → Prop} {ws : W} (hw : ∀ z, z ∈ ws ↔ T z ∧ z ∈ E) :
    AnP S T ↔ AnP A (fun z => z ∈ ws) ∧ AnP (restP B E ws) fun z => T z ∧ z ∉ E := by
  have wT : ∀ z ∈ E, z ∈ ws ↔ T z := fun z hz => ⟨fun q => ((hw z).mp q).1, fun q => (hw z).mpr ⟨q, hz⟩⟩
  have wE : ∀ z ∈ ws, z ∈ E := fun z hz => ((hw z).mp hz).2
  -- the rules of B at h within T
  have less : ∀ r ∈ B, ∀ h : Str → Prop, asksB (AsT E r) ws = true → (∀ z ∈ ws, h z) → (StP r h T ↔ StP (lessR r E) (fun z => h z ∧ z ∉ E) fun z => T z ∧ z ∉ E) := fun r hr h ha hx => by
    rw [st_as ha (hB r hr) hw]
    refine ⟨fun q => q.elim (fun ⟨z, hz, hE, n⟩ => ?_) id, .inr⟩
    exact absurd (hx z ((asks_iff.mp ha).1 z (.inr hz) hE)) n
  have allB : ∀ h : Str → Prop, (∀ z, h z → T z) → (∀ z ∈ ws, h z) → HdP (restP B E ws) (fun z => h z ∧ z ∉ E) (fun z => T z ∧ z ∉ E) → ∀ r ∈ B, StP r h T := fun h sub hx hh r hr => by
    cases ha : asksB (AsT E r) ws with
    | true => exact (less r hr h ha hx).mpr (hh _ (mem_rest.mpr ⟨r, hr, ha, rfl⟩))
    | false => exact st_no ha sub hw
  have outB : ∀ h : Str → Prop, (∀ z ∈ ws, h z) → (∀ r ∈ B, StP r h T) → HdP (restP B E ws) (fun z => h z ∧ z ∉ E) (fun z => T z ∧ z ∉ E) := fun h hx hh q hq => by
    obtain ⟨r, hr, ha, rfl⟩ := mem_rest.mp hq
    exact (less r hr h ha hx).mp (hh r hr)
  have wsT : ∀ z ∈ ws, T z := fun z hz => ((hw z).mp hz).1
  constructor
  · rintro ⟨h1, h2⟩
    refine ⟨⟨fun r hr => ?_, fun g gs gh z hz => ?_⟩, ⟨outB T wsT fun r hr => h1 r ((hS r).mpr (.inr hr)), fun g gs gh z hz => ?_⟩⟩
    · exact (st_in (hA r hr) (fun z hz => (wT z hz).symm) (fun z hz => (wT z hz).symm)).mp (h1 r ((hS r).mpr (.inl hr)))
    · have sub : ∀ z, g z ∨ (T z ∧ z ∉ E) → T z := fun z q => q.elim (fun q => wsT z (gs z q)) (·.1)
      have := h2 (fun z => g z ∨ (T z ∧ z ∉ E)) sub (fun r hr => ?_) z (wsT z hz)
      · exact this.elim id fun q => absurd (wE z hz) q.2
      rcases (hS r).mp hr with hr | hr
      · exact (st_in (hA r hr) (fun z hz => ⟨fun q => q.elim id fun q => absurd hz q.2, .inl⟩) (fun z hz => (wT z hz).symm)).mpr (gh r hr)
      · cases ha : asksB (AsT E r) ws with
        | false => exact st_no ha sub hw
        | true =>
          have q := (less r hr T ha wsT).mp (h1 r ((hS r).mpr (.inr hr)))
          refine (st_as ha (hB r hr) hw).mpr (.inr ?_)
          have e : (fun z => (g z ∨ (T z ∧ z ∉ E)) ∧ z ∉ E) = fun z => T z ∧ z ∉ E := by
            funext z
            refine propext ⟨fun q => ?_, fun q => ⟨.inr q, q.2⟩⟩
            exact q.1.elim (fun a => absurd (wE z (gs z a)) q.2) id
          rw [e]
          exact q
    · have sub : ∀ z, z ∈ ws ∨ g z → T z := fun z q => q.elim (wsT z) fun q => (gs z q).1
      have e : (fun z => (z ∈ ws ∨ g z) ∧ z ∉ E) = g := by
        funext z
        exact propext ⟨fun q => q.1.elim (fun a => absurd (wE z a) q.2) id, fun q => ⟨.inr q, (gs z q).2⟩⟩
      have := h2 (fun z => z ∈ ws ∨ g z) sub (fun r hr => ?_) z hz.1
      · exact this.elim (fun q => absurd (wE z q) hz.2) id
      rcases (hS r).mp hr with hr | hr
      · refine (st_in (hA r hr) (fun z hz => ?_) (fun z hz => Iff.rfl)).mp (h1 r ((hS r).mpr (.inl hr)))
        exact ⟨fun q => .inl ((wT z hz).mpr q), fun q => q.elim (wsT z) fun q => (gs z q).1⟩
      · exact allB _ sub (fun z q => .inl q) (by rw [e]; exact gh) r hr
  · rintro ⟨⟨a1, a2⟩, b1, b2⟩
    refine ⟨fun r hr => ?_, fun h hs hh z hz => ?_⟩
    · rcases (hS r).mp hr with hr | hr
      · exact (st_in (hA r hr) (fun z hz => (wT z hz).symm) (fun z hz => (wT z hz).symm)).mpr (a1 r hr)
      · exact allB T (fun _ q => q) wsT b1 r hr
    · have x := a2 (fun z => h z ∧ z ∈ E) (fun z q => (hw z).mpr ⟨hs z q.1, q.2⟩) fun r hr => (st_in (hA r hr) (fun z hz => ⟨fun q => ⟨q, hz⟩, (·.1)⟩) (fun z hz => (wT z hz).symm)).mp (hh r ((hS r).mpr (.inl hr)))
      by_cases hE : z ∈ E
      · exact (x z ((hw z).mpr ⟨hz, hE⟩)).1
      · exact (b2 (fun z => h z ∧ z ∉ E) (fun z q => ⟨hs z q.1, q.2⟩) (outB h (fun z q => (x z q).1) fun r hr => hh r ((hS r).mpr (.inr hr))) z ⟨hz, hE⟩).1
/-- an answer's names are heads -/
theorem an_heads {S : List Rl} {t : Str → Prop} (h : AnP S t) : ∀ z, t z → ∃ r ∈ S, z ∈ r.1 := fun z hz => by
  refine (h.2 (fun z => t z ∧ ∃ r ∈ S, z ∈ r.1) (fun z q => q.1) (fun r hr => ?_) z hz).2
  rcases h.1 r hr with ⟨y, hy, n⟩ | q | ⟨y, hy, n⟩ | q
  · exact .inl ⟨y, hy, fun q => n q.1⟩
  · exact .inr (.inl q)
  · exact .inr (.inr (.inl ⟨y, hy, n, r, hr, hy⟩))
  · exact .inr (.inr (.inr q))
theorem an_congr {S L : List Rl} (h : ∀ r, r ∈ S ↔ r ∈ L) (t : Str → Prop) : AnP S t ↔ AnP L t := by
  have e : ∀ a b, HdP S a b ↔ HdP L a b := fun a b => ⟨fun q r hr => q r ((h r).mpr hr), fun q r hr => q r ((h r).mp hr)⟩
  unfold AnP
  rw [e]
  exact and_congr_right fun _ => forall_congr' fun g => forall_congr' fun _ => by rw [e]
end Rw
namespace Rw
open PySem PySem.Spec PyProof.Rows L2
/-! ### the program's tests and the answers told by sets -/
theorem stands_iff {r : Rl} {h t : W} : standsB r h t = true ↔ StP r (fun z => z ∈ h) fun z => z ∈ t := by
  unfold standsB StP
  rw [Bool.or_eq_true, Bool.or_eq_true, Bool.or_eq_true, neL_iff, neL_iff, neL_iff, neL_iff]
  have e1 : (∃ z, z ∈ minus r.2.2.1 h) ↔ ∃ z ∈ r.2.2.1, ¬ z ∈ h := exists_congr fun z => mem_minus
  have e4 : (∃ z, z ∈ minus r.2.1 t) ↔ ∃ z ∈ r.2.1, ¬ z ∈ t := exists_congr fun z => mem_minus
  have mi : ∀ (a b : W) (z : Str), z ∈ innW a b ↔ z ∈ a ∧ z ∈ b := fun a b z => by
    unfold innW
    rw [List.mem_filter, decide_eq_true_iff]
  have e2 : (∃ z, z ∈ innW r.2.2.2 t) ↔ ∃ z ∈ r.2.2.2, z ∈ t := exists_congr fun z => mi _ _ z
  have e3 : (∃ z, z ∈ innW r.1 h) ↔ ∃ z ∈ r.1, z ∈ h := exists_congr fun z => mi _ _ z
  rw [e1, e2, e3, e4, or_assoc]
theorem holds_iff {S : List Rl} {h t : W} : holdsB S h t = true ↔ HdP S (fun z => z ∈ t) (fun z => z ∈ t) ∧ HdP S (fun z => z ∈ h) fun z => z ∈ t := by
  rw [holds_all]
  exact and_congr (forall_congr' fun r => forall_congr' fun _ => stands_iff) (forall_congr' fun r => forall_congr' fun _ => stands_iff)
open Classical in
/-- a set within a world, as a world -/
theorem cut_of (t : W) (h : Str → Prop) (hs : ∀ z, h z → z ∈ t) : ∃ s : W, s.Sublist t ∧ ∀ z, z ∈ s ↔ h z :=
  ⟨t.filter fun z => decide (h z), List.filter_sublist, fun z => by
    rw [List.mem_filter, decide_eq_true_iff]
    exact ⟨fun q => q.2, fun q => ⟨hs z q, q⟩⟩⟩
theorem pred_eq {s : W} {h : Str → Prop} (e : ∀ z, z ∈ s ↔ h z) : (fun z => z ∈ s) = h := funext fun z => propext (e z)
/-- the least of them -/
theorem an_iff {S : List Rl} {t : W} (ht : UpX t) : AnP S (fun z => z ∈ t) ↔ HdP S (fun z => z ∈ t) (fun z => z ∈ t) ∧ ∀ h : W, h.Sublist t → HdP S (fun z => z ∈ h) (fun z => z ∈ t) → h = t := by
  unfold AnP
  refine and_congr_right fun _ => ⟨fun q h hs hh => ?_, fun q h hs hh z hz => ?_⟩
  · exact upX_one (List.Pairwise.sublist hs ht) ht fun z => ⟨fun a => hs.subset a, fun a => q _ (fun z a => hs.subset a) hh z a⟩
  · obtain ⟨s, s1, s2⟩ := cut_of t h hs
    have e := q s s1 (by rw [pred_eq s2]; exact hh)
    subst e
    exact (s2 z).mp hz
theorem sublist_of {own h t : W} (hown : IsW own) (sh : h.Sublist own) (st : t.Sublist own) (s : ∀ z ∈ h, z ∈ t) : h.Sublist t := by
  have e : t.filter (fun z => decide (z ∈ h)) = h := upX_one ((List.Pairwise.sublist st hown.up).sublist List.filter_sublist) (List.Pairwise.sublist sh hown.up) fun z => by
    rw [List.mem_filter, decide_eq_true_iff]
    exact ⟨fun q => q.2, fun q => ⟨s z q, q⟩⟩
  rw [← e]
  exact List.filter_sublist
theorem fd_An {S : List Rl} {own t : W} (hown : IsW own) (hS : ∀ r ∈ S, NIn own r) (ht : t ∈ everyW own) : fdB S own t = true ↔ AnP S fun z => z ∈ t := by
  have st := mem_every.mp ht
  have ut : UpX t := List.Pairwise.sublist st hown.up
  rw [fd_iff hown hS ht, an_iff ut]
  constructor
  · rintro ⟨h1, h2⟩
    have g := (holds_iff.mp h1).1
    exact ⟨g, fun h hs hh => h2 h (mem_every.mpr hs) (holds_iff.mpr ⟨g, hh⟩)⟩
  · rintro ⟨g, h2⟩
    exact ⟨holds_iff.mpr ⟨g, g⟩, fun h hh q => h2 h (mem_every.mp hh) (holds_iff.mp q).2⟩
theorem un_iff {sel : W × W → W} {r : Rl} {p : W × W} : unB sel r p = true ↔ ¬ StP r (fun z => z ∈ sel p) fun z => z ∈ p.2 := by
  unfold unB StP
  rw [Bool.and_eq_true, Bool.and_eq_true, Bool.and_eq_true, List.all_eq_true, List.all_eq_true, List.all_eq_true, List.all_eq_true]
  constructor
  · rintro ⟨⟨⟨h1, h2⟩, h3⟩, h4⟩ q
    rcases q with ⟨z, hz, n⟩ | ⟨z, hz, n⟩ | ⟨z, hz, n⟩ | ⟨z, hz, n⟩
    · exact n (of_decide_eq_true (h1 z hz))
    · have := h4 z hz
      simp [n] at this
    · have := h3 z hz
      simp [n] at this
    · exact n (of_decide_eq_true (h2 z hz))
  · intro n
    refine ⟨⟨⟨fun z hz => decide_eq_true ?_, fun z hz => decide_eq_true ?_⟩, fun z hz => ?_⟩, fun z hz => ?_⟩
    · exact Classical.byContradiction fun q => n (.inl ⟨z, hz, q⟩)
    · exact Classical.byContradiction fun q => n (.inr (.inr (.inr ⟨z, hz, q⟩)))
    · have : z ∉ sel p := fun q => n (.inr (.inr (.inl ⟨z, hz, q⟩)))
      simp [this]
    · have : z ∉ p.2 := fun q => n (.inr (.inl ⟨z, hz, q⟩))
      simp [this]
theorem gn_iff {E : W} {Rs : List Rl} {ws : W} {p : W × W} : gnB E Rs ws p = false ↔ HdP (restP Rs E ws) (fun z => z ∈ p.2) (fun z => z ∈ p.2) ∧ HdP (restP Rs E ws) (fun z => z ∈ p.1) fun z => z ∈ p.2 := by
  unfold gnB
  rw [List.any_eq_false]
  constructor
  · intro g
    have key : ∀ q ∈ restP Rs E ws, tkB q p = false := fun q hq => by
      obtain ⟨r, hr, ha, rfl⟩ := mem_rest.mp hq
      have := g r hr
      rw [ha, Bool.true_and] at this
      exact (Bool.not_eq_true _).mp this
    refine ⟨fun q hq => ?_, fun q hq => ?_⟩
    · have := key q hq
      unfold tkB at this
      have := (Bool.or_eq_false_iff.mp this).1
      exact Classical.byContradiction fun n => by rw [un_iff.mpr n] at this; cases this
    · have := key q hq
      unfold tkB at this
      have := (Bool.or_eq_false_iff.mp this).2
      exact Classical.byContradiction fun n => by rw [un_iff.mpr n] at this; cases this
  · rintro ⟨g1, g2⟩ r hr
    cases ha : asksB (AsT E r) ws with
    | false => simp
    | true =>
      have hq : lessR r E ∈ restP Rs E ws := mem_rest.mpr ⟨r, hr, ha, rfl⟩
      have n1 : unB (·.2) (lessR r E) p = false := (Bool.not_eq_true _).mp fun z => (un_iff.mp z) (g1 _ hq)
      have n2 : unB (·.1) (lessR r E) p = false := (Bool.not_eq_true _).mp fun z => (un_iff.mp z) (g2 _ hq)
      unfold tkB
      rw [n1, n2]
      simp
/-- what the table finds alone are the answers of the rest -/
theorem al_An {E Ly : W} {Rs : List Rl} {ws m : W} (hL : IsW Ly) (hm : m ∈ everyW Ly) : alB (pairsB Ly []) (gnB E Rs ws) m = true ↔ AnP (restP Rs E ws) fun z => z ∈ m := by
  have sm := mem_every.mp hm
  have um : UpX m := List.Pairwise.sublist sm hL.up
  unfold alB
  rw [List.all_eq_true, an_iff um]
  have key : ∀ p ∈ pairsB Ly [], (((decide (p.2 = m) && !gnB E Rs ws p) == decide (p = (m, m))) = true ↔ (p.2 = m → (gnB E Rs ws p = false ↔ p.1 = m))) := fun p _ => by
    rw [beq_iff_eq, Bool.eq_iff_iff, Bool.and_eq_true, decide_eq_true_iff, decide_eq_true_iff, Bool.not_eq_true']
    constructor
    · intro g e
      refine ⟨fun q => congrArg Prod.fst (g.mp ⟨e, q⟩), fun q => (g.mpr (Prod.ext q e)).2⟩
    · intro g
      refine ⟨fun q => Prod.ext ((g q.1).mp q.2) q.1, fun q => ?_⟩
      have e2 : p.2 = m := congrArg Prod.snd q
      exact ⟨e2, (g e2).mpr (congrArg Prod.fst q)⟩
  constructor
  · intro g
    have self : (m, m) ∈ pairsB Ly [] := (mem_pairs0 hL).mpr ⟨hm, hm, fun _ q => q⟩
    have g0 := gn_iff.mp (((key _ self).mp (g _ self) rfl).mpr rfl)
    refine ⟨g0.1, fun h hs hh => ?_⟩
    have hp : (h, m) ∈ pairsB Ly [] := (mem_pairs0 hL).mpr ⟨mem_every.mpr (hs.trans sm), hm, fun _ q => hs.subset q⟩
    exact ((key _ hp).mp (g _ hp) rfl).mp (gn_iff.mpr ⟨g0.1, hh⟩)
  · rintro ⟨g1, g2⟩ p hp
    refine (key p hp).mpr fun e => ?_
    obtain ⟨p1, p2⟩ := p
    have e : p2 = m := e
    subst e
    obtain ⟨h1, _, h3⟩ := (mem_pairs0 hL).mp hp
    have hs : p1.Sublist p2 := sublist_of hL (mem_every.mp h1) sm h3
    refine ⟨fun q => g2 p1 hs (gn_iff.mp q).2, fun q => ?_⟩
    have q : p1 = p2 := q
    subst q
    exact gn_iff.mpr ⟨g1, g1⟩
end Rw
namespace Rw
open PySem PySem.Spec PyProof.Rows L2
/-! ### the unions that are found are the answers -/
structure LayP (S : List Rl) (PT : List W) : Prop where
  nd : PT.flatten.Nodup
  isw : ∀ l ∈ PT, IsW l
  cov : ∀ r ∈ S, ∀ z ∈ own r, z ∈ PT.flatten
  low : ∀ (i : Nat), ∀ r ∈ S, ∀ x ∈ r.1, x ∈ (PT.take i).flatten → ∀ y ∈ own r, y ∈ (PT.take i).flatten
theorem pl_lt {PT : List W} (hA : Apart PT) {z : Str} (hz : z ∈ PT.flatten) (i : Nat) : plI PT z < i ↔ z ∈ (PT.take i).flatten := by
  constructor
  · intro h
    obtain ⟨t, ht, hzt⟩ := List.mem_flatten.mp hz
    obtain ⟨j, hj, e⟩ := List.mem_iff_getElem.mp ht
    have hg : PT[j]? = some t := List.getElem?_eq_some_iff.mpr ⟨hj, e⟩
    have := plI_at hA hg hzt
    refine List.mem_flatten.mpr ⟨t, ?_, hzt⟩
    rw [← e]
    exact List.mem_take_iff_getElem.mpr ⟨j, by omega, rfl⟩
  · intro h
    obtain ⟨t, ht, hzt⟩ := List.mem_flatten.mp h
    obtain ⟨j, hj, e⟩ := List.mem_take_iff_getElem.mp ht
    have hg : PT[j]? = some t := List.getElem?_eq_some_iff.mpr ⟨by omega, e⟩
    have := plI_at hA hg hzt
    omega
theorem last_lt {S : List Rl} {PT : List W} (h : LayP S PT) {r : Rl} (hr : r ∈ S) (i : Nat) : lastI PT r < i + 1 ↔ ∀ z ∈ own r, z ∈ (PT.take (i + 1)).flatten := by
  have hA := apart_of h.nd
  obtain ⟨a, b, c⟩ := foldl_max (plI PT) (own r) 0
  unfold lastI
  constructor
  · intro q z hz
    exact (pl_lt hA (h.cov r hr z hz) (i + 1)).mp (Nat.lt_of_le_of_lt (b z hz) q)
  · intro q
    rcases c with c | ⟨x, hx, c⟩
    · rw [c]; exact Nat.succ_pos i
    · rw [c]
      exact (pl_lt hA (h.cov r hr x hx) (i + 1)).mpr (q x hx)
/-- the rules of the first i layers -/
def lowP (PT : List W) (S : List Rl) (i : Nat) : List Rl := S.filter fun r => decide (lastI PT r < i)
theorem mem_lowP {PT : List W} {S : List Rl} {i : Nat} {r : Rl} : r ∈ lowP PT S i ↔ r ∈ S ∧ lastI PT r < i := by
  unfold lowP
  rw [List.mem_filter, decide_eq_true_iff]
theorem mem_rowG {PT : List W} {S : List Rl} {i : Nat} {r : Rl} : r ∈ rowG PT S i ↔ r ∈ S ∧ lastI PT r = i := by
  unfold rowG
  rw [List.mem_filter, decide_eq_true_iff]
theorem low_names {S : List Rl} {PT : List W} (h : LayP S PT) {i : Nat} : ∀ r ∈ lowP PT S i, ∀ z ∈ own r, z ∈ (PT.take i).flatten := fun r hr z hz => by
  obtain ⟨h1, h2⟩ := mem_lowP.mp hr
  cases i with
  | zero => exact absurd h2 (Nat.not_lt_zero _)
  | succ i => exact (last_lt h h1 i).mp h2 z hz
theorem row_heads {S : List Rl} {PT : List W} (h : LayP S PT) {i : Nat} : ∀ r ∈ rowG PT S i, ∀ z ∈ r.1, z ∉ (PT.take i).flatten := fun r hr z hz hm => by
  obtain ⟨h1, h2⟩ := mem_rowG.mp hr
  cases i with
  | zero => simp at hm
  | succ i =>
    have := (last_lt h h1 i).mpr (h.low (i + 1) r h1 z hz hm)
    omega
theorem row_names {S : List Rl} {PT : List W} (h : LayP S PT) {i : Nat} : ∀ r ∈ rowG PT S i, ∀ z ∈ own r, z ∈ (PT.take (i + 1)).flatten := fun r hr => by
  obtain ⟨h1, h2⟩ := mem_rowG.mp hr
  exact (last_lt h h1 i).mp (by omega)
theorem low_step {PT : List W} {S : List Rl} {i : Nat} : ∀ r, r ∈ lowP PT S (i + 1) ↔ r ∈ lowP PT S i ∨ r ∈ rowG PT S i := fun r => by
  rw [mem_lowP, mem_lowP, mem_rowG]
  constructor
  · rintro ⟨h1, h2⟩
    rcases Nat.lt_or_ge (lastI PT r) i with c | c
    · exact .inl ⟨h1, c⟩
    · exact .inr ⟨h1, by omega⟩
  · rintro (⟨h1, h2⟩ | ⟨h1, h2⟩)
    · exact ⟨h1, by omega⟩
    · exact ⟨h1, by omega⟩
/-- what stands when i layers are done -/
structure FI (S : List Rl) (PT : List W) (i : Nat) : Prop where
  snd : ∀ x ∈ foundN S PT i, x.Nodup ∧ (∀ z ∈ x, z ∈ (PT.take i).flatten) ∧ AnP (lowP PT S i) fun z => z ∈ x
  all : ∀ T : Str → Prop, AnP (lowP PT S i) T → ∃ x ∈ foundN S PT i, ∀ z, z ∈ x ↔ T z
  one : (foundN S PT i).Pairwise fun x y => ¬ ∀ z, z ∈ x ↔ z ∈ y
theorem fi_step {S : List Rl} {PT : List W} (h : LayP S PT) {i : Nat} (hi : i < PT.length) (f : FI S PT i) : FI S PT (i + 1) := by
  have hg : PT[i]? = some PT[i] := List.getElem?_eq_getElem hi
  have hd : PT.getD i [] = PT[i] := by rw [List.getD_eq_getElem?_getD, hg]; rfl
  have ft : (PT.take (i + 1)).flatten = (PT.take i).flatten ++ PT[i] := by rw [take_snoc hg, List.flatten_append, List.flatten_singleton]
  have hW := h.isw PT[i] (List.getElem_mem hi)
  have hE : ∀ z ∈ PT[i], z ∉ (PT.take i).flatten := fun z hz hm => by
    have hA := apart_of h.nd
    have hf : z ∈ PT.flatten := List.mem_flatten.mpr ⟨_, List.getElem_mem hi, hz⟩
    have := (pl_lt hA hf i).mpr hm
    rw [plI_at hA hg hz] at this
    omega
  have key : ∀ (T : Str → Prop) (ws : W), (∀ z, z ∈ ws ↔ T z ∧ z ∈ (PT.take i).flatten) → (AnP (lowP PT S (i + 1)) T ↔ AnP (lowP PT S i) (fun z => z ∈ ws) ∧ AnP (restP (rowG PT S i) ((PT.take i).flatten) ws) fun z => T z ∧ z ∉ (PT.take i).flatten) := fun T ws hw => split_an low_step (low_names h) (row_heads h) hw
  have mem : ∀ x y : W, y ∈ wlOne ((PT.take i).flatten) PT[i] (rowG PT S i) x ↔ ∃ m, m.Sublist PT[i] ∧ AnP (restP (rowG PT S i) ((PT.take i).flatten) x) (fun z => z ∈ m) ∧ y = x ++ m := fun x y => by
    unfold wlOne
    rw [List.mem_map]
    constructor
    · rintro ⟨m, hm, rfl⟩
      obtain ⟨h1, h2⟩ := List.mem_filter.mp hm
      have h1 := (mem_dg0 hW).mp h1
      exact ⟨m, mem_every.mp h1, (al_An hW h1).mp h2, rfl⟩
    · rintro ⟨m, h1, h2, rfl⟩
      have h1 := mem_every.mpr h1
      exact ⟨m, List.mem_filter.mpr ⟨(mem_dg0 hW).mpr h1, (al_An hW h1).mpr h2⟩, rfl⟩
  have ef : foundN S PT (i + 1) = (foundN S PT i).flatMap (wlOne ((PT.take i).flatten) PT[i] (rowG PT S i)) := by
    show wlF _ _ _ _ = _
    rw [hd]
    rfl
  have mE : ∀ m : W, m.Sublist PT[i] → ∀ z ∈ m, z ∉ (PT.take i).flatten := fun m hm z hz => hE z (hm.subset hz)
  refine ⟨fun y hy => ?_, fun T hT => ?_, ?_⟩
  · rw [ef] at hy
    obtain ⟨x, hx, hy⟩ := List.mem_flatMap.mp hy
    obtain ⟨m, hm, ha, rfl⟩ := (mem x y).mp hy
    obtain ⟨x1, x2, x3⟩ := f.snd x hx
    refine ⟨List.nodup_append.mpr ⟨x1, (upX_nodup hW.up).sublist hm, fun a ha b hb e => mE m hm b hb (e ▸ x2 a ha)⟩, fun z hz => ?_, ?_⟩
    · rw [ft]
      exact (List.mem_append.mp hz).elim (fun q => List.mem_append_left _ (x2 z q)) fun q => List.mem_append_right _ (hm.subset q)
    · refine (key (fun z => z ∈ x ++ m) x fun z => ?_).mpr ⟨x3, ?_⟩
      · rw [List.mem_append]
        exact ⟨fun q => ⟨.inl q, x2 z q⟩, fun q => q.1.elim id fun a => absurd q.2 (mE m hm z a)⟩
      · have e : (fun z => z ∈ x ++ m ∧ z ∉ (PT.take i).flatten) = fun z => z ∈ m := by
          funext z
          rw [List.mem_append]
          exact propext ⟨fun q => q.1.elim (fun a => absurd (x2 z a) q.2) id, fun q => ⟨.inr q, mE m hm z q⟩⟩
        rw [e]
        exact ha
  · obtain ⟨ws, w1, w2⟩ := cut_of ((PT.take i).flatten) (fun z => T z ∧ z ∈ (PT.take i).flatten) fun z q => q.2
    obtain ⟨a1, _⟩ := (key T ws w2).mp hT
    obtain ⟨x, hx, xw⟩ := f.all _ a1
    have w3 : ∀ z, z ∈ x ↔ T z ∧ z ∈ (PT.take i).flatten := fun z => (xw z).trans (w2 z)
    obtain ⟨_, a3⟩ := (key T x w3).mp hT
    have sub : ∀ z, T z ∧ z ∉ (PT.take i).flatten → z ∈ PT[i] := fun z hz => by
      obtain ⟨q, hq, hz1⟩ := an_heads a3 z hz
      obtain ⟨r, hr, _, rfl⟩ := mem_rest.mp hq
      have := row_names h r hr z (mem_own.mpr (.inl (mem_minus.mp hz1).1))
      rw [ft] at this
      exact (List.mem_append.mp this).elim (fun q => absurd q hz.2) id
    obtain ⟨m, m1, m2⟩ := cut_of PT[i] _ sub
    refine ⟨x ++ m, ?_, fun z => ?_⟩
    · rw [ef]
      exact List.mem_flatMap.mpr ⟨x, hx, (mem x _).mpr ⟨m, m1, by rw [pred_eq m2]; exact a3, rfl⟩⟩
    · rw [List.mem_append, w3 z, m2 z]
      exact ⟨fun q => q.elim (·.1) (·.1), fun q => (Classical.em (z ∈ (PT.take i).flatten)).elim (fun c => .inl ⟨q, c⟩) fun c => .inr ⟨q, c⟩⟩
  · rw [ef, List.pairwise_flatMap]
    refine ⟨fun x hx => ?_, f.one.imp_of_mem fun {x y} hx hy ne a ha b hb e => ne fun z => ?_⟩
    · unfold wlOne
      refine List.pairwise_map.mpr (((dg_nodup (pairs_nodup hW)).sublist List.filter_sublist).imp_of_mem fun {m n} hm hn ne e => ne ?_)
      have sm := mem_every.mp ((mem_dg0 hW).mp (List.mem_filter.mp hm).1)
      have sn := mem_every.mp ((mem_dg0 hW).mp (List.mem_filter.mp hn).1)
      obtain ⟨_, x2, _⟩ := f.snd x hx
      refine upX_one (List.Pairwise.sublist sm hW.up) (List.Pairwise.sublist sn hW.up) fun z => ?_
      have q := e z
      rw [List.mem_append, List.mem_append] at q
      exact ⟨fun a => (q.mp (.inr a)).elim (fun b => absurd (x2 z b) (mE m sm z a)) id, fun a => (q.mpr (.inr a)).elim (fun b => absurd (x2 z b) (mE n sn z a)) id⟩
    · obtain ⟨m, hm, _, rfl⟩ := (mem x a).mp ha
      obtain ⟨n, hn, _, rfl⟩ := (mem y b).mp hb
      obtain ⟨_, x2, _⟩ := f.snd x hx
      obtain ⟨_, y2, _⟩ := f.snd y hy
      have q := e z
      rw [List.mem_append, List.mem_append] at q
      exact ⟨fun a => (q.mp (.inl a)).elim id fun b => absurd (x2 z a) (mE n hn z b), fun a => (q.mpr (.inl a)).elim id fun b => absurd (y2 z a) (mE m hm z b)⟩
theorem fi_all {S : List Rl} {PT : List W} (h : LayP S PT) : ∀ i, i ≤ PT.length → FI S PT i
  | 0, _ => by
    have e : lowP PT S 0 = [] := List.filter_eq_nil_iff.mpr fun r _ => by simp
    refine ⟨fun x hx => ?_, fun T hT => ⟨[], List.mem_singleton_self _, fun z => ⟨(fun q => nomatch q), fun q => ?_⟩⟩, List.pairwise_singleton _ _⟩
    · rw [List.mem_singleton.mp hx, e]
      exact ⟨List.nodup_nil, (fun _ q => nomatch q), (fun _ q => nomatch q), fun h _ _ z q => nomatch q⟩
    · rw [e] at hT
      obtain ⟨r, hr, _⟩ := an_heads hT z q
      exact nomatch hr
  | i + 1, hi => fi_step h (by omega) (fi_all h i (by omega))
end Rw
namespace Rw
open PySem PySem.Spec PyProof.Rows L2
/-! ### what all_answers yields is what answers tells -/
theorem lay_P {S : List Rl} {ns : W} {R : List W} (hw : IsW ns) (hm : ∀ z, z ∈ ns ↔ z ∈ namesL S) (h : LayO S ns R) : LayP S ([] :: R) := by
  have inO : ∀ r ∈ S, ∀ z ∈ own r, z ∈ ns := fun r hr z hz => (hm z).mpr (List.mem_flatMap.mpr ⟨r, hr, hz⟩)
  have lead : ∀ x y, Lead S x y → y ∈ ns := fun x y q => by
    induction q with
    | one q => obtain ⟨r, hr, _, hy⟩ := q; exact inO r hr _ hy
    | cons _ _ ih => exact ih
  refine ⟨h.nd, fun l hl => ?_, fun r hr z hz => (h.cover z).mpr (inO r hr z hz), fun i r hr x hx hxi y hy => ?_⟩
  · rcases List.mem_cons.mp hl with rfl | hl
    · exact ⟨(fun _ z => nomatch z), List.Pairwise.nil, Nat.zero_le _⟩
    · exact h.isW hw l hl
  · cases i with
    | zero => simp at hxi
    | succ j =>
      have e : (([] :: R).take (j + 1)).flatten = (R.take j).flatten := rfl
      rw [e] at hxi ⊢
      have xo := inO r hr x (mem_own.mpr (.inl hx))
      exact (lay_begin h (fun a _ b q => lead a b q) (fun a ha na => absurd ha na) j x xo (.inr hxi) y (.one ⟨r, hr, hx, hy⟩)).elim (fun q => absurd (inO r hr y hy) q) id
theorem paired_pw {α β : Type} {F : α → β → Prop} {R : α → α → Prop} {R' : β → β → Prop} (h : ∀ x y x' y', F x x' → F y y' → R x y → R' x' y') : ∀ {l : List α} {m : List β}, Paired F l m → l.Pairwise R → m.Pairwise R'
  | _, _, .nil, _ => List.Pairwise.nil
  | _, _, .cons r t, p => by
    obtain ⟨p1, p2⟩ := List.pairwise_cons.mp p
    refine List.pairwise_cons.mpr ⟨fun y hy => ?_, paired_pw h t p2⟩
    obtain ⟨x, hx, q⟩ := paired_mem t y hy
    exact h _ _ _ _ r q (p1 x hx)
theorem paired_left {α β : Type} {F : α → β → Prop} : ∀ {l : List α} {m : List β}, Paired F l m → ∀ x ∈ l, ∃ y ∈ m, F x y
  | _, _, .nil, x, h => nomatch h
  | _, _, .cons r t, x, h => by
    rcases List.mem_cons.mp h with rfl | h
    · exact ⟨_, List.mem_cons_self, r⟩
    · obtain ⟨y, hy, q⟩ := paired_left t x h
      exact ⟨y, List.mem_cons_of_mem _ hy, q⟩
theorem all_ans {S : List Rl} {ns : W} {R ts us : List W} (hw : IsW ns) (hm : ∀ z, z ∈ ns ↔ z ∈ namesL S) (h : LayO S ns R) (hp : Paired SortOf (foundN S ([] :: R) (R.length + 1)) ts) (pm : us.Perm ts) (ris : Rising (us.map wd)) : us = (everyW ns).filter (fdB S ns) := by
  have lp := lay_P hw hm h
  have f := fi_all lp (R.length + 1) (Nat.le_refl _)
  have nin : ∀ r ∈ S, NIn ns r := fun r hr t ht z hz => (hm z).mpr (List.mem_flatMap.mpr ⟨r, hr, own_mem.mpr ⟨t, ht, hz⟩⟩)
  have eS : ∀ r, r ∈ lowP ([] :: R) S (R.length + 1) ↔ r ∈ S := fun r => by
    rw [mem_lowP]
    refine ⟨fun q => q.1, fun q => ⟨q, (last_lt lp q R.length).mpr fun z hz => ?_⟩⟩
    rw [show R.length + 1 = (([] : W) :: R).length from rfl, List.take_length]
    exact lp.cov r q z hz
  have ft : ((([] : W) :: R).take (R.length + 1)).flatten = R.flatten := by
    rw [show R.length + 1 = (([] : W) :: R).length from rfl, List.take_length]
    rfl
  have upx : ∀ x ∈ foundN S ([] :: R) (R.length + 1), ∀ y, SortOf x y → UpX y ∧ ∀ z, z ∈ y ↔ z ∈ x := fun x hx y q => by
    obtain ⟨x1, _, _⟩ := f.snd x hx
    exact ⟨upX_of q.2 (q.1.nodup_iff.mpr x1), fun z => q.1.mem_iff⟩
  have nts : ts.Nodup := by
    have pw := paired_pw (R' := fun (a b : W) => a ≠ b) (fun x y x' y' q1 q2 ne e => ne fun z => by
      rw [← q1.1.mem_iff, ← q2.1.mem_iff, e]) hp f.one
    exact pw
  have nd := every_nodup (upX_nodup hw.up)
  refine worlds_one ris (List.pairwise_map.mpr ((List.pairwise_map.mp (every_rising hw.up)).sublist List.filter_sublist)) (pm.nodup_iff.mpr nts) (nd.sublist List.filter_sublist) fun y => ?_
  rw [pm.mem_iff, List.mem_filter]
  constructor
  · intro hy
    obtain ⟨x, hx, q⟩ := paired_mem hp y hy
    obtain ⟨_, x2, x3⟩ := f.snd x hx
    obtain ⟨uy, my⟩ := upx x hx y q
    have sub : ∀ z ∈ y, z ∈ ns := fun z hz => by
      have := x2 z ((my z).mp hz)
      rw [ft] at this
      exact (h.cover z).mp this
    have sl : y.Sublist ns := by
      have e : ns.filter (fun z => decide (z ∈ y)) = y := upX_one (hw.up.sublist List.filter_sublist) uy fun z => by
        rw [List.mem_filter, decide_eq_true_iff]
        exact ⟨fun q => q.2, fun q => ⟨sub z q, q⟩⟩
      rw [← e]
      exact List.filter_sublist
    have hye := mem_every.mpr sl
    refine ⟨hye, (fd_An hw nin hye).mpr ((an_congr eS _).mp ?_)⟩
    have e : (fun z => z ∈ y) = fun z => z ∈ x := funext fun z => propext (my z)
    rw [e]
    exact x3
  · rintro ⟨hy, hf⟩
    obtain ⟨x, hx, mx⟩ := f.all _ ((an_congr eS _).mpr ((fd_An hw nin hy).mp hf))
    obtain ⟨y', hy', q⟩ := paired_left hp x hx
    obtain ⟨uy, my⟩ := upx x hx y' q
    have : y' = y := upX_one uy (List.Pairwise.sublist (mem_every.mp hy) hw.up) fun z => (my z).trans (mx z)
    rw [← this]
    exact hy'
section
variable {P : Program} {w : World} {K : PySem.W.Frag} {mg : Str → Option Value} {base : Heap} {f : Addr} {fd : FuncData} {k : Nat}
/-- the answers, layer by layer -/
def spAllAnsT (K : PySem.W.Frag) (C : Addr) : SpG := fun vs H Q _ => ∃ (v : V) (S : List Rl) (bd : W), vs = [v] ∧ PgAt K C H v S ∧ (∀ r ∈ S, IsR r) ∧ S.length < 76 ∧ (∀ z ∈ namesL S, z ∈ bd) ∧ bd.length ≤ 7 ∧
  ∀ H' xs ns, Same H H' → IsW ns → (∀ z, z ∈ ns ↔ z ∈ namesL S) → DpAll K H' xs (((everyW ns).filter (fdB S ns)).map wd) → Q xs H'
theorem allAns_told {C : Addr} {vs : List V} {H : Hp} {Q : List V → Hp → Prop} {E : XK} (h : spAllAnsT K C vs H Q E) : spAllAns K C vs H Q E := by
  obtain ⟨v, S, bd, e, hS, hI, few, hbd, lbd, q⟩ := h
  refine ⟨v, S, bd, e, hS, hI, few, hbd, lbd, fun H' xs ns R ts us s hw hm hl hp pm ris hx => q H' xs ns s hw hm ?_⟩
  rw [← all_ans hw hm hl hp pm ris]
  exact hx
end
end Rw
namespace Rw
open PySem PySem.Spec PyProof.Rows L2
/-! ### the law's own defs: numbers -/
theorem scLawAt : FnScope ["script", "k"] ["script", "k"] (defScope sLawAt) := ⟨rfl, rfl, rfl, by decide +kernel, rfl, by decide +kernel, by decide +kernel⟩
theorem scLawMixed : FnScope ["cell", "k", "number"] ["cell", "k"] (defScope sLawMixed) := ⟨rfl, rfl, rfl, by decide +kernel, rfl, by decide +kernel, by decide +kernel⟩
theorem scLawPurse : FnScope ["script", "at", "cell"] ["script", "at"] (defScope sLawPurse) := ⟨rfl, rfl, rfl, by decide +kernel, rfl, by decide +kernel, by decide +kernel⟩
theorem scLawDraw : FnScope ["purse", "out_of", "drawn", "number", "k"] ["purse", "out_of"] (defScope sLawDraw) := ⟨rfl, rfl, rfl, by decide +kernel, rfl, by decide +kernel, by decide +kernel⟩
theorem bits_small {n : Int} (h0 : 1 ≤ n) (h1 : n ≤ 1000) : (Builtin.Int.intBits n : Nat) < 30 := by
  have h : Builtin.Int.intBits n ≤ 29 := PySem.intBits_le_iff.mpr (by omega)
  omega
section
variable {P : Program} {w : World} {K : PySem.W.Frag} {mg : Str → Option Value} {base : Heap} {f : Addr} {fd : FuncData} {k : Nat}
def spLawAt (K : PySem.W.Frag) : Sp := fun vs H Q _ => ∃ (a : Addr) (ns : List Int) (j : Nat), vs = [.ref a, .int j] ∧ SqL K H a (ns.map V.int) ∧ ns.length ≤ 63 ∧ ∀ r, Q (.int r) H
theorem ok_lawAt (F : Fun K "_law_at" "_law_at" sLawAt f fd) (T : Bl mg) : FnOk P w K mg base CX0 (k + 1) f fd ["script", "k"] (spLawAt K) := by
  refine F.ok scLawAt (fun vs H Q E h => ?_) (fun cdv A outer s H vs Q E hr h => ?_)
  · obtain ⟨a, ns, j, rfl, _⟩ := h
    rfl
  obtain ⟨a, ns, j, rfl, hS, hl, q⟩ := h
  refine ⟨_, pss_cons (ps_if (pt_cmpR op_lt (pv 1) (pe_callB call_len_seq (by rfl) T.len PySem.boot_len (pa_cons (pv 0) pa_nil)) (nomark _)) (pss_one (ps_ret (pe_ix ix_list (pv 0) (pv 1) (fun _ _ => rfl)))) pss_nil) (pss_one (ps_ret pe_int)), ?_⟩
  refine ⟨.int j, rfl, .ref a, rfl, a, _, rfl, .inl hS, j, _, rfl, rfl, _, rfl, ite2 (fun e => ?_) (fun _ => ?_)⟩
  · have hlt : j < (ns.map V.int).length := by
      have := of_decide_eq_true e
      omega
    have hlt' : j < ns.length := by rwa [List.length_map] at hlt
    refine ⟨.ref a, rfl, .int j, rfl, a, _, j, .int ns[j], rfl, rfl, hS, atI_nat (j := j) ?_, q _⟩
    rw [List.getElem?_map, List.getElem?_eq_getElem hlt']
    rfl
  · exact q _
def spLawMixed : Sp := fun vs H Q _ => ∃ c k : Int, vs = [.int c, .int k] ∧ 0 ≤ c ∧ c < 2147483647 ∧ 0 ≤ k ∧ k ≤ 2000000 ∧ ∀ r, 0 ≤ r → Q (.int r) H
theorem ok_lawMixed (F : Fun K "_law_mixed" "_law_mixed" sLawMixed f fd) (T : Bl mg) : FnOk P w K mg base CX0 (k + 1) f fd ["cell", "k"] spLawMixed := by
  refine F.ok scLawMixed (fun vs H Q E h => ?_) (fun cdv A outer s H vs Q E hr h => ?_)
  · obtain ⟨c, k, rfl, _⟩ := h
    rfl
  obtain ⟨c, k, rfl, c0, c1, k0, k1, q⟩ := h
  refine ⟨_, pss_cons (ps_set (i := 2) scLawMixed.nd rfl (.inl rfl) (pe_op op_mod (pe_callTy call_int1 (by rfl) T.int (by decide +kernel) (pa_cons (pe_op op_add (pe_op op_add (pe_op op_add (pe_op op_mul (pv 0) pe_int) (pe_op op_mul (pe_op op_mul pe_int (pv 1)) (pv 1))) (pv 1)) pe_int) pa_nil)) pe_int))
    (pss_cons (ps_set (i := 2) scLawMixed.nd rfl (.inl rfl) (pe_op op_mod (pe_callTy call_int1 (by rfl) T.int (by decide +kernel) (pa_cons (pe_op op_add (pe_op op_mul (pv 2) (pv 2)) pe_int) pa_nil)) pe_int))
    (pss_one (ps_ret (pe_op op_mod (pe_callTy call_int1 (by rfl) T.int (by decide +kernel) (pa_cons (pe_op op_mul (pv 2) pe_int) pa_nil)) pe_int)))), ?_⟩
  refine ⟨.int c, rfl, c, _, rfl, rfl, .inl ⟨by omega, by omega⟩, .int k, rfl, _, k, rfl, rfl, .inl ⟨by decide, by decide⟩, .int k, rfl, _, k, rfl, rfl, .inl ⟨by omega, by omega⟩, ?_⟩
  refine ⟨_, _, rfl, rfl, .int k, rfl, _, k, rfl, rfl, _, _, rfl, rfl, .inl ⟨_, rfl, _, _, rfl, rfl, by show (0 : Int) < 2147483647; decide, ?_⟩⟩
  refine ⟨_, rfl, _, rfl, _, _, rfl, rfl, .inl (b64 (Int.emod_nonneg _ (by decide)) (Int.emod_lt_of_pos _ (by decide))), _, _, rfl, rfl, .inl ⟨_, rfl, _, _, rfl, rfl, by show (0 : Int) < 2147483629; decide, ?_⟩⟩
  refine ⟨_, rfl, _, _, rfl, rfl, .inl (b64 (Int.emod_nonneg _ (by decide)) (Int.lt_trans (Int.emod_lt_of_pos _ (by decide)) (by decide))), .inl ⟨_, rfl, _, _, rfl, rfl, by show (0 : Int) < 2147483587; decide, q _ (Int.emod_nonneg _ (by decide))⟩⟩
def spLawPurse (K : PySem.W.Frag) : Sp := fun vs H Q _ => ∃ (a : Addr) (ns : List Int) (j : Nat), vs = [.ref a, .int j] ∧ SqL K H a (ns.map V.int) ∧ ns.length ≤ 63 ∧ j ≤ 100 ∧ ∀ H' p, Same H H' → H p = none → Pur H' p 100000 → Q (.ref p) H'
theorem ok_lawPurse {f1 : Addr} {fd1 : FuncData} (F : Fun K "_law_purse" "_law_purse" sLawPurse f fd) (T : Bl mg) (G1 : FnOk P w K mg base CX0 k f1 fd1 ["script", "k"] (spLawAt K)) (b1 : Binds K fd1 ["script", "k"] []) (k1 : PySem.W.keepIn K (.ref f1) = true) (m1 : mg "_law_at" = some (.ref f1)) :
    FnOk P w K mg base CX0 (k + 1) f fd ["script", "at"] (spLawPurse K) := by
  refine F.ok scLawPurse (fun vs H Q E h => ?_) (fun cdv A outer s H vs Q E hr h => ?_)
  · obtain ⟨a, ns, j, rfl, _⟩ := h
    rfl
  obtain ⟨a, ns, j, rfl, hS, hl, hj, q⟩ := h
  refine ⟨_, pss_cons (ps_set (i := 2) scLawPurse.nd rfl (.inl rfl) (pe_call G1 hr (by rfl) m1 k1 b1 .nil pass0 (pa_cons (pv 0) (pa_cons (pv 1) pa_nil))))
    (pss_one (ps_ret (pe_lst (pa_cons (pe_op op_mod (pe_callTy call_int1 (by rfl) T.int (by decide +kernel) (pa_cons (pe_callB (call_max2 rfl) (by rfl) T.max (by decide +kernel) (pa_cons (pe_op op_sub (pv 2) (pe_op op_pow pe_int pe_int)) (pa_cons pe_int pa_nil))) pa_nil)) (pe_op op_powB (pe_op op_pow pe_int pe_int) pe_int))
      (pa_cons (pe_op op_mod (pe_callTy call_int1 (by rfl) T.int (by decide +kernel) (pa_cons (pv 2) pa_nil)) pe_int) (pa_cons (pe_op op_mul pe_int (pv 1)) pa_nil)))))), ?_⟩
  refine ⟨.ref a, rfl, .int j, rfl, a, ns, j, rfl, hS, hl, fun c => ?_⟩
  refine ⟨.int c, rfl, _, _, rfl, rfl, ⟨by decide, by decide, by decide⟩, _, _, rfl, rfl, _, _, rfl, .inl ⟨_, rfl, _, _, rfl, rfl, ⟨by decide, by decide, by decide⟩, _, _, rfl, rfl, ⟨by decide, by decide +kernel⟩, _, _, rfl, rfl, by show (0 : Int) < (10 ^ Int.toNat 60) ^ Int.toNat 10; decide +kernel, ?_⟩⟩
  refine ⟨.int c, rfl, .inl ⟨_, rfl, _, _, rfl, rfl, by show (0 : Int) < 2147483647; decide, .int j, rfl, _, _, rfl, rfl, .inl ⟨by decide, by decide⟩, by show 3 ≤ sizeLine; decide, fun p hp => ?_⟩⟩
  refine q _ p (same_new hp _) hp ⟨_, _, _, upd_same, Int.emod_nonneg _ (by decide +kernel), Int.emod_nonneg _ (by decide), Int.emod_lt_of_pos _ (by decide), ?_, ?_⟩
  · show (0 : Int) ≤ 1000 * (j : Int)
    omega
  · show 1000 * (j : Int) ≤ 100000
    omega
def spLawDraw : Sp := fun vs H Q _ => ∃ (p : Addr) (n c : Int), vs = [.ref p, .int n] ∧ Pur H p c ∧ c ≤ 1000000 ∧ 1 ≤ n ∧ n ≤ 1000 ∧ ∀ r us, 0 ≤ r → r < n → Pur (upd H p (.lst us)) p (c + 1) → Q (.int r) (upd H p (.lst us))
theorem ok_lawDraw {f1 : Addr} {fd1 : FuncData} (F : Fun K "_law_draw" "_law_draw" sLawDraw f fd) (T : Bl mg) (G1 : FnOk P w K mg base CX0 k f1 fd1 ["cell", "k"] spLawMixed) (b1 : Binds K fd1 ["cell", "k"] []) (k1 : PySem.W.keepIn K (.ref f1) = true) (m1 : mg "_law_mixed" = some (.ref f1)) :
    FnOk P w K mg base CX0 (k + 1) f fd ["purse", "out_of"] spLawDraw := by
  refine F.ok scLawDraw (fun vs H Q E h => ?_) (fun cdv A outer s H vs Q E hr h => ?_)
  · obtain ⟨p, n, c, rfl, _⟩ := h
    rfl
  obtain ⟨p, n, c, rfl, ⟨a, b, e, hp, a0, b0, b1', e0, e1⟩, c1, n0, n1, q⟩ := h
  refine ⟨_, pss_cons (ps_if (pt_cmpR op_gt (pe_ix ix_list (pv 0) pe_int (fun _ _ => rfl)) pe_int (nomark _))
      (pss_cons (ps_set (i := 2) scLawDraw.nd rfl (.inl rfl) (pe_op op_mod (pe_callTy call_int1 (by rfl) T.int (by decide +kernel) (pa_cons (pe_ix ix_list (pv 0) pe_int (fun _ _ => rfl)) pa_nil)) (pv 1)))
      (pss_cons (ps_asg (pe_op op_fdiv (pe_ix ix_list (pv 0) pe_int (fun _ _ => rfl)) (pv 1)) (pg_sub (pv 0) pe_int set_list)) (pss_one (ps_ret (pv 2))))) pss_nil)
    (pss_cons (ps_set (i := 3) scLawDraw.nd rfl (.inl rfl) pe_int)
    (pss_cons (ps_for PassesOwn.never rfl (pi_range1 rfl T.range (pa_cons (pe_op op_add pe_int (pe_op op_fdiv (pe_bits (pv 1)) pe_int)) pa_nil)) (pg_name (i := 4) scLawDraw.nd rfl (.inl rfl))
      (pss_cons (ps_asg (pe_op op_add (pe_ix ix_list (pv 0) pe_int (fun _ _ => rfl)) pe_int) (pg_sub (pv 0) pe_int set_list))
      (pss_one (ps_set (i := 3) scLawDraw.nd rfl (.inl rfl) (pe_op op_add (pe_op op_mul (pv 3) pe_int) (pe_call G1 hr (by rfl) m1 k1 b1 .nil pass0 (pa_cons (pe_ix ix_list (pv 0) pe_int (fun _ _ => rfl)) (pa_cons (pe_ix ix_list (pv 0) pe_int (fun _ _ => rfl)) pa_nil))))))))
    (pss_one (ps_ret (pe_op op_mod (pe_callTy call_int1 (by rfl) T.int (by decide +kernel) (pa_cons (pv 3) pa_nil)) (pv 1)))))), ?_⟩
  have hS : SqL K H p [.int a, .int b, .int e] := SqL.of hp
  refine ⟨.ref p, rfl, p, _, 0, .int a, rfl, rfl, hS, atI_nat (j := 0) rfl, _, _, rfl, rfl, _, rfl, ite2 (fun g => ?_) (fun _ => ?_)⟩
  · refine ⟨.ref p, rfl, p, _, 0, .int a, rfl, rfl, hS, atI_nat (j := 0) rfl, .inl ⟨_, rfl, .int n, rfl, _, _, rfl, rfl, by show 0 < n; omega, ?_⟩⟩
    refine ⟨.ref p, rfl, p, _, 0, .int a, rfl, rfl, hS, atI_nat (j := 0) rfl, .int n, rfl, _, _, rfl, rfl, ⟨by omega, by omega⟩, .ref p, rfl, p, _, 0, 0, rfl, rfl, hp, rfl, ?_⟩
    refine ⟨.int (a % n), rfl, q _ _ (Int.emod_nonneg _ (by omega)) (Int.emod_lt_of_pos _ (by omega)) ⟨a / n, b, e, upd_same, Int.ediv_nonneg a0 (by omega), b0, b1', e0, by omega⟩⟩
  · have bs := bits_small n0 n1
    have one : (1 : Int) + ((Builtin.Int.intBits n : Nat) : Int) / 30 = 1 := by omega
    refine ⟨.int n, rfl, n, rfl, _, _, rfl, rfl, ⟨by decide, by decide⟩, _, _, rfl, rfl, ?_⟩
    refine ⟨1, congrArg (fun z => [V.int z]) one, by decide, by decide, for_range (n := 1) (fun i σ H1 => (i = 0 ∧ σ = [some (.ref p), some (.int n), none, some (.int 0), none] ∧ H1 = H) ∨ (i = 1 ∧ ∃ r, 0 ≤ r ∧ σ = [some (.ref p), some (.int n), none, some (.int r), some (.int 0)] ∧ H1 = upd H p (.lst [.int a, .int b, .int (e + 1)]))) (.inl ⟨rfl, rfl, rfl⟩) (fun i σ H1 il hI => ?_) (fun σ H1 hI => ?_)⟩
    · rcases hI with ⟨rfl, rfl, rfl⟩ | ⟨rfl, _⟩
      · refine ⟨.ref p, rfl, p, _, 2, .int e, rfl, rfl, hS, atI_nat (j := 2) rfl, _, _, rfl, rfl, .ref p, rfl, p, _, 2, 2, rfl, rfl, hp, rfl, ?_⟩
        have hS2 : SqL K (upd H1 p (.lst [.int a, .int b, .int (e + 1)])) p [.int a, .int b, .int (e + 1)] := SqL.of upd_same
        refine ⟨.int 0, rfl, _, _, rfl, rfl, .inl ⟨by decide, by decide⟩, .ref p, rfl, p, _, 1, .int b, rfl, rfl, hS2, atI_nat (j := 1) rfl, .ref p, rfl, p, _, 2, .int (e + 1), rfl, rfl, hS2, atI_nat (j := 2) rfl, b, e + 1, rfl, b0, b1', by omega, by omega, fun r r0 => ?_⟩
        exact ⟨_, _, rfl, rfl, .inr ⟨rfl, 0 * 2147483587 + r, by omega, rfl, rfl⟩⟩
      · omega
    · rcases hI with ⟨z, _⟩ | ⟨_, r, r0, rfl, rfl⟩
      · omega
      · refine ⟨.int r, rfl, .inl ⟨r, rfl, .int n, rfl, _, _, rfl, rfl, by show 0 < n; omega, ?_⟩⟩
        exact q _ _ (Int.emod_nonneg _ (by omega)) (Int.emod_lt_of_pos _ (by omega)) ⟨a, b, e + 1, upd_same, a0, b0, b1', by omega, by omega⟩
end
end Rw
namespace Rw
open PySem PySem.Spec PyProof.Rows L2
/-! ### _law_some -/
def rLenK (K : PySem.W.Frag) : List V → Hp → VK → Prop := fun xs H Q => ∃ p ys, xs = [V.ref p] ∧ (SqL K H p ys ∨ SqT K H p ys) ∧ Q (.int ys.length) H
theorem scLawSome : FnScope ["purse", "names", "most", "found", "name"] ["purse", "names", "most"] (defScope sLawSome) := ⟨rfl, rfl, rfl, by decide +kernel, rfl, by decide +kernel, by decide +kernel⟩
section
variable {P : Program} {w : World} {K : PySem.W.Frag} {mg : Str → Option Value} {base : Heap} {f : Addr} {fd : FuncData} {k : Nat}
def spLawSome (K : PySem.W.Frag) : Sp := fun vs H Q _ => ∃ (p l : Addr) (c m : Int) (ns : W), vs = [.ref p, .ref l, .int m] ∧ Pur H p c ∧ c ≤ 900000 ∧ l ≠ p ∧ H l = some (.lst (ns.map V.str)) ∧ 1 ≤ ns.length ∧ ns.length ≤ 40 ∧
  ∀ (H' : Hp) (t : Addr) (zs : W), Bar p H H' → Pur H' p (c + 40) → SqT K H' t (zs.map V.str) → zs.Sublist ns → Q (.ref t) H'
theorem ok_lawSome {f1 : Addr} {fd1 : FuncData} (F : Fun K "_law_some" "_law_some" sLawSome f fd) (T : Bl mg) (G1 : FnOk P w K mg base CX0 k f1 fd1 ["purse", "out_of"] spLawDraw) (b1 : Binds K fd1 ["purse", "out_of"] []) (k1 : PySem.W.keepIn K (.ref f1) = true) (m1 : mg "_law_draw" = some (.ref f1)) :
    FnOk P w K mg base CX0 (k + 1) f fd ["purse", "names", "most"] (spLawSome K) := by
  refine F.ok scLawSome (fun vs H Q E h => ?_) (fun cdv A outer s H vs Q E hr h => ?_)
  · obtain ⟨p, l, c, m, ns, rfl, _⟩ := h
    rfl
  obtain ⟨p, l, c, m, ns, rfl, hP, hc, nlp, hl, n1, n40, q⟩ := h
  refine ⟨_, pss_cons (ps_setLc (i := 3) (own := [("name", 4)]) (g := gName 4) (by rfl) scLawSome.nd rfl rfl (sw_true rfl rfl rfl (by decide +kernel)) (pi_list (pv 1)) (blkOk_by (N := ["purse", "names", "most", "found", "name"]) (sc := defScope sLawSome) (by decide +kernel))
        (fun _ _ _ _ _ => pg_name (i := 4) scLawSome.nd rfl (Or.inl rfl)) (fun _ _ _ _ _ => pts_one (pt_cmpR op_lt (pe_call G1 hr (by rfl) m1 k1 b1 .nil pass0 (pa_cons (pv 0) (pa_cons (pe_callB (r := rLenK K) call_len_seq (by rfl) T.len PySem.boot_len (pa_cons (pv 1) pa_nil)) pa_nil))) (pv 2) (nomark _))) (fun _ _ _ _ _ => pv 4))
    (pss_one (ps_ret (pe_callTy call_tuple_of (by rfl) T.tuple (by decide +kernel) (pa_cons (pv 3) pa_nil)))), ?_⟩
  refine ⟨.ref l, rfl, l, rfl, ⟨_, SqL.of hl⟩, fun D hD => ?_⟩
  have nDp := hP.some hD
  refine lc_list (xs := ns.map V.str) (fun i H1 => Bar p H H1 ∧ Pur H1 p (c + i) ∧ H1 l = some (.lst (ns.map V.str)) ∧ ∃ zs : W, H1 D = some (.lst (zs.map V.str)) ∧ zs.Sublist (ns.take i)) ⟨Bar.same (same_new hD _), (hP.same (same_new hD _)).le (by omega), (same_new hD _) _ _ hl, [], upd_same, List.nil_sublist _⟩ (fun i H1 _ hI => SqL.of hI.2.2.1) (fun i x H1 hxi hI => ?_) (fun H1 hI => ?_)
  · obtain ⟨bar, pu, hl1, zs, hd, hsub⟩ := hI
    obtain ⟨z, hz, rfl⟩ := map_at hxi
    have il : i < ns.length := (List.getElem?_eq_some_iff.mp hz).1
    have ln : ((ns.map V.str).length : Int) = ns.length := by rw [List.length_map]
    refine ⟨rfl, .ref p, rfl, .ref l, rfl, l, _, rfl, .inl (SqL.of hl1), p, _, c + i, rfl, pu, by omega, by rw [ln]; omega, by rw [ln]; omega, fun r us r0 r1 hP1 => ?_⟩
    have bar2 : Bar p H (upd H1 p (.lst us)) := bar.trans .draw
    have hl2 : (upd H1 p (.lst us)) l = some (.lst (ns.map V.str)) := by
      rw [upd_ne nlp]
      exact hl1
    have hd2 : (upd H1 p (.lst us)) D = some (.lst (zs.map V.str)) := by
      rw [upd_ne nDp]
      exact hd
    have pu2 : Pur (upd H1 p (.lst us)) p (c + ((i + 1 : Nat) : Int)) := hP1.le (by omega)
    have hDl : l ≠ D := fun e => by
      rw [e, hD] at hl
      cases hl
    refine ⟨.int m, rfl, r, m, rfl, rfl, _, rfl, ite2 (fun e => ?_) (fun e => ?_)⟩
    · refine ⟨.str z, rfl, _, hd2, small_line' ?_, bar2.put hD, pu2.put nDp, ?_, zs ++ [z], ?_, ?_⟩
      · rw [List.length_map]
        have := hsub.length_le
        rw [List.length_take] at this
        omega
      · rw [upd_ne hDl]
        exact hl2
      · rw [upd_same, List.map_append]
        rfl
      · rw [take_snoc hz]
        exact hsub.append (List.Sublist.refl _)
    · refine ⟨bar2, pu2, hl2, zs, hd2, ?_⟩
      rw [take_snoc hz]
      exact hsub.trans (List.sublist_append_left _ _)
  · obtain ⟨bar, pu, hl1, zs, hd, hsub⟩ := hI
    rw [List.length_map, List.take_length] at hsub
    rw [List.length_map] at pu
    refine ⟨.ref D, rfl, D, _, rfl, .inl ⟨SqL.of hd, fun t ht => ?_⟩⟩
    exact q _ t zs (bar.trans (.same (same_new ht _))) ((pu.same (same_new ht _)).le (by omega)) (SqT.of upd_same) hsub
end
end Rw
namespace Rw
open PySem PySem.Spec PyProof.Rows L2
/-! ### _law_rule -/
theorem scLawRule : FnScope ["purse", "names", "sort", "heads", "denied"] ["purse", "names", "sort"] (defScope sLawRule) := ⟨rfl, rfl, rfl, by decide +kernel, rfl, by decide +kernel, by decide +kernel⟩
theorem slA_w {K : PySem.W.Frag} {H : Hp} {a : Addr} {xs : List V} {lo hi : Option Int} {Q : VK} (hx : SqT K H a xs) (q : ∀ c H0, Same H H0 → SqT K H0 c (cutV xs lo hi) → Q (.ref c) H0) : rSlA K (.ref a) lo hi H Q := by
  refine ⟨a, xs, rfl, hx, fun ⟨e1, e2⟩ => q a H (fun _ _ e => e) ?_, fun _ p hp => q p _ (same_new hp _) (SqT.of upd_same)⟩
  unfold cutV
  rw [e1, e2, List.drop_zero, Nat.sub_zero, List.take_length]
  exact hx
theorem cut_map (zs : W) (j : Int) : ∃ m, cutV (zs.map V.str) none (some j) = (zs.take m).map V.str := by
  refine ⟨HT.sIx (zs.map V.str).length (zs.map V.str).length (some j), ?_⟩
  unfold cutV
  show ((zs.map V.str).drop 0).take (_ - 0) = _
  rw [List.drop_zero, Nat.sub_zero, List.map_take]
theorem isW_sub {ns zs : W} (h : IsW ns) (s : zs.Sublist ns) : IsW zs := ⟨fun x hx => h.names x (s.subset hx), List.Pairwise.sublist s h.up, Nat.le_trans s.length_le h.few⟩
theorem four_at {m : Nat} (h : m < 4) : ∃ j : Int, [V.int 2, V.int 2, V.int 2, V.int 4][m]? = some (.int j) := by
  rcases m with _ | _ | _ | _ | m
  · exact ⟨_, rfl⟩
  · exact ⟨_, rfl⟩
  · exact ⟨_, rfl⟩
  · exact ⟨_, rfl⟩
  · omega
section
variable {P : Program} {w : World} {K : PySem.W.Frag} {mg : Str → Option Value} {base : Heap} {f : Addr} {fd : FuncData} {k : Nat}
def spLawRule (K : PySem.W.Frag) : Sp := fun vs H Q _ => ∃ (p l : Addr) (c sort : Int) (ns : W), vs = [.ref p, .ref l, .int sort] ∧ (sort = 0 ∨ sort = 1 ∨ sort = 2) ∧ Pur H p c ∧ c ≤ 800000 ∧ l ≠ p ∧ H l = some (.lst (ns.map V.str)) ∧ 1 ≤ ns.length ∧ IsW ns ∧
  ∀ (H' : Hp) (v : V) (r : Rl), Bar p H H' → Pur H' p (c + 300) → Dp K H' v (rd r) → IsR r → (∀ t ∈ parts r, t.Sublist ns) → Q v H'
theorem ok_lawRule {f1 f2 : Addr} {fd1 fd2 : FuncData} (F : Fun K "_law_rule" "_law_rule" sLawRule f fd) (T : Bl mg) (G1 : FnOk P w K mg base CX0 k f1 fd1 ["purse", "out_of"] spLawDraw) (b1 : Binds K fd1 ["purse", "out_of"] []) (k1 : PySem.W.keepIn K (.ref f1) = true) (m1 : mg "_law_draw" = some (.ref f1))
    (G2 : FnOk P w K mg base CX0 k f2 fd2 ["purse", "names", "most"] (spLawSome K)) (b2 : Binds K fd2 ["purse", "names", "most"] []) (k2 : PySem.W.keepIn K (.ref f2) = true) (m2 : mg "_law_some" = some (.ref f2)) :
    FnOk P w K mg base CX0 (k + 1) f fd ["purse", "names", "sort"] (spLawRule K) := by
  refine F.ok scLawRule (fun vs H Q E h => ?_) (fun cdv A outer s H vs Q E hr h => ?_)
  · obtain ⟨p, l, c, sort, ns, rfl, _⟩ := h
    rfl
  obtain ⟨p, l, c, sort, ns, rfl, hsort, hP, hc, nlp, hl, n1, hn, q⟩ := h
  have n40 := hn.few
  refine ⟨_, pss_cons (ps_set (i := 3) scLawRule.nd rfl (.inl rfl) (pe_call G2 hr (by rfl) m2 k2 b2 .nil pass0 (pa_cons (pv 0) (pa_cons (pv 1) (pa_cons (pe_op op_add pe_int (pe_call G1 hr (by rfl) m1 k1 b1 .nil pass0 (pa_cons (pv 0) (pa_cons pe_int pa_nil)))) pa_nil)))))
    (pss_cons (ps_set (i := 3) scLawRule.nd rfl (.inl rfl) (pe_slice sl_tupA (pv 3) po_none (po_some (pe_ix ix_list (pe_lst (pa_cons pe_int (pa_cons pe_int (pa_cons pe_int (pa_cons pe_int pa_nil))))) (pe_call G1 hr (by rfl) m1 k1 b1 .nil pass0 (pa_cons (pv 0) (pa_cons pe_int pa_nil))) (fun _ _ => rfl)))))
    (pss_mid (ps_if (pt_cmpR op_eq (pv 2) pe_int (nomark _)) (pss_one (ps_set (i := 3) scLawRule.nd rfl (.inl rfl) (pe_tup (pa_cons (pe_ix ix_list (pv 1) (pe_call G1 hr (by rfl) m1 k1 b1 .nil pass0 (pa_cons (pv 0) (pa_cons (pe_callB call_len_seq (by rfl) T.len PySem.boot_len (pa_cons (pv 1) pa_nil)) pa_nil))) (fun _ _ => rfl)) pa_nil)))) pss_nil)
    (pss_cons (ps_set (i := 4) scLawRule.nd rfl (.inl rfl) (pe_tup pa_nil))
    (pss_mid (ps_if (PW.pt (pw_and (pt_cmpR op_eq (pv 2) pe_int (nomark _)) (pw_and1 (pt_cmpR op_eq (pe_call G1 hr (by rfl) m1 k1 b1 .nil pass0 (pa_cons (pv 0) (pa_cons pe_int pa_nil))) pe_int (nomark _))))) (pss_one (ps_set (i := 4) scLawRule.nd rfl (.inl rfl) (pe_call G2 hr (by rfl) m2 k2 b2 .nil pass0 (pa_cons (pv 0) (pa_cons (pv 1) (pa_cons pe_int pa_nil)))))) pss_nil)
    (pss_one (ps_ret (pe_tup (pa_cons (pv 3) (pa_cons (pv 4) (pa_cons (pe_call G2 hr (by rfl) m2 k2 b2 .nil pass0 (pa_cons (pv 0) (pa_cons (pv 1) (pa_cons pe_int pa_nil)))) (pa_cons (pe_call G2 hr (by rfl) m2 k2 b2 .nil pass0 (pa_cons (pv 0) (pa_cons (pv 1) (pa_cons pe_int pa_nil)))) pa_nil))))))))))), ?_⟩
  have lat : ∀ H', Bar p H H' → H' l = some (.lst (ns.map V.str)) := fun H' b => b _ _ nlp hl
  have sty : ∀ H', Bar p H H' → Stay H H' := fun H' b => b.stay hP.mut
  -- heads
  refine ⟨.ref p, rfl, .ref l, rfl, .ref p, rfl, p, 3, c, rfl, hP, by omega, by decide, by decide, fun r us r0 r1 hP1 => ?_⟩
  refine ⟨_, _, rfl, rfl, p, l, c + 1, _, ns, rfl, hP1, by omega, nlp, lat _ .draw, n1, n40, fun H2 t zs bar2 pu2 ht hs => ?_⟩
  have bar2' : Bar p H H2 := Bar.draw.trans bar2
  -- the slice
  refine ⟨.ref t, rfl, by show 4 ≤ sizeLine; decide, fun q4 hq4 => ?_⟩
  have s4 := same_new hq4 (.lst [.int 2, .int 2, .int 2, .int 4])
  have nq4 := pu2.some hq4
  refine ⟨.ref p, rfl, p, 4, _, rfl, pu2.same s4, by omega, by decide, by decide, fun r3 us3 r30 r31 hP3 => ?_⟩
  obtain ⟨m, rfl⟩ := Int.eq_ofNat_of_zero_le r30
  obtain ⟨j, hj⟩ := four_at (m := m) (by omega)
  refine ⟨q4, _, m, .int j, rfl, rfl, SqL.of (by rw [upd_ne nq4, upd_same]), atI_nat hj, ?_⟩
  have bar4 : Bar p H2 (upd (upd H2 q4 (.lst [.int 2, .int 2, .int 2, .int 4])) p (.lst us3)) := (Bar.same s4).trans .draw
  refine ⟨j, rfl, slA_w ((bar4.stay pu2.mut).seq ht) fun t5 H5 s5 ht5 => ?_⟩
  obtain ⟨mm, em⟩ := cut_map zs j
  rw [em] at ht5
  have bar5 : Bar p H H5 := (bar2'.trans bar4).trans (.same s5)
  have pu5 := hP3.same s5
  have hs5 : (zs.take mm).Sublist ns := (List.take_sublist _ _).trans hs
  have no : ∀ {i j : Int}, i ≠ j → V.bl (decide (V.int i = V.int j)) = V.bl false := fun n => congrArg V.bl (decide_eq_false fun e => n (by injection e))
  have yes : ∀ {i : Int}, V.bl (decide (V.int i = V.int i)) = V.bl true := congrArg V.bl (decide_eq_true rfl)
  have sortV : ∀ j : Int, ∃ b : Bool, V.bl (decide (V.int sort = V.int j)) = V.bl b ∧ (b = true ↔ sort = j) := fun j => by
    by_cases e : sort = j
    · exact ⟨true, by rw [e]; exact yes, by simp [e]⟩
    · exact ⟨false, no e, by simp [e]⟩
  refine ⟨fun σ H7 => ∃ (t7 : Addr) (hs7 : W), σ = [some (.ref p), some (.ref l), some (.int sort), some (.ref t7), none] ∧ Bar p H H7 ∧ Pur H7 p (c + 60) ∧ SqT K H7 t7 (hs7.map V.str) ∧ hs7.Sublist ns ∧ (sort = 0 → hs7.length = 1), ?_, ?_⟩
  · obtain ⟨b0, e0, hb0⟩ := sortV 0
    refine ⟨.int sort, rfl, rfl, b0, e0, ?_⟩
    cases b0 with
    | true =>
      refine iteT ⟨.ref l, rfl, .ref p, rfl, .ref l, rfl, l, _, rfl, .inl (SqL.of (lat _ bar5)), p, _, _, rfl, pu5, by omega, by rw [List.length_map]; omega, by rw [List.length_map]; omega, fun r us r0 r1 hP7 => ?_⟩
      obtain ⟨m7, rfl⟩ := Int.eq_ofNat_of_zero_le r0
      have lt : m7 < ns.length := by
        rw [List.length_map] at r1
        omega
      have hx : (ns.map V.str)[m7]? = some (.str ns[m7]) := by rw [List.getElem?_map, List.getElem?_eq_getElem lt]; rfl
      have bar7 : Bar p H (upd H5 p (.lst us)) := bar5.trans .draw
      refine ⟨l, _, m7, _, rfl, rfl, SqL.of (lat _ bar7), atI_nat hx, by show 1 ≤ sizeLine; decide, fun t7 ht7 => ?_⟩
      have s7 := same_new ht7 (.tup [.str ns[m7]])
      exact ⟨t7, [ns[m7]], rfl, bar7.trans (.same s7), (hP7.same s7).le (by omega), SqT.of upd_same, List.singleton_sublist.mpr (List.getElem_mem lt), fun _ => rfl⟩
    | false => exact iteF ⟨t5, zs.take mm, rfl, bar5, pu5.le (by omega), ht5, hs5, fun e => absurd (hb0.mpr e) (by decide)⟩
  rintro σ6 H6 ⟨t5', hs6, rfl, bar6', pu6', h56, hsub6, one6⟩
  refine ⟨by show 0 ≤ sizeLine; decide, fun t6 ht6 => ?_⟩
  have s6 := same_new ht6 (.tup [])
  have bar6 := bar6'.trans (.same s6)
  have pu6 := pu6'.same s6
  refine ⟨fun σ H7 => ∃ (t7 : Addr) (ds : W), σ = [some (.ref p), some (.ref l), some (.int sort), some (.ref t5'), some (.ref t7)] ∧ Bar p H H7 ∧ Pur H7 p (c + 200) ∧ SqT K H7 t5' (hs6.map V.str) ∧ SqT K H7 t7 (ds.map V.str) ∧ ds.Sublist ns ∧ (sort = 0 → ds = []), ?_, ?_⟩
  · obtain ⟨b2', e2, hb2⟩ := sortV 2
    refine ⟨.int sort, rfl, rfl, b2', e2, ?_⟩
    cases b2' with
    | false => exact iteF ⟨t6, [], rfl, bar6, pu6.le (by omega), same_tup s6 h56, SqT.of upd_same, List.nil_sublist _, fun _ => rfl⟩
    | true =>
      have s2 := hb2.mp rfl
      refine iteT ⟨.ref p, rfl, p, 3, _, rfl, pu6, by omega, by decide, by decide, fun r us r0 r1 hP7 => ?_⟩
      have bar7 := bar6.trans (Bar.draw (o := .lst us))
      have sty7 := (Bar.same s6).trans (Bar.draw (p := p) (o := .lst us))
      refine ⟨rfl, _, rfl, ite2 (fun e => ?_) (fun e => ?_)⟩
      · refine ⟨.ref p, rfl, .ref l, rfl, p, l, _, 1, ns, rfl, hP7, by omega, nlp, lat _ bar7, n1, n40, fun H8 t8 z8 bar8 pu8 h8 hs8 => ?_⟩
        exact ⟨t8, z8, rfl, bar7.trans bar8, pu8.le (by omega), (((sty7.trans bar8).stay pu6'.mut).seq h56), h8, hs8, fun e => by rw [e] at s2; exact absurd s2 (by decide)⟩
      · exact ⟨t6, [], rfl, bar7, hP7.le (by omega), (sty7.stay pu6'.mut).seq h56, ((Bar.draw (p := p)).stay pu6.mut).seq (SqT.of upd_same), List.nil_sublist _, fun _ => rfl⟩
  · rintro σ7 H7 ⟨t7, ds, rfl, bar7, pu7, h5, h7, hds, none7⟩
    refine ⟨.ref t5', rfl, .ref t7, rfl, .ref p, rfl, .ref l, rfl, p, l, _, 1, ns, rfl, pu7, by omega, nlp, lat _ bar7, n1, n40, fun H8 t8 z8 bar8 pu8 h8 hs8 => ?_⟩
    refine ⟨.ref p, rfl, .ref l, rfl, p, l, _, 1, ns, rfl, pu8, by omega, nlp, lat _ (bar7.trans bar8), n1, n40, fun H9 t9 z9 bar9 pu9 h9 hs9 => ?_⟩
    refine ⟨by show 4 ≤ sizeLine; decide, fun t10 ht10 => ?_⟩
    have s10 := same_new ht10 (.tup [.ref t5', .ref t7, .ref t8, .ref t9])
    have y9 := (bar9.stay pu8.mut).trans (.same s10)
    have y8 := (bar8.stay pu7.mut).trans y9
    refine q _ (.ref t10) (hs6, ds, z8, z9) (((bar7.trans bar8).trans bar9).trans (.same s10)) ((pu9.same s10).le (by omega)) ?_ ⟨isW_sub hn hsub6, isW_sub hn hds, isW_sub hn hs8, isW_sub hn hs9⟩ (fun t ht => ?_)
    · exact .tup (SqT.of upd_same) (.cons (to_wd (y8.seq h5)) (.cons (to_wd (y8.seq h7)) (.cons (to_wd (y9.seq h8)) (.cons (to_wd ((Stay.same s10).seq h9)) .nil))))
    · unfold parts at ht
      simp only [List.mem_cons, List.mem_nil_iff, or_false] at ht
      rcases ht with e | e | e | e <;> subst e
      · exact hsub6
      · exact hds
      · exact hs8
      · exact hs9
end
end Rw
namespace Rw
open PySem PySem.Spec PyProof.Rows L2
/-! ### _law_rules -/
theorem scLawRules : FnScope ["purse", "names", "sort", "most", "k"] ["purse", "names", "sort", "most"] (defScope sLawRules) := ⟨rfl, rfl, rfl, by decide +kernel, rfl, by decide +kernel, by decide +kernel⟩
theorem none_same {H H' : Hp} {l : Addr} (s : Same H H') (n : H' l = none) : H l = none := by
  cases e : H l with
  | none => rfl
  | some u =>
    rw [s _ _ e] at n
    cases n
section
variable {P : Program} {w : World} {K : PySem.W.Frag} {mg : Str → Option Value} {base : Heap} {f : Addr} {fd : FuncData} {k : Nat}
/-- a rule whose names are of ns -/
def RIn (ns : W) (r : Rl) : Prop := IsR r ∧ ∀ t ∈ parts r, t.Sublist ns
def spLawRules (K : PySem.W.Frag) : Sp := fun vs H Q _ => ∃ (p l : Addr) (c sort most : Int) (ns : W), vs = [.ref p, .ref l, .int sort, .int most] ∧ (sort = 0 ∨ sort = 1 ∨ sort = 2) ∧ 0 ≤ most ∧ most ≤ 40 ∧ Pur H p c ∧ c ≤ 700000 ∧ l ≠ p ∧ H l = some (.lst (ns.map V.str)) ∧ 1 ≤ ns.length ∧ IsW ns ∧
  ∀ (H' : Hp) (a : Addr) (ys : List V) (S L : List Rl), Bar p H H' → Pur H' p (c + 15000) → H a = none → H' a = some (.lst ys) → DpAll K H' ys (S.map rd) → Srt S L → S.length < 76 → (S.length : Int) ≤ most → (∀ r ∈ S, RIn ns r) → Q (.ref a) H'
theorem ok_lawRules {f1 f2 : Addr} {fd1 fd2 : FuncData} (F : Fun K "_law_rules" "_law_rules" sLawRules f fd) (T : Bl mg) (G1 : FnOk P w K mg base CX0 k f1 fd1 ["purse", "out_of"] spLawDraw) (b1 : Binds K fd1 ["purse", "out_of"] []) (k1 : PySem.W.keepIn K (.ref f1) = true) (m1 : mg "_law_draw" = some (.ref f1))
    (G2 : FnOk P w K mg base CX0 k f2 fd2 ["purse", "names", "sort"] (spLawRule K)) (b2 : Binds K fd2 ["purse", "names", "sort"] []) (k2 : PySem.W.keepIn K (.ref f2) = true) (m2 : mg "_law_rule" = some (.ref f2)) :
    FnOk P w K mg base CX0 (k + 1) f fd ["purse", "names", "sort", "most"] (spLawRules K) := by
  refine F.ok scLawRules (fun vs H Q E h => ?_) (fun cdv A outer s H vs Q E hr h => ?_)
  · obtain ⟨p, l, c, sort, most, ns, rfl, _⟩ := h
    rfl
  obtain ⟨p, l, c, sort, most, ns, rfl, hsort, m0, m40, hP, hc, nlp, hl, n1, hn, q⟩ := h
  refine ⟨_, pss_one (ps_ret (pe_callB (cr_sortR rfl hr.units) (by rfl) T.sorted (by decide +kernel) (pa_cons (pe_callTy (cr_setR rfl hr.units) (by rfl) T.set (by decide +kernel) (pa_cons
      (pe_lc (own := [("k", 4)]) (g := gName 4) (by rfl) scLawRules.nd (pi_range1 rfl T.range (pa_cons (pe_call G1 hr (by rfl) m1 k1 b1 .nil pass0 (pa_cons (pv 0) (pa_cons (pe_op op_add (pv 3) pe_int) pa_nil))) pa_nil)) (blkOk_by (N := ["purse", "names", "sort", "most", "k"]) (sc := defScope sLawRules) (by decide +kernel))
        (fun _ _ _ _ _ => pg_name (i := 4) scLawRules.nd rfl (Or.inl rfl)) (fun _ _ _ _ _ => pts_nil) (fun _ _ _ _ _ => pe_call G2 hr (by rfl) m2 k2 b2 .nil pass0 (pa_cons (pv 0) (pa_cons (pv 1) (pa_cons (pv 2) pa_nil))))) pa_nil)) pa_nil))), ?_⟩
  refine ⟨.ref p, rfl, .int most, rfl, _, _, rfl, rfl, p, _, c, rfl, hP, by omega, by omega, by omega, fun r us r0 r1 hP1 => ?_⟩
  have barA : Bar p H (upd H p (.lst us)) := .draw
  have r1' : r < most + 1 := r1
  refine ⟨r, rfl, by omega, by omega, fun D hD => ?_⟩
  have nDp := hP1.some hD
  have hD0 := none_bar barA hP1 hD
  have sD := same_new hD (.lst [])
  refine lc_range (fun i H1 => Bar p H H1 ∧ Pur H1 p (c + 1 + 300 * i) ∧ ∃ (zs : List V) (L : List Rl), H1 D = some (.lst zs) ∧ DpAll K H1 zs (L.map rd) ∧ L.length = i ∧ (∀ r ∈ L, RIn ns r)) ⟨barA.trans (.same sD), (hP1.same sD).le (by omega), [], [], upd_same, .nil, rfl, (fun _ z => nomatch z)⟩ (fun i H1 il hI => ?_) (fun H1 hI => ?_)
  · obtain ⟨bar, pu, zs, L, hd, hzs, hL, hR⟩ := hI
    refine ⟨rfl, .ref p, rfl, .ref l, rfl, .int sort, rfl, p, l, _, sort, ns, rfl, hsort, pu, by omega, nlp, bar _ _ nlp hl, n1, hn, fun H2 v r2 bar2 pu2 hv hr2 hsub => ?_⟩
    have hd2 := bar2 _ _ nDp hd
    have st : Stay H2 (upd H2 D (.lst (zs ++ [v]))) := .put (by rw [hd2]; exact True.intro) _
    refine ⟨zs, hd2, small_line' ?_, (bar.trans bar2).put hD0, (pu2.put nDp).le (by omega), zs ++ [v], L ++ [r2], upd_same, ?_, by rw [List.length_append, hL]; rfl, fun r hr => ?_⟩
    · rw [dpAll_len hzs, List.length_map]
      omega
    · rw [List.map_append]
      exact dpAll_app (((bar2.stay pu.mut).trans st).dpAll _ _ (okDs_rd L) hzs) (.cons (st.dp _ _ (ok_rd r2) hv) .nil)
    · rcases List.mem_append.mp hr with h | h
      · exact hR r h
      · rw [List.mem_singleton.mp h]
        exact ⟨hr2, hsub⟩
  · obtain ⟨bar, pu, zs, L, hd, hzs, hL, hR⟩ := hI
    refine ⟨D, zs, L, rfl, .inl (SqL.of hd), hzs, by omega, fun a M ha hM isP hall => ?_⟩
    have sa := same_new ha (TSetO w a M)
    refine ⟨a, M, L, rfl, upd_same, (fun e he => ⟨(hM e he).1, (Stay.same sa).dp _ _ (hM e he).1.ok (hM e he).2⟩), isP, hall, fun ys S l2 hS hSl hys hl2 => ?_⟩
    have sl := same_new hl2 (.lst ys)
    have n0 : H1 l2 = none := none_same sa hl2
    refine q _ l2 ys S L (bar.trans (.same (sa.trans sl))) ((pu.same (sa.trans sl)).le (by omega)) (none_bar bar pu n0) upd_same ((Stay.same sl).dpAll _ _ (okDs_rd S) hys) hS hSl (by have e := len_le hS.nd fun z hz => (hS.mem z).mp hz; omega) fun r hr => hR r ((hS.mem r).mp hr)
end
end Rw
namespace Rw
open PySem PySem.Spec PyProof.Rows L2
/-! ### _law_lots -/
abbrev nLawLots : List Str := ["purse", "sheet", "letters", "found", "below", "lot", "turn", "some", "name"]
theorem scLawLots : FnScope nLawLots ["purse", "sheet", "letters"] (defScope sLawLots) := ⟨rfl, rfl, rfl, by decide +kernel, rfl, by decide +kernel, by decide +kernel⟩
def rListOf (K : PySem.W.Frag) : List V → Hp → VK → Prop := fun xs H Q => ∃ p ys, xs = [.ref p] ∧ (SqL K H p ys ∨ SqT K H p ys) ∧ ∀ l, H l = none → Q (.ref l) (upd H l (.lst ys))
/-- a lot that splits the sheet -/
def LotB (S : List Rl) (letters : W) (lot : W) : Prop := IsW lot ∧ lot.Sublist letters ∧ splitsB S lot = true
theorem splits_iff {S : List Rl} {ns : W} : splitsB S ns = true ↔ ∀ r ∈ S, (∃ z ∈ r.1, z ∈ ns) → ∀ z ∈ own r, z ∈ ns := by
  unfold splitsB splitR
  rw [List.all_eq_true]
  refine forall_congr' fun r => forall_congr' fun _ => ?_
  have m : meets r.1 ns = true ↔ ∃ z ∈ r.1, z ∈ ns := by
    unfold meets
    rw [List.any_eq_true]
    exact exists_congr fun z => and_congr_right fun _ => decide_eq_true_iff
  have s : sub (own r) ns = true ↔ ∀ z ∈ own r, z ∈ ns := by
    unfold sub
    rw [List.all_eq_true]
    exact forall_congr' fun z => forall_congr' fun _ => decide_eq_true_iff
  rw [Bool.or_eq_true, Bool.not_eq_true', ← m, ← s]
  cases meets r.1 ns <;> simp
theorem worldD_no {ns : W} (h : IsW ns) (e : worldD (wd ns) = false) : False := by
  rw [worldD_wd h] at e
  cases e
theorem ris_of : ∀ (l : List Str) (p : Str), risingS p l = true → (∀ y ∈ l, p.cps.toList ≤ y.cps.toList) ∧ RisingX l
  | [], p, _ => ⟨(fun _ z => nomatch z), List.Pairwise.nil⟩
  | x :: r, p, h => by
    rw [risingS, Bool.and_eq_true] at h
    obtain ⟨h1, h2⟩ := h
    have le : p.cps.toList ≤ x.cps.toList := List.not_lt.mp fun c => by
      rw [ltCps_eq, decide_eq_true c] at h1
      cases h1
    obtain ⟨a, b⟩ := ris_of r x h2
    refine ⟨fun y hy => ?_, List.pairwise_cons.mpr ⟨fun y hy => decide_eq_true (a y hy), b⟩⟩
    rcases List.mem_cons.mp hy with e | e
    · rw [e]
      exact le
    · exact List.le_trans le (a y e)
theorem ris_sorted : ∀ {l : List Str}, sortedS l = true → RisingX l
  | [], _ => List.Pairwise.nil
  | x :: r, h => by
    obtain ⟨a, b⟩ := ris_of r x h
    exact List.pairwise_cons.mpr ⟨fun y hy => decide_eq_true (a y hy), b⟩
section
variable {P : Program} {w : World} {K : PySem.W.Frag} {mg : Str → Option Value} {base : Heap} {f : Addr} {fd : FuncData} {k : Nat}
theorem splits_told {C CP CW : Addr} {v nm : V} {H : Hp} {S : List Rl} {ns : W} {Q : VK} {E : XK} (hS : PgAt K C H v S) (hI : ∀ r ∈ S, IsR r) (few : S.length < 76) (hd : Dp K H nm (wd ns)) (hw : IsW ns) (q : ∀ H', Same H H' → Q (.bl (splitsB S ns)) H') : spSplits K C CP CW [v, nm] H Q E :=
  ⟨v, nm, rfl, .inl ⟨S, wd ns, hS, hI, few, hd, oddW_wd hw, fun H' s => ⟨fun ms hm e => by rw [← wd_inj e]; exact q H' s, fun no => (worldD_no hw no).elim⟩⟩⟩
/-- what a step of _law_lots leaves -/
def LotsAt (K : PySem.W.Frag) (H : Hp) (D : Addr) (S : List Rl) (letters : W) (n : Nat) : Prop := ∃ (ls : List V) (Ls : List W), H D = some (.lst ls) ∧ DpAll K H ls (Ls.map wd) ∧ (∀ lot ∈ Ls, LotB S letters lot) ∧ 2 ≤ Ls.length ∧ Ls.length ≤ n
def spLawLots (K : PySem.W.Frag) (C : Addr) : Sp := fun vs H Q _ => ∃ (p a : Addr) (v : V) (c : Int) (S : List Rl) (letters : W), vs = [.ref p, v, .ref a] ∧ Pur H p c ∧ c ≤ 800000 ∧ a ≠ p ∧ H a = some (.lst (letters.map V.str)) ∧ IsW letters ∧ letters.length ≤ 6 ∧ PgAt K C H v S ∧ (∀ r ∈ S, IsR r) ∧ S.length < 76 ∧ (∀ z ∈ namesL S, z ∈ letters) ∧
  ∀ H' D, Bar p H H' → Pur H' p (c + 100) → H D = none → LotsAt K H' D S letters 14 → Q (.ref D) H'
theorem ok_lawLots {C CP CW f1 f2 f3 : Addr} {fd1 fd2 fd3 : FuncData} (F : Fun K "_law_lots" "_law_lots" sLawLots f fd) (T : Bl mg)
    (G1 : FnOk P w K mg base CX0 k f1 fd1 ["purse", "out_of"] spLawDraw) (b1 : Binds K fd1 ["purse", "out_of"] []) (k1 : PySem.W.keepIn K (.ref f1) = true) (m1 : mg "_law_draw" = some (.ref f1))
    (G2 : FnOk P w K mg base (L2.CX P w) k f2 fd2 ["program"] (spLayers K C CP)) (b2 : Binds K fd2 ["program"] []) (k2 : PySem.W.keepIn K (.ref f2) = true) (m2 : mg "layers" = some (.ref f2))
    (G3 : FnOk P w K mg base (L2.CX P w) k f3 fd3 ["program", "names"] (spSplits K C CP CW)) (b3 : Binds K fd3 ["program", "names"] []) (k3 : PySem.W.keepIn K (.ref f3) = true) (m3 : mg "splits" = some (.ref f3)) :
    FnOk P w K mg base CX0 (k + 1) f fd ["purse", "sheet", "letters"] (spLawLots K C) := by
  refine F.ok scLawLots (fun vs H Q E h => ?_) (fun cdv A outer s H vs Q E hr h => ?_)
  · obtain ⟨p, a, v, c, S, letters, rfl, _⟩ := h
    rfl
  obtain ⟨p, a, v, c, S, letters, rfl, hP, hc, nap, ha, hlet, l6, hS, hI, few, hsub, q⟩ := h
  refine ⟨_, pss_cons (ps_set (i := 3) scLawLots.nd rfl (.inl rfl) (pe_lst (pa_cons (pe_tup pa_nil) (pa_cons (pe_callTy call_tuple_of (by rfl) T.tuple (by decide +kernel) (pa_cons (pv 2) pa_nil)) pa_nil))))
    (pss_cons (ps_set (i := 4) scLawLots.nd rfl (.inl rfl) (pe_lst pa_nil))
    (pss_cons (ps_for PassesOwn.never rfl (pi_list (pe_call G2 hr (by rfl) m2 k2 b2 .nil passNo (pa_cons (pv 1) pa_nil))) (pg_name (i := 5) scLawLots.nd rfl (.inl rfl))
      (pss_cons (ps_set (i := 4) scLawLots.nd rfl (.inl rfl) (pe_callB (r := rSortedS K) cr_sortedS (by rfl) T.sorted (by decide +kernel) (pa_cons (pe_op op_cat (pv 4) (pe_callTy (T := "list") (r := rListOf K) call_list_of (by rfl) T.list (by decide +kernel) (pa_cons (pv 5) pa_nil))) pa_nil)))
      (pss_one (ps_expr (pe_bm PySem.F.plainAttrs_list PySem.F.slot_list_append PySem.F.type_list_append mt_append (pv 3) (pa_cons (pe_callTy call_tuple_of (by rfl) T.tuple (by decide +kernel) (pa_cons (pv 4) pa_nil)) pa_nil))))))
    (pss_cons (ps_for PassesOwn.never rfl (pi_range1 rfl T.range (pa_cons pe_int pa_nil)) (pg_name (i := 6) scLawLots.nd rfl (.inl rfl))
      (pss_cons (ps_set (i := 7) scLawLots.nd rfl (.inl rfl) (pe_callTy call_tuple_of (by rfl) T.tuple (by decide +kernel) (pa_cons (pe_lc (own := [("name", 8)]) (g := gName 8) (by rfl) scLawLots.nd (pi_list (pv 2)) (blkOk_by (N := nLawLots) (sc := defScope sLawLots) (by decide +kernel))
        (fun _ _ _ _ _ => pg_name (i := 8) scLawLots.nd rfl (Or.inl rfl)) (fun _ _ _ _ _ => pts_one (pt_cmpR op_eq (pe_call G1 hr (by rfl) m1 k1 b1 .nil pass0 (pa_cons (pv 0) (pa_cons pe_int pa_nil))) pe_int (nomark _))) (fun _ _ _ _ _ => pv 8)) pa_nil)))
      (pss_one (ps_if (pt_val (pe_call G3 hr (by rfl) m3 k3 b3 .nil passNo (pa_cons (pv 1) (pa_cons (pv 7) pa_nil)))) (pss_one (ps_expr (pe_bm PySem.F.plainAttrs_list PySem.F.slot_list_append PySem.F.type_list_append mt_append (pv 3) (pa_cons (pv 7) pa_nil)))) pss_nil))))
    (pss_one (ps_ret (pv 3)))))), ?_⟩
  -- the first two lots
  refine ⟨by show 0 ≤ sizeLine; decide, fun t1 ht1 => ?_⟩
  have s1 := same_new ht1 (.tup [])
  refine ⟨.ref a, rfl, a, _, rfl, .inl ⟨SqL.of (s1 _ _ ha), fun t2 ht2 => ?_⟩⟩
  have s2 := same_new ht2 (.tup (letters.map V.str))
  refine ⟨by show 2 ≤ sizeLine; decide, fun D hD => ?_⟩
  have sD := same_new hD (.lst [.ref t1, .ref t2])
  refine ⟨by show 0 ≤ sizeLine; decide, fun B0 hB0 => ?_⟩
  have sB := same_new hB0 (.lst [])
  have s2D := s2.trans (sD.trans sB)
  have s0 := s1.trans s2D
  let H4 : Hp := upd (upd (upd (upd H t1 (.tup [])) t2 (.tup (letters.map V.str))) D (.lst [.ref t1, .ref t2])) B0 (.lst [])
  have hD4 : H4 D = some (.lst [.ref t1, .ref t2]) := sB _ _ upd_same
  have hD0 : H D = none := by
    cases e : H D with
    | none => rfl
    | some u => rw [(s1.trans s2) _ _ e] at hD; cases hD
  have nDp : D ≠ p := hP.some hD0
  have spl0 : splitsB S [] = true := splits_iff.mpr fun r _ ⟨z, _, hz⟩ => nomatch hz
  have spl1 : splitsB S letters = true := splits_iff.mpr fun r hr _ z hz => hsub z (List.mem_flatMap.mpr ⟨r, hr, hz⟩)
  have isw0 : IsW ([] : W) := ⟨(fun _ z => nomatch z), List.Pairwise.nil, Nat.zero_le _⟩
  have isw : ∀ x : W, x.Sublist letters → IsW x := fun x hx => ⟨fun z hz => hlet.names z (hx.subset hz), List.Pairwise.sublist hx hlet.up, Nat.le_trans hx.length_le hlet.few⟩
  have ld4 : DpAll K H4 [.ref t1, .ref t2] (([[], letters] : List W).map wd) := .cons (to_wd (ns := []) (SqT.of (s2D _ _ upd_same))) (.cons (to_wd (SqT.of ((sD.trans sB) _ _ upd_same))) .nil)
  have lb4 : ∀ lot ∈ ([[], letters] : List W), LotB S letters lot := fun lot h => by
    rcases List.mem_cons.mp h with rfl | h
    · exact ⟨isw0, List.nil_sublist _, spl0⟩
    · rw [List.mem_singleton.mp h]
      exact ⟨hlet, List.Sublist.refl _, spl1⟩
  -- the layers
  refine ⟨v, rfl, ?_⟩
  dsimp only [tNil]
  refine ⟨v, rfl, .inl ⟨S, letters, hS.same s0, hI, few, hsub, by omega, fun H5 L5 ysL ns R s5 hL0 hL hys hns hmem hlay => ?_⟩⟩
  have yl : ysL.length = R.length := by rw [dpAll_len hys, List.length_map]
  have nsl : ns.length ≤ 6 := Nat.le_trans (few_own hns hmem hsub) l6
  have nd := hlay.nd
  have fll : R.flatten.length ≤ 6 := Nat.le_trans (len_le nd fun z hz => (hlay.cover z).mp hz) nsl
  have rl := hlay.len
  have lp := lay_P hns hmem hlay
  have nLD : L5 ≠ D := fun e => by
    rw [e] at hL0
    have := hL0.symm.trans hD4
    cases this
  have hD5 := s5 _ _ hD4
  have mD5 : Mut (H5 D) := by rw [hD5]; exact True.intro
  have s05 := s0.trans s5
  have toSame : ∀ {H' : Hp}, Bar D H5 H' → Same H H' := fun {H'} b x u e => b x u (fun z => by rw [z, hD0] at e; cases e) (s05 _ _ e)
  have takeL : ∀ i, (R.take i).flatten.length ≤ 6 := fun i => by
    refine Nat.le_trans ?_ fll
    conv => rhs; rw [← List.take_append_drop i R]
    rw [List.flatten_append, List.length_append]
    omega
  have lt6 : ∀ z ∈ ns, z ∈ letters := fun z hz => hsub z ((hmem z).mp hz)
  have slet : ∀ x : W, UpX x → (∀ z ∈ x, z ∈ letters) → x.Sublist letters := fun x ux hx => by
    have e : letters.filter (fun z => decide (z ∈ x)) = x := upX_one (hlet.up.sublist List.filter_sublist) ux fun z => by
      rw [List.mem_filter, decide_eq_true_iff]
      exact ⟨fun q => q.2, fun q => ⟨hx z q, q⟩⟩
    rw [← e]
    exact List.filter_sublist
  refine ⟨L5, rfl, ⟨_, SqL.of hL⟩, ?_⟩
  refine for_list (K := K) (D := { nx := _, rt := Q }) (xs := ysL) (fun i σ H6 => (∃ (Bi : Addr) (y5 : Option V) (bs : W), σ = [some (.ref p), some v, some (.ref a), some (.ref D), some (.ref Bi), y5, none, none, none] ∧ H6 Bi = some (.lst (bs.map V.str)) ∧ bs.Perm (R.take i).flatten) ∧ Bar D H5 H6 ∧ LotsAt K H6 D S letters (2 + i)) ⟨⟨B0, _, [], rfl, s5 _ _ upd_same, List.Perm.refl _⟩, (fun _ _ _ e => e), _, [[], letters], hD5, dpAll_same s5 _ _ ld4, lb4, Nat.le_refl 2, Nat.le_refl 2⟩ (fun i σ H6 _ h => SqL.of (h.2.1 _ _ nLD hL)) (fun i x σ H6 hx h => ?_) (fun σ H6 h => ?_)
  · obtain ⟨⟨Bi, y5, bs, rfl, hBi, pmb⟩, bar, ls, Ls, hls, hld, hlb, l2, ln⟩ := h
    have nBD : Bi ≠ D := fun e => by
      rw [e, hls] at hBi
      injection hBi with q
      injection q with q
      have l3 := dpAll_len hld
      rw [q, List.length_map, List.length_map] at l3
      cases bs with
      | nil => rw [List.length_nil] at l3; omega
      | cons z bs =>
        cases Ls with
        | nil => simp at l2
        | cons x0 Ls =>
          rw [q] at hld
          cases hld with
          | cons h1 _ =>
            have h1 : Dp K H6 (.str z) (wd x0) := h1
            obtain ⟨b, eb, _⟩ := of_wd h1
            cases eb
    obtain ⟨dd, hdd, hxd⟩ := dpAll_at' hys hx
    obtain ⟨lot, hlot, rfl⟩ := map_at hdd
    have il : i < ysL.length := (List.getElem?_eq_some_iff.mp hx).1
    have st := bar.stay mD5
    obtain ⟨xa, rfl, hxa⟩ := of_wd (st.wd hxd)
    have ft : (R.take (i + 1)).flatten = (R.take i).flatten ++ lot := by rw [take_snoc hlot, List.flatten_append, List.flatten_singleton]
    have f6 := takeL (i + 1)
    rw [ft, List.length_append] at f6
    have bl : bs.length = (R.take i).flatten.length := pmb.length_eq
    -- below
    refine ⟨.ref Bi, rfl, .ref xa, rfl, xa, _, rfl, .inr hxa, fun l1 hl1 => ?_⟩
    have q1 := same_new hl1 (.lst (lot.map V.str))
    refine ⟨Bi, l1, _, _, rfl, rfl, q1 _ _ hBi, upd_same, by rw [List.length_map, List.length_map, sizeLine_eq]; omega, fun l2' hl2' => ?_⟩
    have q2 := same_new hl2' (.lst (bs.map V.str ++ lot.map V.str))
    refine ⟨l2', bs ++ lot, rfl, by rw [List.map_append]; exact SqL.of upd_same, by rw [List.length_append]; omega, fun zy p9 pm9 srt9 hp9 => ?_⟩
    have q3 := same_new hp9 (.lst (zy.map V.str))
    refine ⟨.ref D, rfl, .inl ⟨rfl, _, SqL.of ((q1.trans (q2.trans q3)) _ _ hls)⟩, .ref p9, rfl, p9, _, rfl, .inl ⟨SqL.of upd_same, fun t9 ht9 => ?_⟩⟩
    have q4 := same_new ht9 (.tup (zy.map V.str))
    have q14 := q1.trans (q2.trans (q3.trans q4))
    have hls4 := q14 _ _ hls
    have lsl : ls.length = Ls.length := by rw [dpAll_len hld, List.length_map]
    refine ⟨D, ls, .ref t9, rfl, rfl, hls4, small_line' (by omega), ?_⟩
    have pmz : zy.Perm (R.take (i + 1)).flatten := by
      rw [ft]
      exact pm9.trans (pmb.append_right _)
    have ndz : (R.take (i + 1)).flatten.Nodup := by
      have e : R.flatten = (R.take (i + 1)).flatten ++ (R.drop (i + 1)).flatten := by rw [← List.flatten_append, List.take_append_drop]
      rw [e] at nd
      exact (List.nodup_append.mp nd).1
    have uz : UpX zy := upX_of (ris_sorted srt9) (pmz.nodup_iff.mpr ndz)
    have zlet : ∀ z ∈ zy, z ∈ letters := fun z hz => lt6 z ((hlay.cover z).mp (by
      obtain ⟨u, hu, hzu⟩ := List.mem_flatten.mp (pmz.mem_iff.mp hz)
      exact List.mem_flatten.mpr ⟨u, List.mem_of_mem_take hu, hzu⟩))
    have zsub := slet zy uz zlet
    have zspl : splitsB S zy = true := splits_iff.mpr fun r hr ⟨x, hx, hxz⟩ z hz => by
      have e : ((([] : W) :: R).take (i + 2)).flatten = (R.take (i + 1)).flatten := rfl
      have := lp.low (i + 2) r hr x hx (by rw [e]; exact pmz.mem_iff.mp hxz) z hz
      rw [e] at this
      exact pmz.mem_iff.mpr this
    let HX : Hp := upd (upd (upd (upd H6 l1 (.lst (lot.map V.str))) l2' (.lst (bs.map V.str ++ lot.map V.str))) p9 (.lst (zy.map V.str))) t9 (.tup (zy.map V.str))
    have stp : Stay HX (upd HX D (.lst (ls ++ [.ref t9]))) := Stay.put (by rw [show HX D = _ from hls4]; exact True.intro) _
    have nB9 : p9 ≠ D := fun e => by
      have z := (q1.trans q2) _ _ hls
      rw [e] at hp9
      exact nomatch hp9.symm.trans z
    refine ⟨⟨p9, _, zy, rfl, (upd_ne nB9).trans (q4 _ _ upd_same), pmz⟩, fun b u nb e => (upd_ne nb).trans (q14 _ _ (bar b u nb e)), ls ++ [.ref t9], Ls ++ [zy], upd_same, ?_, fun x hx => ?_, by rw [List.length_append]; omega, by rw [List.length_append, List.length_singleton]; omega⟩
    · rw [List.map_append]
      exact dpAll_app (((Stay.same q14).trans stp).dpAll _ _ (okDs_wd _) hld) (.cons (stp.wd (to_wd (SqT.of upd_same))) .nil)
    · rcases List.mem_append.mp hx with hx | hx
      · exact hlb x hx
      · rw [List.mem_singleton.mp hx]
        exact ⟨isw zy zsub, zsub, zspl⟩
  obtain ⟨⟨Bi, y5, bs, rfl, _, _⟩, bar5, hlots⟩ := h
  rw [yl] at hlots
  have sH := toSame bar5
  have hP6 := hP.same sH
  -- the drawn ones
  refine ⟨6, rfl, by decide, by decide, for_range (n := 6) (fun j σ H7 => (∃ y5 y6 y7, σ = [some (.ref p), some v, some (.ref a), some (.ref D), some (.ref Bi), y5, y6, y7, none]) ∧ Bar p H H7 ∧ Pur H7 p (c + 10 * j) ∧ LotsAt K H7 D S letters (8 + j)) ⟨⟨_, _, _, rfl⟩, .same sH, hP6.le (by omega), ?_⟩ (fun j σ H7 hj h => ?_) (fun σ H7 h => ?_)⟩
  · obtain ⟨ls, Ls, h1, h2, h3, h4, h5⟩ := hlots
    exact ⟨ls, Ls, h1, h2, h3, h4, by omega⟩
  · obtain ⟨⟨y5', y6, y7, rfl⟩, bar, pu, ls, Ls, hls, hld, hlb, l2, ln⟩ := h
    have ha7 := bar _ _ nap ha
    refine ⟨.ref a, rfl, a, rfl, ⟨_, SqL.of ha7⟩, fun D2 hD2 => ?_⟩
    have nDp2 := pu.some hD2
    have nDa : a ≠ D2 := fun z => by rw [z] at ha7; rw [ha7] at hD2; cases hD2
    refine lc_list (xs := letters.map V.str) (fun i H8 => Bar p H7 H8 ∧ Pur H8 p (c + 10 * j + i) ∧ ∃ zs : W, H8 D2 = some (.lst (zs.map V.str)) ∧ zs.Sublist (letters.take i)) ⟨.same (same_new hD2 _), (pu.same (same_new hD2 _)).le (by omega), [], upd_same, List.nil_sublist _⟩ (fun i H8 _ h => SqL.of (h.1 _ _ nap ha7)) (fun i x H8 hx h => ?_) (fun H8 h => ?_)
    · obtain ⟨bar8, pu8, zs, hzs, hsub8⟩ := h
      obtain ⟨z, hz, rfl⟩ := map_at hx
      have il : i < letters.length := (List.getElem?_eq_some_iff.mp hz).1
      refine ⟨rfl, .ref p, rfl, p, 2, _, rfl, pu8, by omega, by decide, by decide, fun r us r0 r1 pu9 => ?_⟩
      have hz9 : (upd H8 p (.lst us)) D2 = some (.lst (zs.map V.str)) := (upd_ne nDp2).trans hzs
      refine ⟨rfl, _, rfl, ite2 (fun _ => ?_) (fun _ => ?_)⟩
      · have zl := hsub8.length_le
        rw [List.length_take] at zl
        refine ⟨.str z, rfl, _, hz9, small_line' (by rw [List.length_map]; omega), (bar8.trans .draw).put hD2, (pu9.put nDp2).le (by omega), zs ++ [z], by rw [upd_same, List.map_append]; rfl, ?_⟩
        rw [take_snoc hz]
        exact hsub8.append (List.Sublist.refl _)
      · refine ⟨bar8.trans .draw, pu9.le (by omega), zs, hz9, ?_⟩
        rw [take_snoc hz]
        exact hsub8.trans (List.sublist_append_left _ _)
    · obtain ⟨bar8, pu8, zs, hzs, hsub8⟩ := h
      rw [List.length_map] at pu8 hsub8
      rw [List.take_length] at hsub8
      refine ⟨D2, _, rfl, .inl ⟨SqL.of hzs, fun t3 ht3 => ?_⟩⟩
      have s9 := same_new ht3 (.tup (zs.map V.str))
      have bar9 := (bar.trans bar8).trans (.same s9)
      have pu9 := pu8.same s9
      have hw := isw zs hsub8
      refine ⟨v, rfl, .ref t3, rfl, ?_⟩
      dsimp only [tNil]
      refine splits_told ?_ hI few (to_wd (SqT.of upd_same)) hw fun H9 s10 => ?_
      · obtain ⟨av, dx, t0, ys0, e0, i1, i2, i3⟩ := id hS
        have nav : av ≠ p := fun z => by
          obtain ⟨_, _, _, g, _⟩ := hP
          rw [z, g] at i1
          cases i1
        have stH := bar9.stay hP.mut
        exact ⟨av, dx, t0, ys0, e0, bar9 _ _ nav i1, stH.seq i2, stH.dpAll _ _ (okDs_rd S) i3⟩
      have bar10 := bar9.trans (.same s10)
      have pu10 := pu9.same s10
      have hls10 : H9 D = some (.lst ls) := s10 _ _ (s9 _ _ (bar8 _ _ nDp hls))
      have hld10 := ((bar8.stay pu.mut).trans ((Stay.same s9).trans (Stay.same s10))).dpAll _ _ (okDs_wd _) hld
      refine ⟨_, rfl, ite2 (fun e => ?_) (fun e => ?_)⟩
      · have lsl : ls.length = Ls.length := by rw [dpAll_len hld, List.length_map]
        have stp : Stay H9 (upd H9 D (.lst (ls ++ [.ref t3]))) := Stay.put (by rw [hls10]; exact True.intro) _
        refine ⟨.ref D, rfl, .inl ⟨rfl, _, SqL.of hls10⟩, .ref t3, rfl, D, ls, .ref t3, rfl, rfl, hls10, small_line' (by omega), ?_⟩
        refine ⟨⟨_, _, _, rfl⟩, bar10.put hD0, (pu10.put nDp).le (by omega), ls ++ [.ref t3], Ls ++ [zs], upd_same, ?_, fun x hx => ?_, by rw [List.length_append]; omega, by rw [List.length_append, List.length_singleton]; omega⟩
        · rw [List.map_append]
          exact dpAll_app (stp.dpAll _ _ (okDs_wd _) hld10) (.cons (stp.wd (to_wd (same_tup s10 (SqT.of upd_same)))) .nil)
        · rcases List.mem_append.mp hx with hx | hx
          · exact hlb x hx
          · rw [List.mem_singleton.mp hx]
            exact ⟨hw, hsub8, e⟩
      · exact ⟨⟨_, _, _, rfl⟩, bar10, pu10.le (by omega), ls, Ls, hls10, hld10, hlb, l2, by omega⟩
  · obtain ⟨⟨y5', y6, y7, rfl⟩, bar, pu, hl⟩ := h
    exact ⟨.ref D, rfl, q H7 D bar (pu.le (by omega)) hD0 hl⟩
end
end Rw
namespace Rw
open PySem PySem.Spec PyProof.Rows L2
/-! ### the answers of a split program, found by the law -/
/-- a list that tells every answer once, sorted -/
theorem sorted_ans {S : List Rl} {ns : W} {X ts us : List W} (hw : IsW ns) (hm : ∀ z, z ∈ ns ↔ z ∈ namesL S) (snd : ∀ x ∈ X, x.Nodup ∧ AnP S fun z => z ∈ x) (all : ∀ T : Str → Prop, AnP S T → ∃ x ∈ X, ∀ z, z ∈ x ↔ T z) (one : X.Pairwise fun x y => ¬ ∀ z, z ∈ x ↔ z ∈ y)
    (hp : Paired SortOf X ts) (pm : us.Perm ts) (ris : Rising (us.map wd)) : us = (everyW ns).filter (fdB S ns) := by
  have nin : ∀ r ∈ S, NIn ns r := fun r hr t ht z hz => (hm z).mpr (List.mem_flatMap.mpr ⟨r, hr, own_mem.mpr ⟨t, ht, hz⟩⟩)
  have upx : ∀ x ∈ X, ∀ y, SortOf x y → UpX y ∧ ∀ z, z ∈ y ↔ z ∈ x := fun x hx y q => ⟨upX_of q.2 (q.1.nodup_iff.mpr (snd x hx).1), fun z => q.1.mem_iff⟩
  have nts : ts.Nodup := by
    have pw := paired_pw (R' := fun (a b : W) => a ≠ b) (fun x y x' y' q1 q2 ne e => ne fun z => by
      rw [← q1.1.mem_iff, ← q2.1.mem_iff, e]) hp one
    exact pw
  have nd := every_nodup (upX_nodup hw.up)
  refine worlds_one ris (List.pairwise_map.mpr ((List.pairwise_map.mp (every_rising hw.up)).sublist List.filter_sublist)) (pm.nodup_iff.mpr nts) (nd.sublist List.filter_sublist) fun y => ?_
  rw [pm.mem_iff, List.mem_filter]
  constructor
  · intro hy
    obtain ⟨x, hx, q⟩ := paired_mem hp y hy
    obtain ⟨_, x3⟩ := snd x hx
    obtain ⟨uy, my⟩ := upx x hx y q
    have sub : ∀ z ∈ y, z ∈ ns := fun z hz => by
      obtain ⟨r, hr, hz1⟩ := an_heads x3 z ((my z).mp hz)
      exact nin r hr r.1 (by unfold parts; simp) z hz1
    have sl : y.Sublist ns := by
      have e : ns.filter (fun z => decide (z ∈ y)) = y := upX_one (hw.up.sublist List.filter_sublist) uy fun z => by
        rw [List.mem_filter, decide_eq_true_iff]
        exact ⟨fun q => q.2, fun q => ⟨sub z q, q⟩⟩
      rw [← e]
      exact List.filter_sublist
    have hye := mem_every.mpr sl
    refine ⟨hye, (fd_An hw nin hye).mpr ?_⟩
    have e : (fun z => z ∈ y) = fun z => z ∈ x := funext fun z => propext (my z)
    rw [e]
    exact x3
  · rintro ⟨hy, hf⟩
    obtain ⟨x, hx, mx⟩ := all _ ((fd_An hw nin hy).mp hf)
    obtain ⟨y', hy', q⟩ := paired_left hp x hx
    obtain ⟨uy, my⟩ := upx x hx y' q
    have : y' = y := upX_one uy (List.Pairwise.sublist (mem_every.mp hy) hw.up) fun z => (my z).trans (mx z)
    rw [← this]
    exact hy'
/-- the answers of a program, as worlds: each is one, every one is there -/
theorem told_An {S : List Rl} {ns : W} (hw : IsW ns) (hm : ∀ z, z ∈ ns ↔ z ∈ namesL S) {x : W} : x ∈ (everyW ns).filter (fdB S ns) ↔ x.Sublist ns ∧ AnP S fun z => z ∈ x := by
  have nin : ∀ r ∈ S, NIn ns r := fun r hr t ht z hz => (hm z).mpr (List.mem_flatMap.mpr ⟨r, hr, own_mem.mpr ⟨t, ht, hz⟩⟩)
  rw [List.mem_filter]
  constructor
  · rintro ⟨h1, h2⟩
    exact ⟨mem_every.mp h1, (fd_An hw nin h1).mp h2⟩
  · rintro ⟨h1, h2⟩
    have h1 := mem_every.mpr h1
    exact ⟨h1, (fd_An hw nin h1).mpr h2⟩
theorem told_all {S : List Rl} {ns : W} (hw : IsW ns) (hm : ∀ z, z ∈ ns ↔ z ∈ namesL S) {T : Str → Prop} (h : AnP S T) : ∃ x ∈ (everyW ns).filter (fdB S ns), ∀ z, z ∈ x ↔ T z := by
  obtain ⟨s, s1, s2⟩ := cut_of ns T fun z hz => by
    obtain ⟨r, hr, hz1⟩ := an_heads h z hz
    exact (hm z).mpr (List.mem_flatMap.mpr ⟨r, hr, own_mem.mpr ⟨r.1, by unfold parts; simp, hz1⟩⟩)
  exact ⟨s, (told_An hw hm).mpr ⟨s1, by rw [pred_eq s2]; exact h⟩, s2⟩
/-- the unions of some answers of the lower part and those of the rests after them -/
structure XOk (S : List Rl) (lot : W) (As X : List W) : Prop where
  snd : ∀ x ∈ X, ∃ a ∈ As, ∃ m : W, x = a ++ m ∧ m.Nodup ∧ (∀ z ∈ m, z ∉ lot) ∧ AnP (restL S lot a) fun z => z ∈ m
  all : ∀ a ∈ As, ∀ T : Str → Prop, AnP (restL S lot a) T → ∃ m : W, a ++ m ∈ X ∧ ∀ z, z ∈ m ↔ T z
  one : X.Pairwise fun x y => ¬ ∀ z, z ∈ x ↔ z ∈ y
theorem XOk.nil {S : List Rl} {lot : W} : XOk S lot [] [] := ⟨(fun _ h => nomatch h), (fun _ h => nomatch h), List.Pairwise.nil⟩
theorem rest_out {S : List Rl} {lot a : W} : ∀ r ∈ restL S lot a, ∀ z ∈ own r, z ∉ lot := fun r hr z hz => by
  unfold restL at hr
  obtain ⟨q, _, rfl⟩ := List.mem_map.mp hr
  have : z ∈ q.1 ∧ z ∉ lot ∨ z ∈ q.2.1 ∧ z ∉ lot ∨ z ∈ q.2.2.1 ∧ z ∉ lot ∨ z ∈ q.2.2.2 ∧ z ∉ lot := by
    have h := mem_own.mp hz
    unfold lessR at h
    rcases h with h | h | h | h
    · exact .inl (mem_minus.mp h)
    · exact .inr (.inl (mem_minus.mp h))
    · exact .inr (.inr (.inl (mem_minus.mp h)))
    · exact .inr (.inr (.inr (mem_minus.mp h)))
  rcases this with h | h | h | h <;> exact h.2
theorem XOk.snoc {S S3 : List Rl} {lot a ns3 : W} {As X : List W} (h : XOk S lot As X) (hA : ∀ b ∈ As ++ [a], UpX b ∧ ∀ z ∈ b, z ∈ lot) (ne : ∀ b ∈ As, b ≠ a) (hw3 : IsW ns3) (hm3 : ∀ z, z ∈ ns3 ↔ z ∈ namesL S3) (e3 : ∀ r, r ∈ S3 ↔ r ∈ restL S lot a) :
    XOk S lot (As ++ [a]) (X ++ ((everyW ns3).filter (fdB S3 ns3)).map fun m => a ++ m) := by
  have out : ∀ m ∈ (everyW ns3).filter (fdB S3 ns3), UpX m ∧ (∀ z ∈ m, z ∉ lot) ∧ AnP (restL S lot a) fun z => z ∈ m := fun m hm => by
    obtain ⟨h1, h2⟩ := (told_An hw3 hm3).mp hm
    refine ⟨List.Pairwise.sublist h1 hw3.up, fun z hz => ?_, (an_congr e3 _).mp h2⟩
    obtain ⟨r, hr, hz1⟩ := an_heads h2 z hz
    exact rest_out r ((e3 r).mp hr) z (mem_own.mpr (.inl hz1))
  obtain ⟨ua, sa⟩ := hA a (by simp)
  refine ⟨fun x hx => ?_, fun b hb T hT => ?_, List.pairwise_append.mpr ⟨h.one, ?_, fun x hx y hy e => ?_⟩⟩
  · rcases List.mem_append.mp hx with hx | hx
    · obtain ⟨b, hb, m, e⟩ := h.snd x hx
      exact ⟨b, List.mem_append_left _ hb, m, e⟩
    · obtain ⟨m, hm, rfl⟩ := List.mem_map.mp hx
      obtain ⟨o1, o2, o3⟩ := out m hm
      exact ⟨a, by simp, m, rfl, upX_nodup o1, o2, o3⟩
  · rcases List.mem_append.mp hb with hb | hb
    · obtain ⟨m, h1, h2⟩ := h.all b hb T hT
      exact ⟨m, List.mem_append_left _ h1, h2⟩
    · rw [List.mem_singleton.mp hb] at hT ⊢
      obtain ⟨m, h1, h2⟩ := told_all hw3 hm3 ((an_congr e3 _).mpr hT)
      exact ⟨m, List.mem_append_right _ (List.mem_map.mpr ⟨m, h1, rfl⟩), h2⟩
  · refine List.pairwise_map.mpr (((every_nodup (upX_nodup hw3.up)).sublist List.filter_sublist).imp_of_mem fun {m n} hm hn ne e => ne ?_)
    obtain ⟨um, om, _⟩ := out m hm
    obtain ⟨un, on, _⟩ := out n hn
    refine upX_one um un fun z => ?_
    have q := e z
    rw [List.mem_append, List.mem_append] at q
    exact ⟨fun c => (q.mp (.inr c)).elim (fun d => absurd (sa z d) (om z c)) id, fun c => (q.mpr (.inr c)).elim (fun d => absurd (sa z d) (on z c)) id⟩
  · obtain ⟨b, hb, m, rfl, _, om, _⟩ := h.snd x hx
    obtain ⟨n, hn, rfl⟩ := List.mem_map.mp hy
    obtain ⟨un, on, _⟩ := out n hn
    obtain ⟨ub, sb⟩ := hA b (List.mem_append_left _ hb)
    refine ne b hb (upX_one ub ua fun z => ?_)
    have q := e z
    rw [List.mem_append, List.mem_append] at q
    exact ⟨fun c => (q.mp (.inl c)).elim id fun d => absurd (sb z c) (on z d), fun c => (q.mpr (.inl c)).elim id fun d => absurd (sa z c) (om z d)⟩
theorem mem_lower {S : List Rl} {lot : W} {r : Rl} : r ∈ lowerL S lot ↔ r ∈ S ∧ ∀ z ∈ own r, z ∈ lot := by
  unfold lowerL sub
  rw [List.mem_filter, List.all_eq_true]
  exact and_congr_right fun _ => forall_congr' fun z => forall_congr' fun _ => decide_eq_true_iff
theorem mem_upper {S : List Rl} {lot : W} {r : Rl} : r ∈ upperL S lot ↔ r ∈ S ∧ ¬ ∀ z ∈ own r, z ∈ lot := by
  have e : r ∈ upperL S lot ↔ r ∈ S ∧ r ∉ lowerL S lot := by
    unfold upperL lowerL
    rw [List.mem_filter, List.mem_filter]
    cases sub (own r) lot <;> simp
  rw [e, mem_lower]
  exact and_congr_right fun h => not_congr ⟨fun q => q.2, fun q => ⟨h, q⟩⟩
theorem XOk.done {S S2 : List Rl} {lot ns2 : W} {X : List W} (hsp : splitsB S lot = true) (hw2 : IsW ns2) (hm2 : ∀ z, z ∈ ns2 ↔ z ∈ namesL S2) (e2 : ∀ r, r ∈ S2 ↔ r ∈ lowerL S lot) (h : XOk S lot ((everyW ns2).filter (fdB S2 ns2)) X) :
    (∀ x ∈ X, x.Nodup ∧ AnP S fun z => z ∈ x) ∧ (∀ T : Str → Prop, AnP S T → ∃ x ∈ X, ∀ z, z ∈ x ↔ T z) := by
  have hS : ∀ r, r ∈ S ↔ r ∈ lowerL S lot ∨ r ∈ upperL S lot := fun r => by
    rw [mem_lower, mem_upper]
    exact ⟨fun q => (Classical.em (∀ z ∈ own r, z ∈ lot)).elim (fun c => .inl ⟨q, c⟩) fun c => .inr ⟨q, c⟩, fun q => q.elim (·.1) (·.1)⟩
  have hA : ∀ r ∈ lowerL S lot, ∀ z ∈ own r, z ∈ lot := fun r hr => (mem_lower.mp hr).2
  have hB : ∀ r ∈ upperL S lot, ∀ z ∈ r.1, z ∉ lot := fun r hr z hz hm => by
    obtain ⟨h1, h2⟩ := mem_upper.mp hr
    exact h2 (splits_iff.mp hsp r h1 ⟨z, hz, hm⟩)
  have key : ∀ (T : Str → Prop) (a : W), (∀ z, z ∈ a ↔ T z ∧ z ∈ lot) → (AnP S T ↔ AnP (lowerL S lot) (fun z => z ∈ a) ∧ AnP (restL S lot a) fun z => T z ∧ z ∉ lot) := fun T a ha => split_an hS hA hB ha
  have al : ∀ a ∈ (everyW ns2).filter (fdB S2 ns2), a.Nodup ∧ (∀ z ∈ a, z ∈ lot) ∧ AnP (lowerL S lot) fun z => z ∈ a := fun a ha => by
    obtain ⟨h1, h2⟩ := (told_An hw2 hm2).mp ha
    refine ⟨(upX_nodup hw2.up).sublist h1, fun z hz => ?_, (an_congr e2 _).mp h2⟩
    obtain ⟨r, hr, hz1⟩ := an_heads h2 z hz
    exact hA r ((e2 r).mp hr) z (mem_own.mpr (.inl hz1))
  refine ⟨fun x hx => ?_, fun T hT => ?_⟩
  · obtain ⟨a, ha, m, rfl, nm, om, am⟩ := h.snd x hx
    obtain ⟨na, sa, aa⟩ := al a ha
    refine ⟨List.nodup_append.mpr ⟨na, nm, fun z hz y hy e => om y hy (e ▸ sa z hz)⟩, (key _ a fun z => ?_).mpr ⟨aa, ?_⟩⟩
    · rw [List.mem_append]
      exact ⟨fun q => ⟨.inl q, sa z q⟩, fun q => q.1.elim id fun d => absurd q.2 (om z d)⟩
    · have e : (fun z => z ∈ a ++ m ∧ z ∉ lot) = fun z => z ∈ m := by
        funext z
        rw [List.mem_append]
        exact propext ⟨fun q => q.1.elim (fun d => absurd (sa z d) q.2) id, fun q => ⟨.inr q, om z q⟩⟩
      rw [e]
      exact am
  · obtain ⟨ws, w1, w2⟩ := cut_of lot (fun z => T z ∧ z ∈ lot) fun z q => q.2
    obtain ⟨a1, _⟩ := (key T ws w2).mp hT
    obtain ⟨a, ha, ma⟩ := told_all hw2 hm2 ((an_congr e2 _).mpr a1)
    have w3 : ∀ z, z ∈ a ↔ T z ∧ z ∈ lot := fun z => (ma z).trans (w2 z)
    obtain ⟨_, a3⟩ := (key T a w3).mp hT
    obtain ⟨m, hm, mm⟩ := h.all a ha _ a3
    refine ⟨a ++ m, hm, fun z => ?_⟩
    rw [List.mem_append, w3 z, mm z]
    exact ⟨fun q => q.elim (·.1) (·.1), fun q => (Classical.em (z ∈ lot)).elim (fun c => .inl ⟨q, c⟩) fun c => .inr ⟨q, c⟩⟩
end Rw
namespace Rw
open PySem PySem.Spec PyProof.Rows L2
/-! ### _law_right -/
abbrev nLawRight : List Str := ["sheet", "lot", "found", "low", "due", "world", "high", "name", "other"]
theorem scLawRight : FnScope nLawRight ["sheet", "lot", "found"] (defScope sLawRight) := ⟨rfl, rfl, rfl, by decide +kernel, rfl, by decide +kernel, by decide +kernel⟩
theorem empty_ne {K : PySem.W.Frag} {H : Hp} {l e : Addr} {Q : VK} (hl : H l = some (.lst [])) (he : H e = some (.lst [])) (q : Q (.bl false) H) : rNeD K (.ref l) (.ref e) H Q :=
  ⟨.list [], .list [], .lst (SqL.of hl) .nil, .lst (SqL.of he) .nil, by decide +kernel, by decide +kernel, q⟩
theorem shaped_wds {A : List W} (h : ∀ t ∈ A, IsW t) : SeqAt.shaped (.list (A.map wd)) = true := by
  refine shaped_of ?_ ?_
  · rw [PyData.canLay0]
    exact lay_wds h
  · rw [PyData.depth]
    have := depthAll_wd A
    omega
theorem eqv_wdsL (A B : List W) : PyData.eqv (.list (A.map wd)) (.list (B.map wd)) = decide (A = B) := by
  rw [PyData.eqv, eqv_wds]
theorem ne_wds {K : PySem.W.Frag} {H : Hp} {l e : Addr} {A B : List W} {Q : VK} (hl : WLs K H l A) (he : WLs K H e B) (hA : ∀ t ∈ A, IsW t) (hB : ∀ t ∈ B, IsW t) (q : Q (.bl (!decide (A = B))) H) : rNeD K (.ref l) (.ref e) H Q := by
  obtain ⟨xs, h1, h2⟩ := hl
  obtain ⟨ys, g1, g2⟩ := he
  refine ⟨.list (A.map wd), .list (B.map wd), .lst (SqL.of h1) h2, .lst (SqL.of g1) g2, shaped_wds hA, shaped_wds hB, ?_⟩
  rw [eqv_wdsL]
  exact q
theorem eq_wds {K : PySem.W.Frag} {H : Hp} {l e : Addr} {A B : List W} {Q : VK} (hl : WLs K H l A) (he : WLs K H e B) (hA : ∀ t ∈ A, IsW t) (hB : ∀ t ∈ B, IsW t) (q : Q (.bl (decide (A = B))) H) : rEqD K (.ref l) (.ref e) H Q := by
  obtain ⟨xs, h1, h2⟩ := hl
  obtain ⟨ys, g1, g2⟩ := he
  refine ⟨.list (A.map wd), .list (B.map wd), .lst (SqL.of h1) h2, .lst (SqL.of g1) g2, shaped_wds hA, shaped_wds hB, ?_⟩
  rw [eqv_wdsL]
  exact q
theorem paired_app {α β : Type} {F : α → β → Prop} {l' : List α} {m' : List β} (q : Paired F l' m') : ∀ {l : List α} {m : List β}, Paired F l m → Paired F (l ++ l') (m ++ m')
  | _, _, .nil => q
  | _, _, .cons r t => .cons r (paired_app q t)
theorem Srt.all {S L : List Rl} (h : Srt S L) (p : Rl → Prop) (hl : ∀ r ∈ L, p r) : ∀ r ∈ S, p r := fun r hr => hl r ((h.mem r).mp hr)
section
variable {P : Program} {w : World} {K : PySem.W.Frag} {mg : Str → Option Value} {base : Heap} {f : Addr} {fd : FuncData} {k : Nat}
theorem lower_told {C CP CW CS : Addr} {v nm : V} {H : Hp} {S : List Rl} {lot : W} {Q : VK} {E : XK} (hS : PgAt K C H v S) (hI : ∀ r ∈ S, IsR r) (few : S.length < 76) (hd : Dp K H nm (wd lot)) (hw : IsW lot) (hsp : splitsB S lot = true)
    (q : ∀ H2 u S2, Same H H2 → Srt S2 (lowerL S lot) → S2.length < 76 → PgAt K C H2 u S2 → Q u H2) : spLower K C CP CW CS [v, nm] H Q E :=
  ⟨v, nm, rfl, .inl ⟨S, wd lot, hS, hI, few, hd, oddW_wd hw, fun H1 s1 => ⟨fun ms hm e => ⟨fun _ H2 u S2 s2 h1 h2 h3 => q H2 u S2 (s1.trans s2) (by rw [wd_inj e]; exact h1) h2 h3, fun no => by rw [← wd_inj e, hsp] at no; cases no⟩, fun no => (worldD_no hw no).elim⟩⟩⟩
theorem rest_told {C CP CW CS : Addr} {v nm wv : V} {H : Hp} {S : List Rl} {lot ws : W} {Q : VK} {E : XK} (hS : PgAt K C H v S) (hI : ∀ r ∈ S, IsR r) (few : S.length < 76) (hd : Dp K H nm (wd lot)) (hw : IsW lot) (hsp : splitsB S lot = true) (hv : Dp K H wv (wd ws)) (hws : IsW ws) (hsub : sub ws lot = true)
    (q : ∀ H2 u S2, Same H H2 → Srt S2 (restL S lot ws) → S2.length < 76 → PgAt K C H2 u S2 → Q u H2) : spRest K C CP CW CS [v, nm, wv] H Q E :=
  ⟨v, nm, wv, wd ws, rfl, hv, oddW_wd hws, .inl ⟨S, wd lot, hS, hI, few, hd, oddW_wd hw, fun H1 s1 => ⟨fun ms hm e => ⟨fun _ H2 s2 => ⟨fun ws' hws' e' hs' H3 u S2 s3 h1 h2 h3 => q H3 u S2 (s1.trans (s2.trans s3)) (by rw [wd_inj e, wd_inj e']; exact h1) h2 h3, fun no => absurd (no ws hws rfl) (by rw [← wd_inj e, hsub]; exact fun z => nomatch z)⟩, fun no => by rw [← wd_inj e, hsp] at no; cases no⟩, fun no => (worldD_no hw no).elim⟩⟩⟩
theorem answers_told {C CP : Addr} {v : V} {H : Hp} {S : List Rl} {bd : W} {Q : VK} {E : XK} (hS : PgAt K C H v S) (hI : ∀ r ∈ S, IsR r) (few : S.length < 76) (hbd : ∀ z ∈ namesL S, z ∈ bd) (lbd : bd.length ≤ 10)
    (q : ∀ H' l ns, Same H H' → IsW ns → (∀ z, z ∈ ns ↔ z ∈ namesL S) → WLs K H' l ((everyW ns).filter (fdB S ns)) → Q (.ref l) H') : spAnswers K C CP [v] H Q E :=
  ⟨v, rfl, .inl ⟨S, bd, hS, hI, few, hbd, lbd, fun H' l ns s _ h1 h2 h3 => q H' l ns s h1 h2 h3⟩⟩
def spLawRight (K : PySem.W.Frag) (C : Addr) : Sp := fun vs H Q _ => ∃ (v x : V) (l : Addr) (S : List Rl) (lot bd ns : W), vs = [v, x, .ref l] ∧ PgAt K C H v S ∧ (∀ r ∈ S, IsR r) ∧ S.length < 76 ∧ Dp K H x (wd lot) ∧ IsW lot ∧ splitsB S lot = true ∧ (∀ z ∈ namesL S, z ∈ bd) ∧ bd.length ≤ 6 ∧ (∀ z ∈ lot, z ∈ bd) ∧
  IsW ns ∧ (∀ z, z ∈ ns ↔ z ∈ namesL S) ∧ WLs K H l ((everyW ns).filter (fdB S ns)) ∧ ∀ H', Same H H' → Q (.bl true) H'
theorem ok_lawRight {C CP CW CS pN fN f1 f2 f3 : Addr} {fdN fd1 fd2 fd3 : FuncData} (F : Fun K "_law_right" "_law_right" sLawRight f fd) (T : Bl mg) (c : Cls K C) (hpN : PropOf K C "names" pN fN)
    (GN : FnOk P w K mg base CX0 k fN fdN ["self"] (spNames K C)) (bN : Binds K fdN ["self"] [])
    (G1 : FnOk P w K mg base (L2.CX P w) (k + 1) f1 fd1 ["program", "names"] (spLower K C CP CW CS)) (b1 : Binds K fd1 ["program", "names"] []) (k1 : PySem.W.keepIn K (.ref f1) = true) (m1 : mg "lower" = some (.ref f1))
    (G2 : FnOk P w K mg base (L2.CX P w) (k + 1) f2 fd2 ["program"] (spAnswers K C CP)) (b2 : Binds K fd2 ["program"] []) (k2 : PySem.W.keepIn K (.ref f2) = true) (m2 : mg "answers" = some (.ref f2))
    (G3 : FnOk P w K mg base (L2.CX P w) (k + 1) f3 fd3 ["program", "names", "world"] (spRest K C CP CW CS)) (b3 : Binds K fd3 ["program", "names", "world"] []) (k3 : PySem.W.keepIn K (.ref f3) = true) (m3 : mg "rest" = some (.ref f3)) :
    FnOk P w K mg base CX0 (k + 2) f fd ["sheet", "lot", "found"] (spLawRight K C) := by
  refine F.ok scLawRight (fun vs H Q E h => ?_) (fun cdv A outer s H vs Q E hr h => ?_)
  · obtain ⟨v, x, l, S, lot, bd, ns, rfl, _⟩ := h
    rfl
  obtain ⟨v, x, l, S, lot, bd, ns, rfl, hS, hI, few, hx, hlot, hsp, hbd, lbd, hlb, hns, hmem, hF, q⟩ := h
  refine ⟨_, pss_cons (ps_set (i := 3) scLawRight.nd rfl (.inl rfl) (pe_call G1 hr (by rfl) m1 k1 b1 .nil passNo (pa_cons (pv 0) (pa_cons (pv 1) pa_nil))))
    (pss_cons (ps_if (pt_cmpR (op_neD hr.units) (pe_lc (own := [("name", 7)]) (g := gName 7) (tt := tTest (tOp (rIn K true) (tVar 7) (tVar 1))) (te := tVar 7) (by rfl) scLawRight.nd (pi_tup (pe_prop (pv 3) c hpN GN hr bN .nil pass0 rfl)) (blkOk_by (N := nLawRight) (sc := defScope sLawRight) (by decide +kernel))
        (fun _ _ _ _ _ => pg_name (i := 7) scLawRight.nd rfl (Or.inl rfl)) (fun _ _ _ _ _ => pts_one (pt_cmpR (r := rIn K true) op_notIn_seq (pv 7) (pv 1) (by rfl))) (fun _ _ _ _ _ => pv 7)) (pe_lst pa_nil) (nomark _)) pss_never pss_nil)
    (pss_cons (ps_set (i := 4) scLawRight.nd rfl (.inl rfl) (pe_lst pa_nil))
    (pss_cons (ps_for PassesOwn.never rfl (pi_list (pe_call G2 hr (by rfl) m2 k2 b2 .nil passNo (pa_cons (pv 3) pa_nil))) (pg_name (i := 5) scLawRight.nd rfl (.inr rfl))
      (pss_cons (ps_set (i := 6) scLawRight.nd rfl (.inl rfl) (pe_call G3 hr (by rfl) m3 k3 b3 .nil passNo (pa_cons (pv 0) (pa_cons (pv 1) (pa_cons (pv 5) pa_nil)))))
      (pss_cons (ps_if (pt_cmpR (op_neD hr.units) (pe_lc (own := [("name", 7)]) (g := gName 7) (tt := tTest (tOp (rIn K false) (tVar 7) (tVar 1))) (te := tVar 7) (by rfl) scLawRight.nd (pi_tup (pe_prop (pv 6) c hpN GN hr bN .nil pass0 rfl)) (blkOk_by (N := nLawRight) (sc := defScope sLawRight) (by decide +kernel))
        (fun _ _ _ _ _ => pg_name (i := 7) scLawRight.nd rfl (Or.inl rfl)) (fun _ _ _ _ _ => pts_one (pt_cmpR (r := rIn K false) op_in_seq (pv 7) (pv 1) (by rfl))) (fun _ _ _ _ _ => pv 7)) (pe_lst pa_nil) (nomark _)) pss_never pss_nil)
      (pss_one (ps_set (i := 4) scLawRight.nd rfl (.inl rfl) (pe_op op_cat (pv 4) (pe_lc (own := [("other", 8)]) (g := gName 8) (te := tCB (rTup K) (tCons (tCB (rSortTT K) (tCons (tOp (rCatA K) (tVar 5) (tVar 8)) tNil)) tNil)) (by rfl) scLawRight.nd (pi_list (pe_call G2 hr (by rfl) m2 k2 b2 .nil passNo (pa_cons (pv 6) pa_nil))) (blkOk_by (N := nLawRight) (sc := defScope sLawRight) (by decide +kernel))
        (fun _ _ _ _ _ => pg_name (i := 8) scLawRight.nd rfl (Or.inl rfl)) (fun _ _ _ _ _ => pts_nil) (fun _ _ _ _ _ => pe_callTy (T := "tuple") (r := rTup K) call_tuple_of (by rfl) T.tuple (by decide +kernel) (pa_cons (pe_callB (r := rSortTT K) (cr_sortTT hr.units) (by rfl) T.sorted (by decide +kernel) (pa_cons (pe_op op_catA (pv 5) (pv 8)) pa_nil)) pa_nil)))))))))
    (pss_one (ps_ret (pe_cmpR (op_eqD hr.units) (pe_callB (r := rSortL K) (cr_sortL hr.units) (by rfl) T.sorted (by decide +kernel) (pa_cons (pv 4) pa_nil)) (pv 2) (nomark _))))))), ?_⟩
  obtain ⟨xa, rfl, hxa⟩ := of_wd hx
  -- low
  refine ⟨v, rfl, .ref xa, rfl, ?_⟩
  dsimp only [tNil]
  refine lower_told hS hI few hx hlot hsp fun H1 u S2 s1 hS2 few2 hu => ?_
  have e2 : ∀ r, r ∈ S2 ↔ r ∈ lowerL S lot := hS2.mem
  have hI2 : ∀ r ∈ S2, IsR r := fun r hr => hI r (mem_lower.mp ((e2 r).mp hr)).1
  have sub2 : ∀ z ∈ namesL S2, z ∈ lot := fun z hz => by
    obtain ⟨r, hr, hz⟩ := List.mem_flatMap.mp hz
    exact (mem_lower.mp ((e2 r).mp hr)).2 z hz
  have bd2 : ∀ z ∈ namesL S2, z ∈ bd := fun z hz => hlb z (sub2 z hz)
  obtain ⟨av2, dx2, t02, ys02, rfl, j1, j2, j3⟩ := id hu
  refine ⟨.ref av2, rfl, av2, dx2, _, rfl, j1, .ref av2, S2, bd, rfl, hu, hI2, bd2, by omega, fun H2 t own2 s2 ht hw2 hm2 => ?_⟩
  refine ⟨t, rfl, ⟨_, ht⟩, fun D hD => ?_⟩
  refine lc_tup (xs := own2.map V.str) (fun i H3 => Same H2 H3 ∧ H3 D = some (.lst [])) ⟨same_new hD _, upd_same⟩ (fun i H3 _ h => same_tup h.1 ht) (fun i y H3 hy h => ?_) (fun H3 h => ?_)
  · obtain ⟨sm, hd⟩ := h
    obtain ⟨z, hz, rfl⟩ := map_at hy
    have hzl : z ∈ lot := sub2 z ((hm2 z).mp (List.mem_of_getElem? hz))
    refine ⟨rfl, .str z, rfl, .ref xa, rfl, xa, lot.map V.str, rfl, .inr (same_tup (s1.trans (s2.trans sm)) hxa), rfl, flat_strs lot, _, rfl, ?_⟩
    rw [inV_str]
    refine ite2 (fun e => ?_) (fun _ => ⟨sm, hd⟩)
    rw [if_pos rfl, decide_eq_true hzl] at e
    cases e
  obtain ⟨sm3, hd3⟩ := h
  refine ⟨by show 0 ≤ sizeLine; decide, fun e0 he0 => ?_⟩
  have se := same_new he0 (.lst [])
  refine empty_ne (se _ _ hd3) upd_same ⟨false, rfl, iteF ?_⟩
  have s03 := s1.trans (s2.trans (sm3.trans se))
  have s23 := s2.trans (sm3.trans se)
  -- due
  refine ⟨by show 0 ≤ sizeLine; decide, fun D0 hD0 => ?_⟩
  have sD := same_new hD0 (.lst [])
  have s04 := s03.trans sD
  refine ⟨.ref av2, rfl, ?_⟩
  dsimp only [tNil]
  refine answers_told (hu.same (s23.trans sD)) hI2 few2 bd2 (by omega) fun H5 lA ns2 s5 hw2' hm2' hWA => ?_
  obtain ⟨yA, hlA, hyA⟩ := hWA
  have s05 := s04.trans s5
  have n2l : ns2.length ≤ 6 := Nat.le_trans (few_own hw2' hm2' bd2) lbd
  let As : List W := (everyW ns2).filter (fdB S2 ns2)
  have yAl : yA.length = As.length := by rw [dpAll_len hyA, List.length_map]
  have Asl : As.length ≤ 64 := by
    refine Nat.le_trans (List.length_filter_le _ _) ?_
    rw [every_len]
    exact Nat.le_trans (Nat.pow_le_pow_right (by decide) n2l) (by decide)
  have And : As.Nodup := (every_nodup (upX_nodup hw2'.up)).sublist List.filter_sublist
  have Aok : ∀ b ∈ As, UpX b ∧ ∀ z ∈ b, z ∈ lot := fun b hb => by
    obtain ⟨h1, h2⟩ := (told_An hw2' hm2').mp hb
    refine ⟨List.Pairwise.sublist h1 hw2'.up, fun z hz => ?_⟩
    exact sub2 z ((hm2' z).mp (h1.subset hz))
  have hA0 : H5 D0 = some (.lst []) := s5 _ _ upd_same
  refine ⟨lA, rfl, ⟨_, SqL.of hlA⟩, ?_⟩
  refine for_list (K := K) (D := { nx := _, rt := Q }) (xs := yA) (fun i σ H6 => (∃ (lD : Addr) (y5 y6 : Option V) (ys : List V) (ts X : List W), σ = [some v, some (.ref xa), some (.ref l), some (.ref av2), some (.ref lD), y5, y6, none, none] ∧ H6 lD = some (.lst ys) ∧ DpAll K H6 ys (ts.map wd) ∧ Paired SortOf X ts ∧ XOk S lot (As.take i) X ∧ ys.length ≤ 64 * i) ∧ Same H5 H6) ⟨⟨D0, _, _, [], [], [], rfl, hA0, .nil, .nil, XOk.nil, Nat.zero_le _⟩, fun _ _ e => e⟩ (fun i σ H6 _ h => SqL.of (h.2 _ _ hlA)) (fun i y σ H6 hy h => ?_) (fun σ H6 h => ?_)
  · obtain ⟨⟨lD, y5, y6, ys, ts, X, rfl, hlD, hys, hpa, hX, hyl⟩, sm⟩ := h
    obtain ⟨dd, hdd, hyd⟩ := dpAll_at' hyA hy
    obtain ⟨a, ha, rfl⟩ := map_at hdd
    have il : i < As.length := (List.getElem?_eq_some_iff.mp ha).1
    have haA := List.mem_of_getElem? ha
    obtain ⟨ua, sa⟩ := Aok a haA
    have asub := ((told_An hw2' hm2').mp haA).1
    have wa : IsW a := ⟨fun z hz => hlot.names z (sa z hz), ua, Nat.le_trans asub.length_le hw2'.few⟩
    have s06 := s05.trans sm
    obtain ⟨ya, rfl, hya⟩ := of_wd (dp_same sm _ _ hyd)
    have sua : sub a lot = true := by
      unfold sub
      rw [List.all_eq_true]
      exact fun z hz => decide_eq_true (sa z hz)
    -- high
    refine ⟨v, rfl, .ref xa, rfl, .ref ya, rfl, ?_⟩
    dsimp only [tNil]
    refine rest_told (hS.same s06) hI few (dp_same s06 _ _ hx) hlot hsp (to_wd hya) wa sua fun H7 u3 S3 s7 hS3 few3 hu3 => ?_
    have e3 : ∀ r, r ∈ S3 ↔ r ∈ restL S lot a := hS3.mem
    have hI3 : ∀ r ∈ S3, IsR r := fun r hr => restL_isR hI r ((e3 r).mp hr)
    have bd3 : ∀ z ∈ namesL S3, z ∈ bd ∧ z ∉ lot := fun z hz => by
      obtain ⟨r, hr, hz⟩ := List.mem_flatMap.mp hz
      have hr := (e3 r).mp hr
      refine ⟨?_, rest_out r hr z hz⟩
      unfold restL at hr
      obtain ⟨q0, hq0, rfl⟩ := List.mem_map.mp hr
      have hq := (List.mem_filter.mp (List.mem_filter.mp hq0).1).1
      refine hbd z (List.mem_flatMap.mpr ⟨q0, hq, ?_⟩)
      have hz : z ∈ own (lessR q0 lot) := hz
      rw [mem_own] at hz
      unfold lessR at hz
      refine mem_own.mpr ?_
      rcases hz with h | h | h | h
      · exact .inl (mem_minus.mp h).1
      · exact .inr (.inl (mem_minus.mp h).1)
      · exact .inr (.inr (.inl (mem_minus.mp h).1))
      · exact .inr (.inr (.inr (mem_minus.mp h).1))
    obtain ⟨av3, dx3, t03, ys03, rfl, g1, g2, g3⟩ := id hu3
    refine ⟨.ref av3, rfl, av3, dx3, _, rfl, g1, .ref av3, S3, bd, rfl, hu3, hI3, fun z hz => (bd3 z hz).1, by omega, fun H8 t3 own3 s8 ht3 hw3 hm3 => ?_⟩
    refine ⟨t3, rfl, ⟨_, ht3⟩, fun D9 hD9 => ?_⟩
    refine lc_tup (xs := own3.map V.str) (fun j H9 => Same H8 H9 ∧ H9 D9 = some (.lst [])) ⟨same_new hD9 _, upd_same⟩ (fun j H9 _ h => same_tup h.1 ht3) (fun j y H9 hy h => ?_) (fun H9 h => ?_)
    · obtain ⟨sm9, hd9⟩ := h
      obtain ⟨z, hz, rfl⟩ := map_at hy
      have hzl : z ∉ lot := (bd3 z ((hm3 z).mp (List.mem_of_getElem? hz))).2
      refine ⟨rfl, .str z, rfl, .ref xa, rfl, xa, lot.map V.str, rfl, .inr (same_tup (s06.trans (s7.trans (s8.trans sm9))) hxa), rfl, flat_strs lot, _, rfl, ?_⟩
      rw [inV_str]
      refine ite2 (fun e => ?_) (fun _ => ⟨sm9, hd9⟩)
      rw [if_neg (by decide), decide_eq_false hzl] at e
      cases e
    obtain ⟨sm9, hd9⟩ := h
    refine ⟨by show 0 ≤ sizeLine; decide, fun e1 he1 => ?_⟩
    have se1 := same_new he1 (.lst [])
    refine empty_ne (se1 _ _ hd9) upd_same ⟨false, rfl, iteF ?_⟩
    have s79 := s8.trans (sm9.trans se1)
    have s69 := s7.trans s79
    -- its answers
    refine ⟨.ref lD, rfl, .ref av3, rfl, ?_⟩
    dsimp only [tNil]
    refine answers_told (hu3.same s79) hI3 few3 (fun z hz => (bd3 z hz).1) (by omega) fun HA lB ns3 sA hw3' hm3' hWB => ?_
    obtain ⟨yB, hlB, hyB⟩ := hWB
    have n3l : ns3.length ≤ 6 := Nat.le_trans (few_own hw3' hm3' fun z hz => (bd3 z hz).1) lbd
    let Bs : List W := (everyW ns3).filter (fdB S3 ns3)
    have yBl : yB.length = Bs.length := by rw [dpAll_len hyB, List.length_map]
    have Bsl : Bs.length ≤ 64 := by
      refine Nat.le_trans (List.length_filter_le _ _) ?_
      rw [every_len]
      exact Nat.le_trans (Nat.pow_le_pow_right (by decide) n3l) (by decide)
    have s6A := s69.trans sA
    refine ⟨lB, rfl, ⟨_, SqL.of hlB⟩, fun DB hDB => ?_⟩
    refine lc_list (xs := yB) (fun j HB => Same HA HB ∧ ∃ zs ts', HB DB = some (.lst zs) ∧ DpAll K HB zs (ts'.map wd) ∧ Paired SortOf ((Bs.take j).map fun m => a ++ m) ts') ⟨same_new hDB _, [], [], upd_same, .nil, .nil⟩ (fun j HB _ h => SqL.of (h.1 _ _ hlB)) (fun j y HB hy h => ?_) (fun HB h => ?_)
    · obtain ⟨smB, zs, ts', hzs, hzd, hpb⟩ := h
      obtain ⟨dd, hdd, hyd⟩ := dpAll_at' hyB hy
      obtain ⟨m, hm, rfl⟩ := map_at hdd
      have jl : j < Bs.length := (List.getElem?_eq_some_iff.mp hm).1
      have msub := ((told_An hw3' hm3').mp (List.mem_of_getElem? hm)).1
      obtain ⟨mb, rfl, hmb⟩ := of_wd (dp_same smB _ _ hyd)
      have al := asub.length_le
      have ml := msub.length_le
      have n2f := hw2'.few
      refine ⟨rfl, .ref ya, rfl, .ref mb, rfl, catA_w (same_tup (s6A.trans smB) hya) hmb (small_line (by rw [List.length_map, List.length_map]; omega)) fun cc HC sC hc => ?_⟩
      refine ⟨cc, a ++ m, rfl, by rw [List.map_append]; exact hc, by rw [List.length_append]; omega, fun zy p9 pm9 rs9 hp9 => ?_⟩
      have q1 := same_new hp9 (.lst (zy.map V.str))
      refine ⟨p9, _, rfl, .inl ⟨SqL.of upd_same, fun t9 ht9 => ?_⟩⟩
      have q2 := same_new ht9 (.tup (zy.map V.str))
      have qq := sC.trans (q1.trans q2)
      have hz9 := qq _ _ hzs
      have hpl := hpb.length
      rw [List.length_map, List.length_take] at hpl
      have st := Stay.put (H := upd (upd HC p9 (.lst (zy.map V.str))) t9 (.tup (zy.map V.str))) (p := DB) (by rw [hz9]; exact True.intro) (.lst (zs ++ [.ref t9]))
      refine ⟨zs, hz9, small_line' (by rw [dpAll_len hzd, List.length_map]; omega), same_put (smB.trans qq) hDB, zs ++ [.ref t9], ts' ++ [zy], upd_same, ?_, ?_⟩
      · rw [List.map_append]
        exact dpAll_app (((Stay.same qq).trans st).dpAll _ _ (okDs_wd _) hzd) (.cons (st.wd (to_wd (SqT.of upd_same))) .nil)
      · rw [take_snoc hm, List.map_append]
        exact paired_snoc ⟨pm9, rs9⟩ hpb
    obtain ⟨smB, zs, ts', hzs, hzd, hpb⟩ := h
    rw [yBl, List.take_length] at hpb
    have s6B := s6A.trans smB
    have hlDB := s6B _ _ hlD
    have zl : zs.length ≤ 64 := by
      have := hpb.length
      rw [List.length_map] at this
      rw [dpAll_len hzd, List.length_map]
      omega
    refine ⟨lD, DB, ys, zs, rfl, rfl, hlDB, hzs, by rw [sizeLine_eq]; omega, fun p hp => ?_⟩
    have sp := same_new hp (.lst (ys ++ zs))
    refine ⟨⟨p, _, _, ys ++ zs, ts ++ ts', X ++ Bs.map fun m => a ++ m, rfl, upd_same, ?_, ?_, ?_, by rw [List.length_append]; omega⟩, sm.trans (s6B.trans sp)⟩
    · rw [List.map_append]
      exact dpAll_app (dpAll_same (s6B.trans sp) _ _ hys) (dpAll_same sp _ _ hzd)
    · exact paired_app hpb hpa
    · rw [take_snoc ha]
      refine hX.snoc (fun b hb => ?_) (fun b hb e => ?_) hw3' hm3' e3
      · rcases List.mem_append.mp hb with hb | hb
        · exact Aok b (List.mem_of_mem_take hb)
        · rw [List.mem_singleton.mp hb]
          exact ⟨ua, sa⟩
      · obtain ⟨j, hj, ej⟩ := List.mem_take_iff_getElem.mp hb
        have e3 : As[j]? = some a := List.getElem?_eq_some_iff.mpr ⟨by omega, by rw [ej, e]⟩
        have := nodup_at And e3 ha
        omega
  · obtain ⟨⟨lD, y5, y6, ys, ts, X, rfl, hlD, hys, hpa, hX, hyl⟩, sm⟩ := h
    rw [yAl, List.take_length] at hX
    obtain ⟨snd, all⟩ := hX.done hsp hw2' hm2' e2
    refine ⟨.ref lD, rfl, lD, ys, ts.map wd, rfl, SqL.of hlD, hys, fun d hd => ?_, fun d hd d' hd' => ?_, fun yv es p10 pm10 rs10 hyv hp10 => ?_⟩
    · obtain ⟨t, _, rfl⟩ := List.mem_map.mp hd
      exact good_wd t
    · obtain ⟨t, _, rfl⟩ := List.mem_map.mp hd
      obtain ⟨t', _, rfl⟩ := List.mem_map.mp hd'
      exact alike_wd t t'
    obtain ⟨us, rfl⟩ := maps_of (f := wd) (es := es) fun e he => by
      obtain ⟨t, _, et⟩ := List.mem_map.mp (pm10.mem_iff.mp he)
      exact ⟨t, et.symm⟩
    have pmu : us.Perm ts := perm_of_map (fun _ _ e => wd_inj e) pm10
    have eu := sorted_ans hns hmem snd all hX.one hpa pmu rs10
    have s10 := same_new hp10 (.lst yv)
    have sall := s05.trans (sm.trans s10)
    have isw : ∀ t ∈ (everyW ns).filter (fdB S ns), IsW t := fun t ht => by
      have h1 := mem_every.mp (List.mem_filter.mp ht).1
      exact ⟨fun z hz => hns.names z (h1.subset hz), List.Pairwise.sublist h1 hns.up, Nat.le_trans h1.length_le hns.few⟩
    have hF' : WLs K (upd H6 p10 (.lst yv)) l ((everyW ns).filter (fdB S ns)) := by
      obtain ⟨yf, f1, f2⟩ := hF
      exact ⟨yf, sall _ _ f1, dpAll_same sall _ _ f2⟩
    have hU : WLs K (upd H6 p10 (.lst yv)) p10 ((everyW ns).filter (fdB S ns)) := ⟨yv, upd_same, by rw [← eu]; exact dpAll_same s10 _ _ hyv⟩
    refine ⟨.ref l, rfl, eq_wds hU hF' isw isw ?_⟩
    rw [decide_eq_true rfl]
    exact q _ sall
end
end Rw
namespace Rw
open PySem PySem.Spec PyProof.Rows L2 ClX
/-! ### law -/
abbrev nLaw : List Str := ["script", "pool", "at", "purse", "letters", "turn", "sheet", "found", "lots", "lot", "one", "other", "both", "shared", "name", "world"]
theorem scLaw : FnScope nLaw ["script"] (defScope sLaw) := ⟨rfl, rfl, rfl, by decide +kernel, rfl, by decide +kernel, by decide +kernel⟩
def poolW : W := ["a", "b", "c", "d", "e", "z"]
theorem isW_pool : IsW poolW := ⟨by decide +kernel, by decide +kernel, by decide⟩
theorem cut_pool (m : Nat) : cutV (poolW.map V.str) none (some ((2 + m : Nat) : Int)) = (poolW.take (min (2 + m) 6)).map V.str := by
  unfold cutV
  rw [HT.sIx_nat]
  show ((poolW.map V.str).drop 0).take (_ - 0) = _
  rw [List.drop_zero, Nat.sub_zero, List.map_take]
  rfl
/-- a loop over zip of two lists, the first not longer -/
theorem for_zipS {K : PySem.W.Frag} {a b : Addr} {xs ys : List V} {g : TG} {tb : TS} {D : Ends} {σ : L2.St} {H : Hp} (hl : xs.length ≤ ys.length) (Pv : Nat → L2.St → Hp → Prop) (h0 : Pv 0 σ H) (hq : ∀ i σ H, Pv i σ H → SqL K H a xs ∧ SqL K H b ys)
    (hs : ∀ (i : Nat) (x y : V) (T : Addr) (σ : L2.St) (H : Hp), xs[i]? = some x → ys[i]? = some y → Pv i σ H → H T = none → g (.ref T) σ (upd H T (.tup [x, y])) fun σ2 H2 => tb { D with nx := Pv (i + 1), ct := Pv (i + 1), bk := D.nx } σ2 H2) (hd : ∀ σ H, Pv xs.length σ H → D.nx σ H) :
    ∃ W : Nat → Nat → L2.St → Hp → Prop, (∃ m, W 0 m σ H) ∧ ∀ i m σ H, W i m σ H →
      ((Itz K a b).stop i H ∧ D.nx σ H) ∨ ((Itz K a b).go i H ∧ ∃ N : L2.St → Hp → Prop, (∀ σ' H', N σ' H' → ∃ m', m' < m ∧ W (i + 1) m' σ' H') ∧ ∀ v H', (Itz K a b).yld i H v H' → g v σ H' fun σ2 H2 => tb { D with nx := N, ct := N, bk := D.nx } σ2 H2) := by
  refine ⟨fun i m σ H => m = xs.length - i ∧ i ≤ xs.length ∧ Pv i σ H, ⟨xs.length, rfl, Nat.zero_le _, h0⟩, fun i m σ H hw => ?_⟩
  obtain ⟨rfl, hi, p⟩ := hw
  have qs := hq i σ H p
  rcases Nat.lt_or_ge i xs.length with hlt | hge
  · have hlt2 : i < ys.length := Nat.lt_of_lt_of_le hlt hl
    refine .inr ⟨⟨xs, ys, _, _, qs.1, qs.2, List.getElem?_eq_getElem hlt, List.getElem?_eq_getElem hlt2⟩, Pv (i + 1), fun σ' H' p' => ⟨xs.length - (i + 1), by omega, rfl, hlt, p'⟩, fun v H' y => ?_⟩
    obtain ⟨T, x', y', rfl, hT, rfl, f1, f2⟩ := y
    exact hs i x' y' T σ H (f1 xs qs.1) (f2 ys qs.2) p hT
  · have e : i = xs.length := Nat.le_antisymm hi hge
    exact .inl ⟨⟨xs, ys, qs.1, qs.2, Or.inl hge⟩, hd σ H (e ▸ p)⟩
theorem cut_tl (xs : List V) : cutV xs (some 1) none = xs.drop 1 := by
  unfold cutV
  rw [show (some (1 : Int)) = some ((1 : Nat) : Int) from rfl, HT.sIx_nat]
  show (xs.drop (min 1 xs.length)).take (xs.length - min 1 xs.length) = _
  cases xs with
  | nil => rfl
  | cons x xs =>
    have e : min 1 (x :: xs).length = 1 := by rw [List.length_cons]; omega
    rw [e, List.take_of_length_le (by rw [List.length_drop]; exact Nat.le_refl _)]
theorem cut_hd (xs : List V) : cutV xs none (some 1) = xs.take 1 := by
  unfold cutV
  rw [show (some (1 : Int)) = some ((1 : Nat) : Int) from rfl, HT.sIx_nat]
  show (xs.drop 0).take (min 1 xs.length - 0) = _
  rw [List.drop_zero, Nat.sub_zero]
  cases xs with
  | nil => rfl
  | cons x xs =>
    have e : min 1 (x :: xs).length = 1 := by rw [List.length_cons]; omega
    rw [e]
section
variable {P : Program} {w : World} {K : PySem.W.Frag} {mg : Str → Option Value} {base : Heap} {f : Addr} {fd : FuncData} {k : Nat}
def spLaw (K : PySem.W.Frag) : Sp := fun vs H Q _ => ∃ (a : Addr) (ns : List Int), vs = [.ref a] ∧ SqL K H a (ns.map V.int) ∧ ns.length ≤ 63 ∧ ∀ H', Q (.bl true) H'
theorem ok_law {C CP CW pO fO fW f1 f2 f3 f4 f5 f6 f7 : Addr} {mc : Value} {fdW fd1 fd2 fd3 fd4 fd5 fd6 fd7 : FuncData} (F : Fun K "law" "law" sLaw f fd) (T : Bl mg) (Tz : mg "zip" = none) (mC : mg "Program" = some (.ref C)) (cr : CRead K C mc) (cm : CMet K C mc "of" pO fO) (GO : FnR P w K mg base CX0 (k + 1) fO (spOf K C))
    (GW : CFn P w K mg base k fW fdW ["program"] (spAllAns K C)) (bW : Binds K fdW ["program"] []) (kW : PySem.W.keepIn K (.ref fW) = true) (mW : mg "all_answers" = some (.ref fW))
    (G1 : FnOk P w K mg base CX0 (k + 1) f1 fd1 ["script", "at"] (spLawPurse K)) (b1 : Binds K fd1 ["script", "at"] []) (k1 : PySem.W.keepIn K (.ref f1) = true) (m1 : mg "_law_purse" = some (.ref f1))
    (G2 : FnOk P w K mg base CX0 (k + 1) f2 fd2 ["purse", "out_of"] spLawDraw) (b2 : Binds K fd2 ["purse", "out_of"] []) (k2 : PySem.W.keepIn K (.ref f2) = true) (m2 : mg "_law_draw" = some (.ref f2))
    (G3 : FnOk P w K mg base CX0 (k + 1) f3 fd3 ["purse", "names", "sort", "most"] (spLawRules K)) (b3 : Binds K fd3 ["purse", "names", "sort", "most"] []) (k3 : PySem.W.keepIn K (.ref f3) = true) (m3 : mg "_law_rules" = some (.ref f3))
    (G4 : FnOk P w K mg base (L2.CX P w) (k + 1) f4 fd4 ["program"] (spAnswers K C CP)) (b4 : Binds K fd4 ["program"] []) (k4 : PySem.W.keepIn K (.ref f4) = true) (m4 : mg "answers" = some (.ref f4))
    (G5 : FnOk P w K mg base CX0 (k + 1) f5 fd5 ["purse", "sheet", "letters"] (spLawLots K C)) (b5 : Binds K fd5 ["purse", "sheet", "letters"] []) (k5 : PySem.W.keepIn K (.ref f5) = true) (m5 : mg "_law_lots" = some (.ref f5))
    (G6 : FnOk P w K mg base (L2.CX P w) (k + 1) f6 fd6 ["program", "names"] (spSplits K C CP CW)) (b6 : Binds K fd6 ["program", "names"] []) (k6 : PySem.W.keepIn K (.ref f6) = true) (m6 : mg "splits" = some (.ref f6))
    (G7 : FnOk P w K mg base CX0 (k + 1) f7 fd7 ["sheet", "lot", "found"] (spLawRight K C)) (b7 : Binds K fd7 ["sheet", "lot", "found"] []) (k7 : PySem.W.keepIn K (.ref f7) = true) (m7 : mg "_law_right" = some (.ref f7)) :
    FnOk P w K mg base CX0 (k + 2) f fd ["script"] (spLaw K) := by
  refine F.ok scLaw (fun vs H Q E h => ?_) (fun cdv A outer s H vs Q E hr h => ?_)
  · obtain ⟨a, ns, rfl, _⟩ := h
    rfl
  obtain ⟨a, ns, rfl, hSq, hl, q⟩ := h
  have hrW : Room k (A.deeper (envOfC "law" (defScope sLaw) s.heap.objs.size f cdv)) := hr.mono (by omega)
  refine ⟨_, (pss_cons (ps_set (i := 1) scLaw.nd rfl (.inl rfl) (pe_lst (pa_cons pe_str (pa_cons pe_str (pa_cons pe_str (pa_cons pe_str (pa_cons pe_str (pa_cons pe_str pa_nil)))))))) (pss_cons (ps_for PassesOwn.never rfl (pi_range1 rfl T.range (pa_cons (pe_op op_add pe_int (pe_callB (call_min2 rfl) (by rfl) T.min (by decide +kernel) (pa_cons pe_int (pa_cons (pe_callB call_len_seq (by rfl) T.len PySem.boot_len (pa_cons (pv 0) pa_nil)) pa_nil)))) pa_nil)) (pg_name (i := 2) scLaw.nd rfl (.inl rfl)) (pss_cons (ps_set (i := 3) scLaw.nd rfl (.inl rfl) (pe_call G1 hr (by rfl) m1 k1 b1 .nil pass0 (pa_cons (pv 0) (pa_cons (pv 2) pa_nil)))) (pss_cons (ps_set (i := 4) scLaw.nd rfl (.inl rfl) (pe_slice sl_list (pv 1) po_none (po_some (pe_op op_add pe_int (pe_call G2 hr (by rfl) m2 k2 b2 .nil pass0 (pa_cons (pv 3) (pa_cons pe_int pa_nil))))))) (pss_one (ps_for PassesOwn.never rfl (pi_range1 rfl T.range (pa_cons pe_int pa_nil)) (pg_name (i := 5) scLaw.nd rfl (.inl rfl)) (pss_cons (ps_set (i := 6) scLaw.nd rfl (.inl rfl) (pe_cmeth (pe_glob (v := .ref C) (by rfl) mC rfl) cr cm GO hr pass0 (pa_cons (pe_call G3 hr (by rfl) m3 k3 b3 .nil pass0 (pa_cons (pv 3) (pa_cons (pv 4) (pa_cons (pe_op op_sub pe_int (pv 5)) (pa_cons pe_int pa_nil))))) pa_nil))) (pss_cons (ps_set (i := 7) scLaw.nd rfl (.inl rfl) (pe_call G4 hr (by rfl) m4 k4 b4 .nil passNo (pa_cons (pv 6) pa_nil))) (pss_cons (ps_set (i := 8) scLaw.nd rfl (.inl rfl) (pe_call G5 hr (by rfl) m5 k5 b5 .nil pass0 (pa_cons (pv 3) (pa_cons (pv 6) (pa_cons (pv 4) pa_nil))))) (pss_cons (ps_for PassesOwn.never rfl (pi_list (pv 8)) (pg_name (i := 9) scLaw.nd rfl (.inl rfl)) (pss_one (ps_if (PW.pt (pw_or (pt_not (pt_val (pe_call G6 hr (by rfl) m6 k6 b6 .nil passNo (pa_cons (pv 6) (pa_cons (pv 9) pa_nil))))) (pw_or1 (pt_not (pt_val (pe_call G7 hr (by rfl) m7 k7 b7 .nil pass0 (pa_cons (pv 6) (pa_cons (pv 9) (pa_cons (pv 7) pa_nil))))))))) pss_never pss_nil))) (pss_cons (ps_for PassesOwn.never rfl (pi_zip (by rfl) Tz (pa_cons (pv 8) (pa_cons (pe_op op_cat (pe_slice sl_list (pv 8) (po_some pe_int) po_none) (pe_slice sl_list (pv 8) po_none (po_some pe_int))) pa_nil))) (pg_tup (by rfl) (pgs_cons (pg_name (i := 10) scLaw.nd rfl (.inl rfl)) (pgs_cons (pg_name (i := 11) scLaw.nd rfl (.inr rfl)) pgs_nil))) (pss_cons (ps_set (i := 12) scLaw.nd rfl (.inl rfl) (pe_callTy (T := "tuple")  call_tuple_of (by rfl) T.tuple (by decide +kernel) (pa_cons (pe_callB (cr_sortX rfl hr.units) (by rfl) T.sorted (by decide +kernel) (pa_cons (pe_callTy (T := "set")  (cr_setX rfl hr.units) (by rfl) T.set (by decide +kernel) (pa_cons (pe_op op_catA (pv 10) (pv 11)) pa_nil)) pa_nil)) pa_nil))) (pss_cons (ps_set (i := 13) scLaw.nd rfl (.inl rfl) (pe_callTy (T := "tuple")  call_tuple_of (by rfl) T.tuple (by decide +kernel) (pa_cons (pe_lc (own := [("name", 14)]) (g := gName 14)  (by rfl) scLaw.nd (pi_tup (pv 10)) (blkOk_by (N := nLaw) (sc := defScope sLaw) (by decide +kernel)) (fun _ _ _ _ _ => (pg_name (i := 14) scLaw.nd rfl (Or.inl rfl))) (fun _ _ _ _ _ => pts_one (pt_cmpR (r := rIn K false) op_in_seq (pv 14) (pv 11) (by rfl))) (fun _ _ _ _ _ => (pv 14))) pa_nil))) (pss_one (ps_if (PW.pt (pw_or (pt_not (pt_val (pe_call G6 hr (by rfl) m6 k6 b6 .nil passNo (pa_cons (pv 6) (pa_cons (pv 12) pa_nil))))) (pw_or1 (pt_not (pt_val (pe_call G6 hr (by rfl) m6 k6 b6 .nil passNo (pa_cons (pv 6) (pa_cons (pv 13) pa_nil)))))))) pss_never pss_nil))))) (pss_one (ps_if (pt_cmpR (r := rNeD K) (op_neD hr.units) (pe_lcI (pgenC_call (dvs := []) GW hrW (by rfl) mW kW bW .nil (pa_cons (pv 6) pa_nil)) (by rfl) hr (by rfl) (by rfl)) (pv 7) (nomark _)) pss_never pss_nil)))))))))))) (pss_one (ps_ret pe_bl)))), ?_⟩
  refine ⟨by show 6 ≤ sizeLine; decide, fun e1 he1 => ?_⟩
  have s1 := same_new he1 (.lst (poolW.map V.str))
  let HP0 : Hp := upd H e1 (.lst (poolW.map V.str))
  obtain ⟨n0, hn0, hn1⟩ : ∃ n0 : Nat, (1 + (if ((ns.map V.int).length : Int) < 4 then ((ns.map V.int).length : Int) else 4)) = (n0 : Int) ∧ n0 ≤ 5 := by
    rw [List.length_map]
    by_cases c : (ns.length : Int) < 4
    · rw [if_pos c]
      exact ⟨1 + ns.length, by omega, by omega⟩
    · rw [if_neg c]
      exact ⟨5, by omega, by omega⟩
  refine ⟨.ref a, rfl, a, _, rfl, .inl (s1.seq hSq), 4, ((ns.map V.int).length : Int), rfl, _, _, rfl, rfl, _, rfl, ?_⟩
  rw [hn0]
  refine ⟨by omega, by omega, ?_⟩
  refine for_range (n := (n0 : Int).toNat) (fun i σ H1 => (∃ y2 y3 y4 y5 y6 y7 y8 y9 y10 y11 y12 y13, σ = [some (.ref a), some (.ref e1), y2, y3, y4, y5, y6, y7, y8, y9, y10, y11, y12, y13, none, none]) ∧ Same HP0 H1) ⟨⟨_, _, _, _, _, _, _, _, _, _, _, _, rfl⟩, fun _ _ e => e⟩ (fun i σ HA hi hI => ?_) (fun σ H1 hI => ?_)
  rotate_left
  · exact q _
  obtain ⟨⟨y2, y3, y4, y5, y6, y7, y8, y9, y10, y11, y12, y13, rfl⟩, smA⟩ := hI
  have hi5 : i < 5 := by omega
  -- the purse
  refine ⟨.ref a, rfl, .int (0 + (i : Int)), rfl, a, ns, i, ?_, (s1.trans smA).seq hSq, hl, by omega, fun HB p sAB hpn hP0 => ?_⟩
  · rw [Int.zero_add]
    rfl
  have up : ∀ H', Bar p HB H' → Same HP0 H' := fun H' b c u e => b c u (fun z => by
    have := smA _ _ e
    rw [z, hpn] at this
    cases this) (sAB _ _ (smA _ _ e))
  have hp1 : HB e1 = some (.lst (poolW.map V.str)) := (smA.trans sAB) _ _ upd_same
  have ne1 : e1 ≠ p := fun z => by
    have := smA _ _ (upd_same : HP0 e1 = _)
    rw [z, hpn] at this
    cases this
  -- the letters
  refine ⟨.ref e1, rfl, .ref p, rfl, p, 5, _, rfl, hP0, by omega, by decide, by decide, fun r us r0 r1 hP1 => ?_⟩
  obtain ⟨m, rfl⟩ := Int.eq_ofNat_of_zero_le r0
  have bar1 : Bar p HB (upd HB p (.lst us)) := .draw
  refine ⟨2, (m : Int), rfl, rfl, _, rfl, e1, _, rfl, SqL.of (bar1 _ _ ne1 hp1), fun lL hlL => ?_⟩
  have ec : cutV (poolW.map V.str) none (some (2 + (m : Int))) = (poolW.take (min (2 + m) 6)).map V.str := by
    have z := cut_pool m
    rw [show ((2 + m : Nat) : Int) = 2 + (m : Int) by omega] at z
    exact z
  let lets : W := poolW.take (min (2 + m) 6)
  let HC : Hp := upd (upd HB p (.lst us)) lL (.lst (cutV (poolW.map V.str) none (some (2 + (m : Int)))))
  have hL : HC lL = some (.lst (lets.map V.str)) := by
    show upd _ _ _ lL = _
    rw [upd_same, ec]
  have sC : Same (upd HB p (.lst us)) HC := same_new hlL _
  have barC : Bar p HB HC := bar1.trans (.same sC)
  have puC : Pur HC p (100000 + 1) := hP1.same sC
  have nlp : lL ≠ p := hP1.some hlL
  have subl : lets.Sublist poolW := List.take_sublist _ _
  have hlets : IsW lets := ⟨fun x hx => isW_pool.names x (subl.subset hx), List.Pairwise.sublist subl isW_pool.up, Nat.le_trans subl.length_le isW_pool.few⟩
  have l6 : lets.length ≤ 6 := subl.length_le
  have ln : 1 ≤ lets.length := by
    show 1 ≤ (poolW.take (min (2 + m) 6)).length
    rw [List.length_take]
    show 1 ≤ min (min (2 + m) 6) 6
    omega
  -- two turns
  refine ⟨2, rfl, by decide, by decide, ?_⟩
  refine for_range (n := 2) (fun j σ H2 => (∃ y5 y6 y7 y8 y9 y10 y11 y12 y13, σ = [some (.ref a), some (.ref e1), some (.int (0 + (i : Int))), some (.ref p), some (.ref lL), y5, y6, y7, y8, y9, y10, y11, y12, y13, none, none]) ∧ Bar p HC H2 ∧ Pur H2 p (100001 + 20000 * j)) ⟨⟨_, _, _, _, _, _, _, _, _, rfl⟩, (fun _ _ _ e => e), puC.le (by omega)⟩ (fun j σ H2 hj hI => ?_) (fun σ H2 hI => ?_)
  rotate_left
  · obtain ⟨⟨y5, y6, y7, y8, y9, y10, y11, y12, y13, rfl⟩, bar, pu⟩ := hI
    exact ⟨⟨_, _, _, _, _, _, _, _, _, _, _, _, rfl⟩, up _ (barC.trans bar)⟩
  obtain ⟨⟨y5, y6, y7, y8, y9, y10, y11, y12, y13, rfl⟩, bar2, pu2⟩ := hI
  have hL2 := bar2 _ _ nlp hL
  -- the sheet
  refine ⟨rfl, .ref p, rfl, .ref lL, rfl, .int (0 + (j : Int)), rfl, 2, 0 + (j : Int), rfl, rfl, p, lL, _, _, 9, lets, rfl, by omega, by decide, by decide, pu2, by omega, nlp, hL2, ln, hlets, fun HD aR ysR S L barD puD hnR hR hysR srtS S8 _ hRIn => ?_⟩
  have hIs : ∀ r ∈ S, IsR r := fun r hr => (hRIn r hr).1
  have inl : ∀ z ∈ namesL S, z ∈ lets := fun z hz => by
    obtain ⟨r, hr, hz⟩ := List.mem_flatMap.mp hz
    obtain ⟨t, ht, hz⟩ := own_mem.mp (show z ∈ own r from hz)
    exact ((hRIn r hr).2 t ht).subset hz
  refine ⟨aR, ysR, S, rfl, .inr (SqL.of hR), hysR, hIs, by omega, fun H3 v S' s3 hS' few' hv => ?_⟩
  obtain rfl : S' = S := hS'.one (⟨srtS.nd, srtS.ris, fun _ => Iff.rfl⟩ : Srt S S) fun _ => Iff.rfl
  have bar3 := (bar2.trans barD).trans (.same s3)
  have pu3 := puD.same s3
  -- its answers
  refine ⟨v, rfl, ?_⟩
  dsimp only [tNil]
  refine answers_told hv hIs few' inl (by omega) fun H4 lF ns4 s4 hw4 hm4 hWF => ?_
  have bar4 := bar3.trans (.same s4)
  have pu4 := pu3.same s4
  have hv4 := hv.same s4
  -- the lots
  refine ⟨.ref p, rfl, v, rfl, .ref lL, rfl, ?_⟩
  dsimp only [tNil]
  refine ⟨p, lL, v, _, S', lets, rfl, pu4, by omega, nlp, bar4 _ _ nlp hL, hlets, l6, hv4, hIs, few', inl, fun H5 D5 bar5 pu5 hD5 hlots => ?_⟩
  have barH5 := bar4.trans bar5
  have st45 := bar5.stay pu4.mut
  have hv5 : PgAt K C H5 v S' := by
    obtain ⟨av, dx, t0, ys0, e0, i1, i2, i3⟩ := id hv4
    have nav : av ≠ p := fun z => by
      obtain ⟨_, _, _, g, _⟩ := pu4
      rw [z, g] at i1
      cases i1
    exact ⟨av, dx, t0, ys0, e0, bar5 _ _ nav i1, st45.seq i2, st45.dpAll _ _ (okDs_rd S') i3⟩
  have isw4 : ∀ t ∈ (everyW ns4).filter (fdB S' ns4), IsW t := fun t ht => by
    have h1 := mem_every.mp (List.mem_filter.mp ht).1
    exact ⟨fun z hz => hw4.names z (h1.subset hz), List.Pairwise.sublist h1 hw4.up, Nat.le_trans h1.length_le hw4.few⟩
  have hWF5 : WLs K H5 lF ((everyW ns4).filter (fdB S' ns4)) := by
    obtain ⟨yf, f1, f2⟩ := hWF
    have nF : lF ≠ p := fun z => by
      obtain ⟨_, _, _, g, _⟩ := pu4
      rw [z, g] at f1
      injection f1 with f1
      injection f1 with f1
      subst f1
      cases hq : (everyW ns4).filter (fdB S' ns4) with
      | nil => rw [hq] at f2; cases f2
      | cons t ts =>
        rw [hq] at f2
        cases f2 with
        | cons h1 _ =>
          obtain ⟨b, eb, _⟩ := of_wd h1
          cases eb
    exact ⟨yf, bar5 _ _ nF f1, st45.dpAll _ _ (okDs_wd _) f2⟩
  obtain ⟨ls, Ls, hls, hld, hlb, l2, l14⟩ := hlots
  have lsl : ls.length = Ls.length := by rw [dpAll_len hld, List.length_map]
  have at_ : ∀ {H' : Hp} {x : V}, Same H5 H' → x ∈ ls → ∃ lot, Dp K H' x (wd lot) ∧ LotB S' lets lot := fun {H' x} s hx => by
    obtain ⟨i, hi⟩ := List.mem_iff_getElem?.mp hx
    obtain ⟨dd, hdd, hxd⟩ := dpAll_at' hld hi
    obtain ⟨lot, hlot, rfl⟩ := map_at hdd
    exact ⟨lot, dp_same s _ _ hxd, hlb lot (List.mem_of_getElem? hlot)⟩
  -- each lot
  refine ⟨.ref D5, rfl, D5, rfl, ⟨_, SqL.of hls⟩, ?_⟩
  refine for_list (K := K) (D := ⟨_, Q, _, _⟩) (xs := ls) (fun n σ H6 => (∃ y9, σ = [some (.ref a), some (.ref e1), some (.int (0 + (i : Int))), some (.ref p), some (.ref lL), some (.int (0 + (j : Int))), some v, some (.ref lF), some (.ref D5), y9, y10, y11, y12, y13, none, none]) ∧ Same H5 H6) ⟨⟨_, rfl⟩, fun _ _ e => e⟩ (fun n σ H6 _ h => SqL.of (h.2 _ _ hls)) (fun n x σ H6 hx h => ?_) (fun σ H6 h => ?_)
  · obtain ⟨⟨y9', rfl⟩, sm⟩ := h
    obtain ⟨lot, hx6, hw, hsubl, hsp⟩ := at_ sm (List.mem_of_getElem? hx)
    refine ⟨v, rfl, x, rfl, ?_⟩
    dsimp only [tNil]
    refine splits_told (hv5.same sm) hIs few' hx6 hw fun H7 s7 => ⟨true, congrArg V.bl hsp, iteF ?_⟩
    have s57 := sm.trans s7
    refine ⟨v, rfl, x, rfl, .ref lF, rfl, ?_⟩
    dsimp only [tNil]
    have hWF7 : WLs K H7 lF ((everyW ns4).filter (fdB S' ns4)) := by
      obtain ⟨yf, f1, f2⟩ := hWF5
      exact ⟨yf, s57 _ _ f1, dpAll_same s57 _ _ f2⟩
    refine ⟨v, x, lF, S', lot, lets, ns4, rfl, hv5.same s57, hIs, few', dp_same s7 _ _ hx6, hw, hsp, inl, l6, fun z hz => hsubl.subset hz, hw4, hm4, hWF7, fun H8 s8 => ⟨true, rfl, iteF ?_⟩⟩
    exact ⟨⟨_, rfl⟩, s57.trans s8⟩
  obtain ⟨⟨y9', rfl⟩, sm6⟩ := h
  -- the lots in pairs
  have hls6 := sm6 _ _ hls
  refine ⟨.ref D5, rfl, .ref D5, rfl, 1, rfl, D5, ls, rfl, SqL.of hls6, fun l1 hl1 => ?_⟩
  have q1 := same_new hl1 (.lst (cutV ls (some 1) none))
  refine ⟨.ref D5, rfl, 1, rfl, D5, ls, rfl, SqL.of (q1 _ _ hls6), fun l2' hl2' => ?_⟩
  have q2 := same_new hl2' (.lst (cutV ls none (some 1)))
  have cl1 := cutV_length ls (some 1) none
  have cl2 := cutV_length ls none (some 1)
  refine ⟨l1, l2', _, _, rfl, rfl, q2 _ _ upd_same, upd_same, by rw [sizeLine_eq]; omega, fun l3 hl3 => ?_⟩
  have q3 := same_new hl3 (.lst (cutV ls (some 1) none ++ cutV ls none (some 1)))
  have q13 := q1.trans (q2.trans q3)
  let ys : List V := cutV ls (some 1) none ++ cutV ls none (some 1)
  let HZ : Hp := upd (upd (upd H6 l1 (.lst (cutV ls (some 1) none))) l2' (.lst (cutV ls none (some 1)))) l3 (.lst ys)
  have yl : ls.length ≤ ys.length := by
    show ls.length ≤ (cutV ls (some 1) none ++ cutV ls none (some 1)).length
    rw [cut_tl, cut_hd, List.length_append, List.length_drop, List.length_take]
    omega
  have ysub : ∀ x ∈ ys, x ∈ ls := fun x hx => by
    have hx : x ∈ cutV ls (some 1) none ++ cutV ls none (some 1) := hx
    rw [cut_tl, cut_hd] at hx
    exact (List.mem_append.mp hx).elim List.mem_of_mem_drop List.mem_of_mem_take
  have s5Z := sm6.trans q13
  have hlsZ : HZ D5 = some (.lst ls) := s5Z _ _ hls
  have hysZ : HZ l3 = some (.lst ys) := upd_same
  refine ⟨D5, l3, ls, ys, rfl, SqL.of hlsZ, SqL.of hysZ, ?_⟩
  refine for_zipS (K := K) (a := D5) (b := l3) (D := ⟨_, Q, _, _⟩) (xs := ls) (ys := ys) yl (fun n σ H8 => (∃ y10 y11 y12 y13, σ = [some (.ref a), some (.ref e1), some (.int (0 + (i : Int))), some (.ref p), some (.ref lL), some (.int (0 + (j : Int))), some v, some (.ref lF), some (.ref D5), y9', y10, y11, y12, y13, none, none]) ∧ Same HZ H8) ⟨⟨_, _, _, _, rfl⟩, fun _ _ e => e⟩ (fun n σ H8 h => ⟨SqL.of (h.2 _ _ hlsZ), SqL.of (h.2 _ _ hysZ)⟩) (fun n x y T0 σ H8 hx hy h hT => ?_) (fun σ H8 h => ?_)
  · obtain ⟨⟨y10', y11', y12', y13', rfl⟩, sm⟩ := h
    have sT := same_new hT (.tup [x, y])
    have s5T := s5Z.trans (sm.trans sT)
    obtain ⟨la, hxa, wa, suba, spa⟩ := at_ s5T (List.mem_of_getElem? hx)
    obtain ⟨lb, hxb, wb, subb, spb⟩ := at_ s5T (ysub y (List.mem_of_getElem? hy))
    obtain ⟨xa, rfl, hA⟩ := of_wd hxa
    obtain ⟨xb, rfl, hB⟩ := of_wd hxb
    have lal := suba.length_le
    have lbl := subb.length_le
    refine ⟨T0, [.ref xa, .ref xb], rfl, SqT.of upd_same, rfl, .ref xa, [.ref xb], rfl, .ref xb, [], rfl, rfl, ?_⟩
    -- both
    refine ⟨.ref xa, rfl, .ref xb, rfl, catA_w hA hB (small_line (by rw [List.length_map, List.length_map]; omega)) fun cc HC2 sC2 hc => ?_⟩
    refine ⟨cc, la ++ lb, rfl, .inr (by rw [List.map_append]; exact hc), by rw [List.length_append]; omega, fun aS ms haS ndS mS lS => ?_⟩
    have q4 := same_new haS (XSetO P w aS ms)
    rw [List.length_append] at lS
    refine ⟨aS, ms, rfl, upd_same, by omega, fun zs p9 mZ ndZ lZ rsZ hp9 => ?_⟩
    have q5 := same_new hp9 (.lst (zs.map V.str))
    refine ⟨p9, _, rfl, .inl ⟨SqL.of upd_same, fun tB htB => ?_⟩⟩
    have q6 := same_new htB (.tup (zs.map V.str))
    have qB := sC2.trans (q4.trans (q5.trans q6))
    have mB : ∀ z, z ∈ zs ↔ z ∈ la ∨ z ∈ lb := fun z => by rw [mZ z, mS z, List.mem_append]
    have uB : UpX zs := upX_of rsZ ndZ
    have wB : IsW zs := ⟨fun z hz => ((mB z).mp hz).elim (wa.names z) (wb.names z), uB, by omega⟩
    have spB : splitsB S' zs = true := splits_iff.mpr fun r hr ⟨x, hx, hxz⟩ z hz => (mB z).mpr (((mB x).mp hxz).elim (fun c => .inl (splits_iff.mp spa r hr ⟨x, hx, c⟩ z hz)) fun c => .inr (splits_iff.mp spb r hr ⟨x, hx, c⟩ z hz))
    let HB2 : Hp := upd (upd (upd HC2 aS (XSetO P w aS ms)) p9 (.lst (zs.map V.str))) tB (.tup (zs.map V.str))
    have hBt : SqT K HB2 tB (zs.map V.str) := SqT.of upd_same
    -- shared
    have hA2 : SqT K HB2 xa (la.map V.str) := same_tup qB hA
    have hB2 : SqT K HB2 xb (lb.map V.str) := same_tup qB hB
    refine ⟨.ref xa, rfl, xa, rfl, ⟨_, hA2⟩, fun D8 hD8 => ?_⟩
    refine lc_tup (xs := la.map V.str) (fun m H9 => Same HB2 H9 ∧ H9 D8 = some (.lst (((la.take m).filter fun z => decide (z ∈ lb)).map V.str))) ⟨same_new hD8 _, upd_same⟩ (fun m H9 _ h => same_tup h.1 hA2) (fun m u H9 hu h => ?_) (fun H9 h => ?_)
    · obtain ⟨sm9, hd9⟩ := h
      obtain ⟨z, hz, rfl⟩ := map_at hu
      have ml : m < la.length := (List.getElem?_eq_some_iff.mp hz).1
      refine ⟨rfl, .str z, rfl, .ref xb, rfl, xb, lb.map V.str, rfl, .inr (same_tup sm9 hB2), rfl, flat_strs lb, _, rfl, ?_⟩
      rw [inV_str]
      refine ite2 (fun e => ?_) (fun e => ?_)
      · have e' : decide (z ∈ lb) = true := by simpa using e
        have fl := List.length_filter_le (fun z => decide (z ∈ lb)) (la.take m)
        rw [List.length_take] at fl
        refine ⟨.str z, rfl, _, hd9, small_line' (by rw [List.length_map]; omega), same_put sm9 hD8, ?_⟩
        rw [upd_same, filt_t hz e', List.map_append]
        rfl
      · have e' : decide (z ∈ lb) = false := by simpa using e
        refine ⟨sm9, ?_⟩
        rw [filt_f hz e']
        exact hd9
    obtain ⟨sm9, hd9⟩ := h
    rw [List.length_map, List.take_length] at hd9
    refine ⟨D8, _, rfl, .inl ⟨SqL.of hd9, fun tS htS => ?_⟩⟩
    have q7 := same_new htS (.tup ((la.filter fun z => decide (z ∈ lb)).map V.str))
    have subS : (la.filter fun z => decide (z ∈ lb)).Sublist la := List.filter_sublist
    have wS : IsW (la.filter fun z => decide (z ∈ lb)) := ⟨fun z hz => wa.names z (subS.subset hz), List.Pairwise.sublist subS wa.up, Nat.le_trans subS.length_le wa.few⟩
    have mSh : ∀ z, z ∈ la.filter (fun z => decide (z ∈ lb)) ↔ z ∈ la ∧ z ∈ lb := fun z => by rw [List.mem_filter, decide_eq_true_iff]
    have spS : splitsB S' (la.filter fun z => decide (z ∈ lb)) = true := splits_iff.mpr fun r hr ⟨x, hx, hxz⟩ z hz => (mSh z).mpr ⟨splits_iff.mp spa r hr ⟨x, hx, ((mSh x).mp hxz).1⟩ z hz, splits_iff.mp spb r hr ⟨x, hx, ((mSh x).mp hxz).2⟩ z hz⟩
    have sBS := sm9.trans q7
    have s5S := s5T.trans (qB.trans sBS)
    -- both split
    refine ⟨v, rfl, .ref tB, rfl, ?_⟩
    dsimp only [tNil]
    refine splits_told (hv5.same s5S) hIs few' (to_wd (same_tup sBS hBt)) wB fun HE sE => ⟨true, congrArg V.bl spB, iteF ?_⟩
    refine ⟨v, rfl, .ref tS, rfl, ?_⟩
    dsimp only [tNil]
    refine splits_told (hv5.same (s5S.trans sE)) hIs few' (to_wd (same_tup sE (SqT.of upd_same))) wS fun HF sF => ⟨true, congrArg V.bl spS, iteF ?_⟩
    exact ⟨⟨_, _, _, _, rfl⟩, sm.trans (sT.trans (qB.trans (sBS.trans (sE.trans sF))))⟩
  obtain ⟨⟨y10', y11', y12', y13', rfl⟩, sm8⟩ := h
  have s58 := s5Z.trans sm8
  -- all answers
  refine ⟨v, rfl, allAns_told (E := E0) ⟨v, S', lets, rfl, hv5.same s58, hIs, few', inl, by omega, fun H9 xs ns9 s9 hw9 hm9 hxs lX hlX => ?_⟩⟩
  obtain rfl : ns9 = ns4 := upX_one hw9.up hw4.up fun z => (hm9 z).trans (hm4 z).symm
  have sX := same_new hlX (.lst xs)
  have s5X := s58.trans (s9.trans sX)
  refine ⟨.ref lF, rfl, ?_⟩
  have hWFX : WLs K (upd H9 lX (.lst xs)) lF ((everyW ns9).filter (fdB S' ns9)) := by
    obtain ⟨yf, f1, f2⟩ := hWF5
    exact ⟨yf, s5X _ _ f1, dpAll_same s5X _ _ f2⟩
  refine ne_wds ⟨xs, upd_same, dpAll_same sX _ _ hxs⟩ hWFX isw4 isw4 ?_
  rw [decide_eq_true rfl]
  refine ⟨false, rfl, iteF ?_⟩
  exact ⟨⟨_, _, _, _, _, _, _, _, _, rfl⟩, barH5.trans (.same s5X), (pu5.same s5X).le (by omega)⟩
end
end Rw
namespace Rw
open PySem PySem.Spec PyProof.Rows L2 ClX
theorem exL_at {K : PySem.W.Frag} {C : Addr} (h : (exL K C).all id = true) (i : Nat) {b : Bool} (e : (exL K C)[i]? = some b) : b = true := List.all_eq_true.mp h b (List.mem_of_getElem? e)
theorem pgC_of {K : PySem.W.Frag} {mg : Str → Option Value} {C : Addr} (h : pgP K C) (m : mg "Program" = some (.ref C)) (c : Cls K C) : PgC K mg C := by
  obtain ⟨h1, h2, h3, h4, h5, h6, h7, h8, h9, h10, h11, h12⟩ := h
  exact ⟨h1, h2, h3, h4, h5, h6, h7, h8, m, c, h9, h10, h11, h12⟩
theorem hfacts {P : Program} {w : World} {K : PySem.W.Frag} {h : Heap} {mg : Str → Option Value} {f : Addr} (X : K.In h) (G : h.Ns mainGlobals mg) (hfa_ : mg ("law" : Str) = some (.ref f)) (c : He5.SaysA hfa hfn K) (ce : exB K = true) :
    ∃ fd : FuncData, (∀ (s : Shared) (v : Value), BindsTo s fd ⟨[v], []⟩ [("script", v)]) ∧ ∀ base : Heap, K.In base → base.Ns mainGlobals mg → FnOk P w K mg base CX0 13 f fd ["script"] (spLaw K) := by
  obtain ⟨fd0, D0⟩ := c.def_ 0 (d := dOf "is_name" sIsName) rfl
  have F0 : Fun K "is_name" "is_name" sIsName _ fd0 := fun_of D0
  have B0 := D0.bindsN (ps := ["thing"]) fun _ _ _ _ _ _ us hl => match us, hl with | [_], _ => rfl
  have M0 : mg "is_name" = _ := He.glo_ok X G (c.fact 22 (f := .glo "is_name") rfl)
  obtain ⟨fd1, D1⟩ := c.def_ 1 (d := dOf "_are_names" sAreNames) rfl
  have F1 : Fun K "_are_names" "_are_names" sAreNames _ fd1 := fun_of D1
  have B1 := D1.bindsN (ps := ["thing"]) fun _ _ _ _ _ _ us hl => match us, hl with | [_], _ => rfl
  have M1 : mg "_are_names" = _ := He.glo_ok X G (c.fact 23 (f := .glo "_are_names") rfl)
  obtain ⟨fd2, D2⟩ := c.def_ 2 (d := dOf "_set_of" sSetOf) rfl
  have F2 : Fun K "_set_of" "_set_of" sSetOf _ fd2 := fun_of D2
  have B2 := D2.bindsN (ps := ["names"]) fun _ _ _ _ _ _ us hl => match us, hl with | [_], _ => rfl
  have M2 : mg "_set_of" = _ := He.glo_ok X G (c.fact 24 (f := .glo "_set_of") rfl)
  obtain ⟨fd3, D3⟩ := c.def_ 3 (d := dOf "is_world" sIsWorld) rfl
  have F3 : Fun K "is_world" "is_world" sIsWorld _ fd3 := fun_of D3
  have B3 := D3.bindsN (ps := ["thing"]) fun _ _ _ _ _ _ us hl => match us, hl with | [_], _ => rfl
  have M3 : mg "is_world" = _ := He.glo_ok X G (c.fact 25 (f := .glo "is_world") rfl)
  obtain ⟨fd4, D4⟩ := c.def_ 4 (d := dOf "is_rule" sIsRule) rfl
  have F4 : Fun K "is_rule" "is_rule" sIsRule _ fd4 := fun_of D4
  have B4 := D4.bindsN (ps := ["thing"]) fun _ _ _ _ _ _ us hl => match us, hl with | [_], _ => rfl
  have M4 : mg "is_rule" = _ := He.glo_ok X G (c.fact 26 (f := .glo "is_rule") rfl)
  obtain ⟨fd5, D5⟩ := c.def_ 5 (d := dOf "has_all" sHasAll) rfl
  have F5 : Fun K "has_all" "has_all" sHasAll _ fd5 := fun_of D5
  have B5 := D5.bindsN (ps := ["names", "wanted"]) fun _ _ _ _ _ _ us hl => match us, hl with | [_, _], _ => rfl
  have M5 : mg "has_all" = _ := He.glo_ok X G (c.fact 27 (f := .glo "has_all") rfl)
  obtain ⟨fd6, D6⟩ := c.def_ 6 (d := dOf "meet" sMeet) rfl
  have F6 : Fun K "meet" "meet" sMeet _ fd6 := fun_of D6
  have B6 := D6.bindsN (ps := ["one", "other"]) fun _ _ _ _ _ _ us hl => match us, hl with | [_, _], _ => rfl
  have M6 : mg "meet" = _ := He.glo_ok X G (c.fact 28 (f := .glo "meet") rfl)
  obtain ⟨fd7, D7⟩ := c.def_ 7 (d := dOf "without" sWithout) rfl
  have F7 : Fun K "without" "without" sWithout _ fd7 := fun_of D7
  have B7 := D7.bindsN (ps := ["names", "left_out"]) fun _ _ _ _ _ _ us hl => match us, hl with | [_, _], _ => rfl
  have M7 : mg "without" = _ := He.glo_ok X G (c.fact 29 (f := .glo "without") rfl)
  obtain ⟨fd8, D8⟩ := c.def_ 8 (d := dOf "_names_in" sNamesIn) rfl
  have F8 : Fun K "_names_in" "_names_in" sNamesIn _ fd8 := fun_of D8
  have B8 := D8.bindsN (ps := ["row"]) fun _ _ _ _ _ _ us hl => match us, hl with | [_], _ => rfl
  have M8 : mg "_names_in" = _ := He.glo_ok X G (c.fact 30 (f := .glo "_names_in") rfl)
  obtain ⟨fd9, D9⟩ := c.def_ 9 (d := dOf "_row_without" sRowWithout) rfl
  have F9 : Fun K "_row_without" "_row_without" sRowWithout _ fd9 := fun_of D9
  have B9 := D9.bindsN (ps := ["row", "names"]) fun _ _ _ _ _ _ us hl => match us, hl with | [_, _], _ => rfl
  have M9 : mg "_row_without" = _ := He.glo_ok X G (c.fact 31 (f := .glo "_row_without") rfl)
  obtain ⟨fd10, D10⟩ := c.def_ 10 (d := dOf "_asked" sAsked) rfl
  have F10 : Fun K "_asked" "_asked" sAsked _ fd10 := fun_of D10
  have B10 := D10.bindsN (ps := ["row", "names"]) fun _ _ _ _ _ _ us hl => match us, hl with | [_, _], _ => rfl
  have M10 : mg "_asked" = _ := He.glo_ok X G (c.fact 32 (f := .glo "_asked") rfl)
  obtain ⟨fd11, D11⟩ := c.def_ 11 (d := dOf "_is_asked_for" sIsAskedFor) rfl
  have F11 : Fun K "_is_asked_for" "_is_asked_for" sIsAskedFor _ fd11 := fun_of D11
  have B11 := D11.bindsN (ps := ["asked", "world"]) fun _ _ _ _ _ _ us hl => match us, hl with | [_, _], _ => rfl
  have M11 : mg "_is_asked_for" = _ := He.glo_ok X G (c.fact 33 (f := .glo "_is_asked_for") rfl)
  obtain ⟨fd12, D12⟩ := c.def_ 12 (d := dOf "check_program" sCheckProgram) rfl
  have F12 : Fun K "check_program" "check_program" sCheckProgram _ fd12 := fun_of D12
  have B12 := D12.bindsN (ps := ["thing"]) fun _ _ _ _ _ _ us hl => match us, hl with | [_], _ => rfl
  have M12 : mg "check_program" = _ := He.glo_ok X G (c.fact 34 (f := .glo "check_program") rfl)
  obtain ⟨fd13, D13⟩ := c.def_ 13 (d := dOf "check_world" sCheckWorld) rfl
  have F13 : Fun K "check_world" "check_world" sCheckWorld _ fd13 := fun_of D13
  have B13 := D13.bindsN (ps := ["thing"]) fun _ _ _ _ _ _ us hl => match us, hl with | [_], _ => rfl
  have M13 : mg "check_world" = _ := He.glo_ok X G (c.fact 35 (f := .glo "check_world") rfl)
  obtain ⟨fd14, D14⟩ := c.def_ 14 (d := dOf "splits" sSplits) rfl
  have F14 : Fun K "splits" "splits" sSplits _ fd14 := fun_of D14
  have B14 := D14.bindsN (ps := ["program", "names"]) fun _ _ _ _ _ _ us hl => match us, hl with | [_, _], _ => rfl
  have M14 : mg "splits" = _ := He.glo_ok X G (c.fact 36 (f := .glo "splits") rfl)
  obtain ⟨fd15, D15⟩ := c.def_ 15 (d := dOf "_check_split" sCheckSplit) rfl
  have F15 : Fun K "_check_split" "_check_split" sCheckSplit _ fd15 := fun_of D15
  have B15 := D15.bindsN (ps := ["program", "names"]) fun _ _ _ _ _ _ us hl => match us, hl with | [_, _], _ => rfl
  have M15 : mg "_check_split" = _ := He.glo_ok X G (c.fact 37 (f := .glo "_check_split") rfl)
  obtain ⟨fd16, D16⟩ := c.def_ 16 (d := dOf "lower" sLower) rfl
  have F16 : Fun K "lower" "lower" sLower _ fd16 := fun_of D16
  have B16 := D16.bindsN (ps := ["program", "names"]) fun _ _ _ _ _ _ us hl => match us, hl with | [_, _], _ => rfl
  have M16 : mg "lower" = _ := He.glo_ok X G (c.fact 38 (f := .glo "lower") rfl)
  obtain ⟨fd17, D17⟩ := c.def_ 17 (d := dOf "rest" sRest) rfl
  have F17 : Fun K "rest" "rest" sRest _ fd17 := fun_of D17
  have B17 := D17.bindsN (ps := ["program", "names", "world"]) fun _ _ _ _ _ _ us hl => match us, hl with | [_, _, _], _ => rfl
  have M17 : mg "rest" = _ := He.glo_ok X G (c.fact 39 (f := .glo "rest") rfl)
  obtain ⟨fd18, D18⟩ := c.def_ 18 (d := dOf "_reached" sReached) rfl
  have F18 : Fun K "_reached" "_reached" sReached _ fd18 := fun_of D18
  have B18 := D18.bindsN (ps := ["program"]) fun _ _ _ _ _ _ us hl => match us, hl with | [_], _ => rfl
  have M18 : mg "_reached" = _ := He.glo_ok X G (c.fact 40 (f := .glo "_reached") rfl)
  obtain ⟨fd19, D19⟩ := c.def_ 19 (d := dOf "_next_layer" sNext) rfl
  have F19 : Fun K "_next_layer" "_next_layer" sNext _ fd19 := fun_of D19
  have B19 := D19.bindsN (ps := ["reached", "left"]) fun _ _ _ _ _ _ us hl => match us, hl with | [_, _], _ => rfl
  have M19 : mg "_next_layer" = _ := He.glo_ok X G (c.fact 41 (f := .glo "_next_layer") rfl)
  obtain ⟨fd20, D20⟩ := c.def_ 20 (d := dOf "layers" sLayers) rfl
  have F20 : Fun K "layers" "layers" sLayers _ fd20 := fun_of D20
  have B20 := D20.bindsN (ps := ["program"]) fun _ _ _ _ _ _ us hl => match us, hl with | [_], _ => rfl
  have M20 : mg "layers" = _ := He.glo_ok X G (c.fact 42 (f := .glo "layers") rfl)
  obtain ⟨fd21, D21⟩ := c.def_ 21 (d := dOf "_chosen_names" sChosen) rfl
  have F21 : Fun K "_chosen_names" "_chosen_names" sChosen _ fd21 := fun_of D21
  have B21 := D21.bindsN (ps := ["program", "names"]) fun _ _ _ _ _ _ us hl => match us, hl with | [_, _], _ => rfl
  have M21 : mg "_chosen_names" = _ := He.glo_ok X G (c.fact 43 (f := .glo "_chosen_names") rfl)
  obtain ⟨fd22, D22⟩ := c.def_ 22 (d := dOf "_bits_of" sBitsOf) rfl
  have F22 : Fun K "_bits_of" "_bits_of" sBitsOf _ fd22 := fun_of D22
  have B22 := D22.bindsN (ps := ["names"]) fun _ _ _ _ _ _ us hl => match us, hl with | [_], _ => rfl
  have M22 : mg "_bits_of" = _ := He.glo_ok X G (c.fact 44 (f := .glo "_bits_of") rfl)
  obtain ⟨fd23, D23⟩ := c.def_ 23 (d := dOf "_number" sNumber) rfl
  have F23 : Fun K "_number" "_number" sNumber _ fd23 := fun_of D23
  have B23 := D23.bindsN (ps := ["world", "bits"]) fun _ _ _ _ _ _ us hl => match us, hl with | [_, _], _ => rfl
  have M23 : mg "_number" = _ := He.glo_ok X G (c.fact 45 (f := .glo "_number") rfl)
  obtain ⟨fd24, D24⟩ := c.def_ 24 (d := dOf "_numbered" sNumbered) rfl
  have F24 : Fun K "_numbered" "_numbered" sNumbered _ fd24 := fun_of D24
  have B24 := D24.bindsN (ps := ["program", "bits"]) fun _ _ _ _ _ _ us hl => match us, hl with | [_, _], _ => rfl
  have M24 : mg "_numbered" = _ := He.glo_ok X G (c.fact 46 (f := .glo "_numbered") rfl)
  obtain ⟨fd25, D25⟩ := c.def_ 25 (d := dOf "_every_world" sEvery) rfl
  have F25 : Fun K "_every_world" "_every_world" sEvery _ fd25 := fun_of D25
  have B25 := D25.bindsN (ps := ["names"]) fun _ _ _ _ _ _ us hl => match us, hl with | [_], _ => rfl
  have M25 : mg "_every_world" = _ := He.glo_ok X G (c.fact 47 (f := .glo "_every_world") rfl)
  obtain ⟨fd26, D26⟩ := c.def_ 26 (d := dOf "_agree" sAgree) rfl
  have F26 : Fun K "_agree" "_agree" sAgree _ fd26 := fun_of D26
  have B26 := D26.bindsN (ps := ["rows", "here", "there"]) fun _ _ _ _ _ _ us hl => match us, hl with | [_, _, _], _ => rfl
  have M26 : mg "_agree" = _ := He.glo_ok X G (c.fact 48 (f := .glo "_agree") rfl)
  obtain ⟨fd27, D27⟩ := c.def_ 27 (d := dOf "_all_met" sAllMet) rfl
  have F27 : Fun K "_all_met" "_all_met" sAllMet _ fd27 := fun_of D27
  have B27 := D27.bindsN (ps := ["urgent", "here"]) fun _ _ _ _ _ _ us hl => match us, hl with | [_, _], _ => rfl
  have M27 : mg "_all_met" = _ := He.glo_ok X G (c.fact 49 (f := .glo "_all_met") rfl)
  obtain ⟨fd28, D28⟩ := c.def_ 28 (d := dOf "_is_founded" sIsFounded) rfl
  have F28 : Fun K "_is_founded" "_is_founded" sIsFounded _ fd28 := fun_of D28
  have B28 := D28.bindsN (ps := ["rows", "there"]) fun _ _ _ _ _ _ us hl => match us, hl with | [_, _], _ => rfl
  have M28 : mg "_is_founded" = _ := He.glo_ok X G (c.fact 50 (f := .glo "_is_founded") rfl)
  obtain ⟨fd29, D29⟩ := c.def_ 29 (d := dOf "answers" sAnswers) rfl
  have F29 : Fun K "answers" "answers" sAnswers _ fd29 := fun_of D29
  have B29 := D29.bindsN (ps := ["program"]) fun _ _ _ _ _ _ us hl => match us, hl with | [_], _ => rfl
  have M29 : mg "answers" = _ := He.glo_ok X G (c.fact 51 (f := .glo "answers") rfl)
  obtain ⟨fd30, D30⟩ := c.def_ 30 (d := dOf "_mark" sMark) rfl
  have F30 : Fun K "_mark" "_mark" sMark _ fd30 := fun_of D30
  have B30 := D30.bindsN (ps := ["marks", "things", "bit"]) fun _ _ _ _ _ _ us hl => match us, hl with | [_, _, _], _ => rfl
  have M30 : mg "_mark" = _ := He.glo_ok X G (c.fact 52 (f := .glo "_mark") rfl)
  obtain ⟨fd31, D31⟩ := c.def_ 31 (d := dOf "_rows_of_layers" sRowsOf) rfl
  have F31 : Fun K "_rows_of_layers" "_rows_of_layers" sRowsOf _ fd31 := fun_of D31
  have B31 := D31.bindsN (ps := ["program", "parts"]) fun _ _ _ _ _ _ us hl => match us, hl with | [_, _], _ => rfl
  have M31 : mg "_rows_of_layers" = _ := He.glo_ok X G (c.fact 53 (f := .glo "_rows_of_layers") rfl)
  obtain ⟨fd32, D32⟩ := c.def_ 32 (d := dOf "_with_layer" sWith) rfl
  have F32 : Fun K "_with_layer" "_with_layer" sWith _ fd32 := fun_of D32
  have B32 := D32.bindsN (ps := ["found", "earlier", "layer", "rows"]) fun _ _ _ _ _ _ us hl => match us, hl with | [_, _, _, _], _ => rfl
  have M32 : mg "_with_layer" = _ := He.glo_ok X G (c.fact 54 (f := .glo "_with_layer") rfl)
  obtain ⟨fd33, D33⟩ := c.def_ 33 (d := dOf "all_answers" sAllAns) rfl
  have F33 : Fun K "all_answers" "all_answers" sAllAns _ fd33 := fun_of D33
  have B33 := D33.bindsN (ps := ["program"]) fun _ _ _ _ _ _ us hl => match us, hl with | [_], _ => rfl
  have M33 : mg "all_answers" = _ := He.glo_ok X G (c.fact 55 (f := .glo "all_answers") rfl)
  obtain ⟨fd34, D34⟩ := c.def_ 34 (d := dOf "_law_at" sLawAt) rfl
  have F34 : Fun K "_law_at" "_law_at" sLawAt _ fd34 := fun_of D34
  have B34 := D34.bindsN (ps := ["script", "k"]) fun _ _ _ _ _ _ us hl => match us, hl with | [_, _], _ => rfl
  have M34 : mg "_law_at" = _ := He.glo_ok X G (c.fact 56 (f := .glo "_law_at") rfl)
  obtain ⟨fd35, D35⟩ := c.def_ 35 (d := dOf "_law_mixed" sLawMixed) rfl
  have F35 : Fun K "_law_mixed" "_law_mixed" sLawMixed _ fd35 := fun_of D35
  have B35 := D35.bindsN (ps := ["cell", "k"]) fun _ _ _ _ _ _ us hl => match us, hl with | [_, _], _ => rfl
  have M35 : mg "_law_mixed" = _ := He.glo_ok X G (c.fact 57 (f := .glo "_law_mixed") rfl)
  obtain ⟨fd36, D36⟩ := c.def_ 36 (d := dOf "_law_purse" sLawPurse) rfl
  have F36 : Fun K "_law_purse" "_law_purse" sLawPurse _ fd36 := fun_of D36
  have B36 := D36.bindsN (ps := ["script", "at"]) fun _ _ _ _ _ _ us hl => match us, hl with | [_, _], _ => rfl
  have M36 : mg "_law_purse" = _ := He.glo_ok X G (c.fact 58 (f := .glo "_law_purse") rfl)
  obtain ⟨fd37, D37⟩ := c.def_ 37 (d := dOf "_law_draw" sLawDraw) rfl
  have F37 : Fun K "_law_draw" "_law_draw" sLawDraw _ fd37 := fun_of D37
  have B37 := D37.bindsN (ps := ["purse", "out_of"]) fun _ _ _ _ _ _ us hl => match us, hl with | [_, _], _ => rfl
  have M37 : mg "_law_draw" = _ := He.glo_ok X G (c.fact 59 (f := .glo "_law_draw") rfl)
  obtain ⟨fd38, D38⟩ := c.def_ 38 (d := dOf "_law_some" sLawSome) rfl
  have F38 : Fun K "_law_some" "_law_some" sLawSome _ fd38 := fun_of D38
  have B38 := D38.bindsN (ps := ["purse", "names", "most"]) fun _ _ _ _ _ _ us hl => match us, hl with | [_, _, _], _ => rfl
  have M38 : mg "_law_some" = _ := He.glo_ok X G (c.fact 60 (f := .glo "_law_some") rfl)
  obtain ⟨fd39, D39⟩ := c.def_ 39 (d := dOf "_law_rule" sLawRule) rfl
  have F39 : Fun K "_law_rule" "_law_rule" sLawRule _ fd39 := fun_of D39
  have B39 := D39.bindsN (ps := ["purse", "names", "sort"]) fun _ _ _ _ _ _ us hl => match us, hl with | [_, _, _], _ => rfl
  have M39 : mg "_law_rule" = _ := He.glo_ok X G (c.fact 61 (f := .glo "_law_rule") rfl)
  obtain ⟨fd40, D40⟩ := c.def_ 40 (d := dOf "_law_rules" sLawRules) rfl
  have F40 : Fun K "_law_rules" "_law_rules" sLawRules _ fd40 := fun_of D40
  have B40 := D40.bindsN (ps := ["purse", "names", "sort", "most"]) fun _ _ _ _ _ _ us hl => match us, hl with | [_, _, _, _], _ => rfl
  have M40 : mg "_law_rules" = _ := He.glo_ok X G (c.fact 62 (f := .glo "_law_rules") rfl)
  obtain ⟨fd41, D41⟩ := c.def_ 41 (d := dOf "_law_lots" sLawLots) rfl
  have F41 : Fun K "_law_lots" "_law_lots" sLawLots _ fd41 := fun_of D41
  have B41 := D41.bindsN (ps := ["purse", "sheet", "letters"]) fun _ _ _ _ _ _ us hl => match us, hl with | [_, _, _], _ => rfl
  have M41 : mg "_law_lots" = _ := He.glo_ok X G (c.fact 63 (f := .glo "_law_lots") rfl)
  obtain ⟨fd42, D42⟩ := c.def_ 42 (d := dOf "_law_right" sLawRight) rfl
  have F42 : Fun K "_law_right" "_law_right" sLawRight _ fd42 := fun_of D42
  have B42 := D42.bindsN (ps := ["sheet", "lot", "found"]) fun _ _ _ _ _ _ us hl => match us, hl with | [_, _, _], _ => rfl
  have M42 : mg "_law_right" = _ := He.glo_ok X G (c.fact 64 (f := .glo "_law_right") rfl)
  obtain ⟨fd43, D43⟩ := c.def_ 43 (d := dOf "law" sLaw) rfl
  have F43 : Fun K "law" "law" sLaw _ fd43 := fun_of D43
  have B43 := D43.bindsN (ps := ["script"]) fun _ _ _ _ _ _ us hl => match us, hl with | [_], _ => rfl
  have M43 : mg "law" = _ := He.glo_ok X G (c.fact 65 (f := .glo "law") rfl)
  obtain ⟨fdInit, DInit⟩ := c.def_ 44 (d := dMInit) rfl
  have FInit : Fun K "__init__" "Program.__init__" sInit _ fdInit := fun_of DInit
  obtain ⟨fdOf, DOf⟩ := c.def_ 45 (d := dMOf) rfl
  have FOf : Fun K "of" "Program.of" sOf _ fdOf := fun_of DOf
  have BOf := DOf.bindsN (ps := ["cls", "rules"]) fun _ _ _ _ _ _ us hl => match us, hl with | [_, _], _ => rfl
  obtain ⟨fdRules, DRules⟩ := c.def_ 46 (d := dMRules) rfl
  have FRules : Fun K "rules" "Program.rules" sRules _ fdRules := fun_of DRules
  have BRules := DRules.bindsN (ps := ["self"]) fun _ _ _ _ _ _ us hl => match us, hl with | [_], _ => rfl
  obtain ⟨fdNames, DNames⟩ := c.def_ 47 (d := dMNames) rfl
  have FNames : Fun K "names" "Program.names" sNames _ fdNames := fun_of DNames
  have BNames := DNames.bindsN (ps := ["self"]) fun _ _ _ _ _ _ us hl => match us, hl with | [_], _ => rfl
  obtain ⟨fdTabInit, DTabInit⟩ := c.def_ 48 (d := dMTabInit) rfl
  have FTabInit : Fun K "__init__" "Table.__init__" sTabInit _ fdTabInit := fun_of DTabInit
  have BTabInit := DTabInit.bindsN (ps := ["self", "chosen"]) fun _ _ _ _ _ _ us hl => match us, hl with | [_, _], _ => rfl
  obtain ⟨fdAgainst, DAgainst⟩ := c.def_ 49 (d := dMAgainst) rfl
  have FAgainst : Fun K "against" "Table.against" sAgainst _ fdAgainst := fun_of DAgainst
  have BAgainst := DAgainst.bindsN (ps := ["self", "row"]) fun _ _ _ _ _ _ us hl => match us, hl with | [_, _], _ => rfl
  obtain ⟨fdUnmet, DUnmet⟩ := c.def_ 50 (d := dMUnmet) rfl
  have FUnmet : Fun K "_unmet" "Table._unmet" sUnmet _ fdUnmet := fun_of DUnmet
  have BUnmet := DUnmet.bindsN (ps := ["self", "row", "asked"]) fun _ _ _ _ _ _ us hl => match us, hl with | [_, _, _], _ => rfl
  obtain ⟨fdAlone, DAlone⟩ := c.def_ 51 (d := dMAlone) rfl
  have FAlone : Fun K "alone" "Table.alone" sAlone _ fdAlone := fun_of DAlone
  have BAlone := DAlone.bindsN (ps := ["self", "gone"]) fun _ _ _ _ _ _ us hl => match us, hl with | [_, _], _ => rfl
  obtain ⟨fdENotProg, DENotProg⟩ := c.def_ 52 (d := dMENotProg) rfl
  have EENotProg : FunD K "__init__" "NotAProgram.__init__" (defArgs sENotProg) (defBody sENotProg) (defScope sENotProg) [.non] [] _ fdENotProg := DENotProg
  obtain ⟨dsENotProg, vENotProg, BENotProg⟩ := EENotProg.binds1 (ps := ["self", "thing"]) 2 1 (by simp) rfl fun T kV doc pm an cdv ct us its h1 h2 => match us, its, h1, h2 with | [_, _], [_], _, _ => ⟨_, rfl, rfl⟩
  cases vENotProg
  obtain ⟨fdEWorld, DEWorld⟩ := c.def_ 53 (d := dMEWorld) rfl
  have EEWorld : FunD K "__init__" "InvalidWorld.__init__" (defArgs sEWorld) (defBody sEWorld) (defScope sEWorld) [.non] [] _ fdEWorld := DEWorld
  obtain ⟨dsEWorld, vEWorld, BEWorld⟩ := EEWorld.binds1 (ps := ["self", "thing"]) 2 1 (by simp) rfl fun T kV doc pm an cdv ct us its h1 h2 => match us, its, h1, h2 with | [_, _], [_], _, _ => ⟨_, rfl, rfl⟩
  cases vEWorld
  obtain ⟨fdESplit, DESplit⟩ := c.def_ 54 (d := dMESplit) rfl
  have EESplit : FunD K "__init__" "NotASplit.__init__" (defArgs sESplit) (defBody sESplit) (defScope sESplit) [.non] [] _ fdESplit := DESplit
  obtain ⟨dsESplit, vESplit, BESplit⟩ := EESplit.binds1 (ps := ["self", "thing"]) 2 1 (by simp) rfl fun T kV doc pm an cdv ct us its h1 h2 => match us, its, h1, h2 with | [_, _], [_], _, _ => ⟨_, rfl, rfl⟩
  cases vESplit
  obtain ⟨fdPairs, DPairs⟩ := c.def_ 55 (d := dOfV "pairs" sPairs (.non)) rfl
  have EPairs : FunD K "pairs" "pairs" (defArgs sPairs) (defBody sPairs) (defScope sPairs) [.non] [] _ fdPairs := DPairs
  have MPairs : mg "pairs" = _ := He.glo_ok X G (c.fact 66 (f := .glo "pairs") rfl)
  obtain ⟨dsW, vW, BW⟩ := EPairs.binds1 (ps := ["program", "names"]) 2 1 (by simp) rfl fun T kV doc pm an cdv ct us its h1 h2 => match us, its, h1, h2 with | [_, _], [_], _, _ => ⟨_, rfl, rfl⟩
  cases vW
  have EAll : FunD K "all_answers" "all_answers" (defArgs sAllAns) (defBody sAllAns) (defScope sAllAns) [] [] _ fd33 := D33
  have mProgram : mg "Program" = _ := He.glo_ok X G (c.fact 17 (f := .glo "Program") rfl)
  have mNotAProgram : mg "NotAProgram" = _ := He.glo_ok X G (c.fact 18 (f := .glo "NotAProgram") rfl)
  have mInvalidWorld : mg "InvalidWorld" = _ := He.glo_ok X G (c.fact 19 (f := .glo "InvalidWorld") rfl)
  have mNotASplit : mg "NotASplit" = _ := He.glo_ok X G (c.fact 20 (f := .glo "NotASplit") rfl)
  have mTable : mg "Table" = _ := He.glo_ok X G (c.fact 21 (f := .glo "Table") rfl)
  have T : Bl mg := ⟨He.free_ok X G (c.fact 0 (f := .free "len") rfl), He.free_ok X G (c.fact 1 (f := .free "isinstance") rfl), He.free_ok X G (c.fact 2 (f := .free "all") rfl), He.free_ok X G (c.fact 3 (f := .free "any") rfl), He.free_ok X G (c.fact 4 (f := .free "tuple") rfl), He.free_ok X G (c.fact 5 (f := .free "list") rfl), He.free_ok X G (c.fact 6 (f := .free "sorted") rfl), He.free_ok X G (c.fact 7 (f := .free "set") rfl), He.free_ok X G (c.fact 8 (f := .free "str") rfl), He.free_ok X G (c.fact 9 (f := .free "int") rfl), He.free_ok X G (c.fact 10 (f := .free "max") rfl), He.free_ok X G (c.fact 11 (f := .free "min") rfl), He.free_ok X G (c.fact 12 (f := .free "range") rfl), He.free_ok X G (c.fact 13 (f := .free "enumerate") rfl)⟩
  have Ts := He.free_ok X G (c.fact 14 (f := .free "sum") rfl)
  have Tz := He.free_ok X G (c.fact 15 (f := .free "zip") rfl)
  have mL := He.str_ok X G (c.fact 16 (f := .str "LETTERS" lettersS) rfl)
  have cP := He.cls_ok (c.fact 67 (f := .cls "Program") rfl)
  have nR := He.noat_ok (c.fact 68 (f := .noat "Program" "_rules") rfl)
  have MK := He.mkr_ok (c.fact 69 (f := .mkr "Program") rfl)
  have cT := He.cls_ok (c.fact 70 (f := .cls "Table") rfl)
  have MT := He.mkr_ok (c.fact 71 (f := .mkr "Table") rfl)
  have NT : NoTab K (He.ga K "Table") := ⟨cT, He.noat_ok (c.fact 75 (f := .noat "Table" "every") rfl), He.noat_ok (c.fact 76 (f := .noat "Table" "_here") rfl), He.noat_ok (c.fact 77 (f := .noat "Table" "_there") rfl), He.noat_ok (c.fact 78 (f := .noat "Table" "_own") rfl), He.noat_ok (c.fact 79 (f := .noat "Table" "_around") rfl)⟩
  have meA := He.meth_ok (c.fact 72 (f := .meth "Table" "against") rfl)
  have meU := He.meth_ok (c.fact 73 (f := .meth "Table" "_unmet") rfl)
  have meL := He.meth_ok (c.fact 74 (f := .meth "Table" "alone") rfl)
  have noNotAProgram := He.noat_ok (c.fact 80 (f := .noat "NotAProgram" "thing") rfl)
  have noInvalidWorld := He.noat_ok (c.fact 81 (f := .noat "InvalidWorld" "thing") rfl)
  have noNotASplit := He.noat_ok (c.fact 82 (f := .noat "NotASplit" "thing") rfl)
  have ce' : (exL K (He.ga K "Program")).all id = true := ce
  have PG := pgC_of (of_decide_eq_true (exL_at ce' 0 rfl)) mProgram cP
  obtain ⟨rd1, rd2⟩ := (of_decide_eq_true (exL_at ce' 1 rfl))
  have CR : CRead K (He.ga K "Program") (.type "type") := ⟨rd1, rd2⟩
  have PR := propP_ok (of_decide_eq_true (exL_at ce' 8 rfl)) (exL_at ce' 9 rfl)
  have PN := propP_ok (of_decide_eq_true (exL_at ce' 10 rfl)) (exL_at ce' 11 rfl)
  have CO := He5.cmet_of (exL_at ce' 12 rfl) (exL_at ce' 13 rfl)
  obtain ⟨iNotAProgram1, iNotAProgram2⟩ := (of_decide_eq_true (exL_at ce' 3 rfl))
  obtain ⟨iInvalidWorld1, iInvalidWorld2⟩ := (of_decide_eq_true (exL_at ce' 5 rfl))
  obtain ⟨iNotASplit1, iNotASplit2⟩ := (of_decide_eq_true (exL_at ce' 7 rfl))
  have e := hfa_.symm.trans M43
  cases e
  refine ⟨fd43, fun s v => ?_, fun base _ _ => ?_⟩
  · exact FunD.bindsA (ps := ["script"]) D43 (fun _ _ _ _ _ _ us hl => match us, hl with | [_], _ => rfl) s [v] rfl
  have gIsName : ∀ k, FnOk P w K mg base CX0 (k + 1) _ fd0 ["thing"] (spIsName K) := fun k => ok_isName (k := k) F0 T mL
  have gAre : ∀ k, FnOk P w K mg base CX0 (k + 2) _ fd1 ["thing"] (spAreNames K) := fun k => ok_areNames (k := k + 1) F1 T (gIsName k) B0 F0.kp M0
  have gSet : ∀ k, FnOk P w K mg base CX0 (k + 1) _ fd2 ["names"] (spSetOf K) := fun k => ok_setOf (k := k) F2 T
  have gIsW : ∀ k, FnOk P w K mg base CX0 (k + 3) _ fd3 ["thing"] (spIsWorld K) := fun k => ok_isWorld (k := k + 2) F3 T (gAre k) B1 F1.kp M1 (gSet (k + 1)) B2 F2.kp M2
  have gIsR : ∀ k, FnOk P w K mg base CX0 (k + 4) _ fd4 ["thing"] (spIsRule K) := fun k => ok_isRule (k := k + 3) F4 T (gIsW k) B3 F3.kp M3
  have gHas : ∀ k, FnOk P w K mg base CX0 (k + 1) _ fd5 ["names", "wanted"] (spHasAll K) := fun k => ok_hasAll (k := k) F5 T
  have gMeet : ∀ k, FnOk P w K mg base CX0 (k + 1) _ fd6 ["one", "other"] (spMeet K) := fun k => ok_meet (k := k) F6 T
  have gWout : ∀ k, FnOk P w K mg base CX0 (k + 1) _ fd7 ["names", "left_out"] (spWithout K) := fun k => ok_without (k := k) F7 T
  have gNin : ∀ k, FnOk P w K mg base CX0 (k + 1) _ fd8 ["row"] (spNamesIn K) := fun k => ok_namesIn (k := k) F8
  have gNinW : ∀ k, FnOk P w K mg base CX0 (k + 1) _ fd8 ["row"] (spNamesInW K) := fun k => ok_namesInW (gNin k)
  have gRw : ∀ k, FnOk P w K mg base CX0 (k + 2) _ fd9 ["row", "names"] (spRowWithout K) := fun k => ok_rowWithout (k := k + 1) F9 T (gWout k) B7 F7.kp M7
  have gAskd : ∀ k, FnOk P w K mg base CX0 (k + 1) _ fd10 ["row", "names"] (spAsked K) := fun k => ok_asked (k := k) F10 T
  have gIaf : ∀ k, FnOk P w K mg base CX0 (k + 2) _ fd11 ["asked", "world"] (spIsAskedFor K) := fun k => ok_isAskedFor (k := k + 1) F11 (gHas k) B5 F5.kp M5 (gMeet k) B6 F6.kp M6
  have gBits : ∀ k, FnOk P w K mg base CX0 (k + 1) _ fd22 ["names"] (spBitsOf K) := fun k => ok_bitsOf (k := k) F22 T
  have gNum : ∀ k, FnOk P w K mg base CX0 (k + 1) _ fd23 ["world", "bits"] (spNumber K) := fun k => ok_number (k := k) F23 T Ts
  have gEvery : ∀ k, FnOk P w K mg base CX0 (k + 1) _ fd25 ["names"] (spEvery K) := fun k => ok_every (k := k) F25
  have gEveryT : ∀ k, FnOk P w K mg base CX0 (k + 1) _ fd25 ["names"] (spEveryT K) := fun k => ok_everyT (k := k) F25
  have gAgree : ∀ k, FnOk P w K mg base CX0 (k + 1) _ fd26 ["rows", "here", "there"] (spAgree K) := fun k => ok_agree (k := k) F26
  have gAllMet : ∀ k, FnOk P w K mg base CX0 (k + 1) _ fd27 ["urgent", "here"] (spAllMet K) := fun k => ok_allMet (k := k) F27
  have gFounded : ∀ k, FnOk P w K mg base CX0 (k + 2) _ fd28 ["rows", "there"] (spIsFounded K) := fun k => ok_isFounded (k := k + 1) F28 (gAgree k) B26 F26.kp M26 (gAllMet k) B27 F27.kp M27
  have gMarkS : ∀ k, FnOk P w K mg base CX0 (k + 1) _ fd30 ["marks", "things", "bit"] (spMarkS K) := fun k => ok_markS (k := k) F30
  have gMarkT : ∀ k, FnOk P w K mg base CX0 (k + 1) _ fd30 ["marks", "things", "bit"] (spMarkT K) := fun k => ok_markT (k := k) F30
  have gNext : ∀ k, FnOk P w K mg base CX0 (k + 1) _ fd19 ["reached", "left"] (spNext K) := fun k => ok_next (k := k) F19 T
  have xNotAProgram : ∀ k, ErrT P w K mg base (k + 1) "NotAProgram" "thing" (He.ga K "NotAProgram") := fun k => ⟨oexB_ok (exL_at ce' 2 rfl), ⟨_, _, iNotAProgram1, iNotAProgram2, ok_eNotProg (k := k) EENotProg (oexB_ok (exL_at ce' 2 rfl)) noNotAProgram, BENotProg⟩, mNotAProgram⟩
  have xInvalidWorld : ∀ k, ErrT P w K mg base (k + 1) "InvalidWorld" "thing" (He.ga K "InvalidWorld") := fun k => ⟨oexB_ok (exL_at ce' 4 rfl), ⟨_, _, iInvalidWorld1, iInvalidWorld2, ok_eWorld (k := k) EEWorld (oexB_ok (exL_at ce' 4 rfl)) noInvalidWorld, BEWorld⟩, mInvalidWorld⟩
  have xNotASplit : ∀ k, ErrT P w K mg base (k + 1) "NotASplit" "thing" (He.ga K "NotASplit") := fun k => ⟨oexB_ok (exL_at ce' 6 rfl), ⟨_, _, iNotASplit1, iNotASplit2, ok_eSplit (k := k) EESplit (oexB_ok (exL_at ce' 6 rfl)) noNotASplit, BESplit⟩, mNotASplit⟩
  have gInit : ∀ k, FnR P w K mg base CX0 (k + 5) _ (spInit K (He.ga K "Program")) := fun k => by
    obtain ⟨oc, od, kV, doc, pm, an, cdv, ct, osl, e, lk, hcd⟩ := FInit.ex
    subst e
    exact ok_init (k := k + 4) lk hcd T cP nR (gIsR k) B4 F4.kp M4
  have gOf : ∀ k, FnR P w K mg base CX0 (k + 7) _ (spOf K (He.ga K "Program")) := fun k => fnr_of (ok_of (k := k + 5) FOf MK (gInit k)) BOf
  have gRules : ∀ k, FnOk P w K mg base CX0 (k + 1) _ fdRules ["self"] (spRules K (He.ga K "Program")) := fun k => ok_rules (k := k) FRules cP nR
  have gNames : ∀ k, FnOk P w K mg base CX0 (k + 1) _ fdNames ["self"] (spNames K (He.ga K "Program")) := fun k => ok_names (k := k) FNames T cP nR
  have gTab : ∀ k, FnR P w K mg base CX0 (k + 2) _ (spTabInit K (He.ga K "Table")) := fun k => fnr_of (ok_tabInit (k := k + 1) FTabInit T NT (gMarkS k) (gMarkT k) B30 F30.kp M30) BTabInit
  have gUnmet : ∀ k, FnOk P w K mg base CX0 (k + 1) _ fdUnmet ["self", "row", "asked"] (spUnmet K (He.ga K "Table")) := fun k => ok_unmet (k := k) FUnmet NT
  have gAgainst : ∀ k, FnOk P w K mg base CX0 (k + 2) _ fdAgainst ["self", "row"] (spAgainst K (He.ga K "Table")) := fun k => ok_against (k := k + 1) FAgainst NT meU (gUnmet k) BUnmet
  have gAlone : ∀ k, FnOk P w K mg base CX0 (k + 1) _ fdAlone ["self", "gone"] (spAlone K (He.ga K "Table")) := fun k => ok_alone (k := k) FAlone NT
  have gCP : ∀ k, FnOk P w K mg base (L2.CX P w) (k + 3) _ fd12 ["thing"] (spCheckProgram K (He.ga K "Program") (He.ga K "NotAProgram")) := fun k => ok_checkProgram (k := k + 1) F12 T PG (xNotAProgram k)
  have gCW : ∀ k, FnOk P w K mg base (L2.CX P w) (k + 4) _ fd13 ["thing"] (spCheckWorld K (He.ga K "InvalidWorld")) := fun k => ok_checkWorld (k := k + 2) F13 (gIsW k) B3 F3.kp M3 (xInvalidWorld (k + 1))
  have gSpl : ∀ k, FnOk P w K mg base (L2.CX P w) (k + 5) _ fd14 ["program", "names"] (spSplits K (He.ga K "Program") (He.ga K "NotAProgram") (He.ga K "InvalidWorld")) := fun k => ok_splits (k := k + 3) F14 cP PR (gCP (k + 1)) B12 F12.kp M12 (gCW k) B13 F13.kp M13 (gRules (k + 2)) BRules (gMeet (k + 3)) B6 F6.kp M6 (gHas (k + 3)) B5 F5.kp M5 (gNinW (k + 3)) B8 F8.kp M8
  have gCS : ∀ k, FnOk P w K mg base (L2.CX P w) (k + 6) _ fd15 ["program", "names"] (spCheckSplit K (He.ga K "Program") (He.ga K "NotAProgram") (He.ga K "InvalidWorld") (He.ga K "NotASplit")) := fun k => ok_checkSplit (k := k + 4) F15 (gSpl k) B14 F14.kp M14 (xNotASplit (k + 3))
  have gLow : ∀ k, FnOk P w K mg base (L2.CX P w) (k + 7) _ fd16 ["program", "names"] (spLower K (He.ga K "Program") (He.ga K "NotAProgram") (He.ga K "InvalidWorld") (He.ga K "NotASplit")) := fun k => ok_lower (k := k + 5) F16 cP PR MK (gInit k) mProgram (gCS k) B15 F15.kp M15 (gRules (k + 4)) BRules (gHas (k + 5)) B5 F5.kp M5 (gNinW (k + 5)) B8 F8.kp M8
  have gRest : ∀ k, FnOk P w K mg base (L2.CX P w) (k + 7) _ fd17 ["program", "names", "world"] (spRest K (He.ga K "Program") (He.ga K "NotAProgram") (He.ga K "InvalidWorld") (He.ga K "NotASplit")) := fun k => ok_rest (k := k + 5) F17 cP PR MK (gInit k) mProgram (gCS k) B15 F15.kp M15 (gIsW (k + 3)) B3 F3.kp M3 (xInvalidWorld (k + 4)) (gRules (k + 4)) BRules (gRw (k + 4)) B9 F9.kp M9 (gHas (k + 5)) B5 F5.kp M5 (gNinW (k + 5)) B8 F8.kp M8 (gAskd (k + 5)) B10 F10.kp M10 (gIaf (k + 4)) B11 F11.kp M11
  have gRea : ∀ k, FnOk P w K mg base CX0 (k + 3) _ fd18 ["program"] (spReached K (He.ga K "Program")) := fun k => ok_reached (k := k + 1) F18 T cP PN PR (gNin (k + 1)) B8 F8.kp M8 (gNames k) BNames (gRules k) BRules
  have gLay : ∀ k, FnOk P w K mg base (L2.CX P w) (k + 4) _ fd20 ["program"] (spLayers K (He.ga K "Program") (He.ga K "NotAProgram")) := fun k => ok_layers (k := k + 2) F20 cP PN (gCP k) B12 F12.kp M12 (gRea k) B18 F18.kp M18 (gNames (k + 1)) BNames (gNext (k + 2)) B19 F19.kp M19 (gWout (k + 2)) B7 F7.kp M7
  have gChosen : ∀ k, FnOk P w K mg base CX0 (k + 5) _ fd21 ["program", "names"] (spChosen K (He.ga K "Program")) := fun k => ok_chosen (k := k + 3) F21 cP PN (gCP (k + 1)) B12 F12.kp M12 (gNames (k + 2)) BNames (gIsW (k + 1)) B3 F3.kp M3 (gHas (k + 3)) B5 F5.kp M5
  have gChosenM : ∀ k, FnOk P w K mg base CX0 (k + 5) _ fd21 ["program", "names"] (spChosenM K (He.ga K "Program")) := fun k => ok_chosenM (gChosen k)
  have gNumd : ∀ k, FnOk P w K mg base CX0 (k + 3) _ fd24 ["program", "bits"] (spNumbered K (He.ga K "Program")) := fun k => ok_numbered (k := k + 1) F24 T cP PR (gNum (k + 1)) B23 F23.kp M23 (gRules k) BRules
  have gAnswers : ∀ k, FnOk P w K mg base (L2.CX P w) (k + 5) _ fd29 ["program"] (spAnswers K (He.ga K "Program") (He.ga K "NotAProgram")) := fun k => ok_answers (k := k + 3) F29 cP PN (gCP (k + 1)) B12 F12.kp M12 (gNames (k + 2)) BNames (gBits (k + 3)) B22 F22.kp M22 (gNumd (k + 1)) B24 F24.kp M24 (gEvery (k + 3)) B25 F25.kp M25 (gFounded (k + 2)) B28 F28.kp M28 (gNum (k + 3)) B23 F23.kp M23
  have gRowsOf : ∀ k, FnOk P w K mg base CX0 (k + 3) _ fd31 ["program", "parts"] (spRowsOf K (He.ga K "Program")) := fun k => ok_rowsOf (k := k + 1) F31 T cP PR (gRules k) BRules (gNin (k + 1)) B8 F8.kp M8
  have gPairs : ∀ k, CFn P w K mg base (k + 6) _ fdPairs ["program", "names"] (spPairs K (He.ga K "Program")) := fun k => ok_pairs (k := k + 5) EPairs (gChosenM k) B21 F21.kp M21 (gBits (k + 4)) B22 F22.kp M22 (gNumd (k + 2)) B24 F24.kp M24 (gEveryT (k + 4)) B25 F25.kp M25 (gNum (k + 4)) B23 F23.kp M23 (gAgree (k + 4)) B26 F26.kp M26
  have gWith : ∀ k, FnOk P w K mg base CX0 (k + 10) _ fd32 ["found", "earlier", "layer", "rows"] (spWith K) := fun k => ok_with (k := k + 6) F32 T NT MK (gInit (k + 3)) mProgram MT (gTab (k + 6)) mTable (gPairs k) BW EPairs.kp MPairs meA (gAgainst (k + 7)) BAgainst meL (gAlone (k + 8)) BAlone (gAskd (k + 8)) B10 F10.kp M10 (gRw (k + 7)) B9 F9.kp M9 (gIaf (k + 7)) B11 F11.kp M11
  have gAll : ∀ k, CFn P w K mg base (k + 11) _ fd33 ["program"] (spAllAns K (He.ga K "Program")) := fun k => ok_allAns (k := k + 10) EAll T (gCP (k + 7)) B12 F12.kp M12 (gLay (k + 6)) B20 F20.kp M20 (gRowsOf (k + 7)) B31 F31.kp M31 (gWith k) B32 F32.kp M32
  have gAt : ∀ k, FnOk P w K mg base CX0 (k + 1) _ fd34 ["script", "k"] (spLawAt K) := fun k => ok_lawAt (k := k) F34 T
  have gMix : ∀ k, FnOk P w K mg base CX0 (k + 1) _ fd35 ["cell", "k"] (spLawMixed) := fun k => ok_lawMixed (k := k) F35 T
  have gPur : ∀ k, FnOk P w K mg base CX0 (k + 2) _ fd36 ["script", "at"] (spLawPurse K) := fun k => ok_lawPurse (k := k + 1) F36 T (gAt k) B34 F34.kp M34
  have gDraw : ∀ k, FnOk P w K mg base CX0 (k + 2) _ fd37 ["purse", "out_of"] (spLawDraw) := fun k => ok_lawDraw (k := k + 1) F37 T (gMix k) B35 F35.kp M35
  have gSome : ∀ k, FnOk P w K mg base CX0 (k + 3) _ fd38 ["purse", "names", "most"] (spLawSome K) := fun k => ok_lawSome (k := k + 2) F38 T (gDraw k) B37 F37.kp M37
  have gRule : ∀ k, FnOk P w K mg base CX0 (k + 4) _ fd39 ["purse", "names", "sort"] (spLawRule K) := fun k => ok_lawRule (k := k + 3) F39 T (gDraw (k + 1)) B37 F37.kp M37 (gSome k) B38 F38.kp M38
  have gLRules : ∀ k, FnOk P w K mg base CX0 (k + 5) _ fd40 ["purse", "names", "sort", "most"] (spLawRules K) := fun k => ok_lawRules (k := k + 4) F40 T (gDraw (k + 2)) B37 F37.kp M37 (gRule k) B39 F39.kp M39
  have gLots : ∀ k, FnOk P w K mg base CX0 (k + 6) _ fd41 ["purse", "sheet", "letters"] (spLawLots K (He.ga K "Program")) := fun k => ok_lawLots (k := k + 5) F41 T (gDraw (k + 3)) B37 F37.kp M37 (gLay (k + 1)) B20 F20.kp M20 (gSpl k) B14 F14.kp M14
  have gRight : ∀ k, FnOk P w K mg base CX0 (k + 8) _ fd42 ["sheet", "lot", "found"] (spLawRight K (He.ga K "Program")) := fun k => ok_lawRight (k := k + 6) F42 T cP PN (gNames (k + 5)) BNames (gLow k) B16 F16.kp M16 (gAnswers (k + 2)) B29 F29.kp M29 (gRest k) B17 F17.kp M17
  exact ok_law (k := 11) F43 T Tz mProgram CR CO (gOf 5) (gAll 0) B33 F33.kp M33 (gPur 10) B36 F36.kp M36 (gDraw 10) B37 F37.kp M37 (gLRules 7) B40 F40.kp M40 (gAnswers 7) B29 F29.kp M29 (gLots 6) B41 F41.kp M41 (gSpl 7) B14 F14.kp M14 (gRight 4) B42 F42.kp M42
end Rw
open PySem PySem.W PySem.Calls PyProof.Rows
theorem PySem.Challenge.cw_ruleworlds_k72_whole_programs_split_holds : PySem.Challenge.rw_ruleworlds_k72_whole_programs_split.Holds := by
  w_on; o_law
  refine HandSHeadRun.head_any (r := OpenLaw.row PySem.Challenge.rw_ruleworlds_k72_whole_programs_split) (q := view (OpenLaw.row PySem.Challenge.rw_ruleworlds_k72_whole_programs_split).prog [66]) (H := Rw.hH) (ob := Rw.hob) (M := 9000) (loose := Rw.hloose) (d := HandSHeadRun.topDef (OpenLaw.row PySem.Challenge.rw_ruleworlds_k72_whole_programs_split).prog 66) (kwd := []) Rw.hob_eq
    (by kernel_rfl) (fun s => by kernel_rfl) Rw.hrun (by kernel_rfl) (by kernel_rfl) (by kernel_rfl) (by rfl) (by first | assumption | decide +kernel) (by decide +kernel) ⟨rfl, rfl, rfl, rfl, rfl, by decide +kernel⟩ ?hw ?hc
  case hw => w_witness2
  case hc =>
    refine L2.walk_ofE (l := PySem.Challenge.rw_ruleworlds_k72_whole_programs_split) (n := 63) (k := 13) (x := "script") (CX := L2.CX0) rfl (by decide) (by kernel_rfl) ⟨rfl, by decide, by decide⟩ ?F (fun _ _ _ _ z => z)
    intro w mg fa h Y G hmg0
    obtain ⟨K, KX, c, ce⟩ := Y
    have hmg : mg ("law" : PySem.Str) = some (.ref fa) := by
      have e : (HandSHeadRun.topDef (OpenLaw.row PySem.Challenge.rw_ruleworlds_k72_whole_programs_split).prog 66).name = ("law" : PySem.Str) := by kernel_rfl
      rw [← e]
      exact hmg0
    obtain ⟨fd, hb, hF⟩ := Rw.hfacts (P := (PySem.Challenge.rw_ruleworlds_k72_whole_programs_split).prog) (w := w) KX G hmg c ce
    exact ⟨K, fd, Rw.spLaw K, KX, hb, fun H a ns hl _ hS => ⟨a, ns, rfl, hS, hl, fun _ => rfl⟩, hF⟩
