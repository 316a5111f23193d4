import PyProof.Rows.All
import Wide.All
import OpenK.AllK
import Wide.FinOn
import HandS.TupSets
import KE.KeyNested
import KE.KDictKeyed
import KE.SortData
import HandS.SetTxt0
import KE.DataCmp
import HandS.ForMost
import HandS.DictComp
import KE.GoesComp
import KE.GoesMore
import HandS.IsInst
import HandS.Defaults
import HandS.TupAny
import HandS.Deep
import HandS.Style
import HandS.Star
import HandS.ClsMeth
import HandS.Property
import HandS.CallLocal
import HandS.SlotsOwn
import HandS.Exc
import HandS.ExcInit
import HandS.ExcValue
import HandS.ExcIs
import HandS.ExcField
import KE.KStateDown
import HandS.Head0
import HandS.Head1
import HandS.Head2
import HandS.HeadEnd
import HandS.HeadHook1
import HandS.HeadHook2
import HandS.HeadHook3
import HandS.HeadHook4
import HandS.HeadNt
import PySem.Challenge.RW_ruleworlds_k76_whole_conflicts_and_cures
import HandS.SetBool
import HandS.WordsExc
import KE.KBits
import HandS.Walk
import KE.KRevSl
import HandS.GenList
import HandS.Comp
import HandS.Dict
import HandS.List
import HandS.WideBits
import KE.IntBitsLaws
import HandS.DeepEq
import HandS.OwnEq
import HandS.Spec
set_option Elab.async false
set_option linter.all false
set_option maxRecDepth 100000
set_option maxHeartbeats 0
namespace Rw
open PySem PySem.Spec PyProof.Rows L2 ClX
/-! ### the head, run -/
def hookY (n : Nat) (fa : List He.Fa) (fn : List He5.DefA) (ex : PySem.W.Frag → Bool) : PySem.W.Hook where
  α := He.AlD × Bool
  obs s := (He5.obsAG n fa fn s.heap.get?, ex (He.frG s.heap.get? (He5.asA s.heap.get? n)))
  val _ := (He5.valA fn, true)
  says _ h := ∃ K : PySem.W.Frag, K.In h ∧ He5.SaysA fa fn K ∧ ex K = true
  of _ s e := ⟨_, He.frG_in, (Prod.mk.inj e).1, (Prod.mk.inj e).2⟩
  keeps _ _ _ | ⟨K, X, a, b⟩, k => ⟨K, fun c o e => k _ _ (X c o e), a, b⟩
def obY (n : Nat) (fa : List He.Fa) (fn : List He5.DefA) (ex : PySem.W.Frag → Bool) (g : Addr → Option Obj) : He.AlD × Bool := (He5.obsAG n fa fn g, ex (He.frG g (He5.asA g n)))
theorem obY_eq {n : Nat} {fa : List He.Fa} {fn : List He5.DefA} {ex : PySem.W.Frag → Bool} {g : Addr → Option Obj} {s : Shared} (h : ∀ a, g a = s.heap.get? a) : obY n fa fn ex g = (hookY n fa fn ex).obs s := by
  have e : g = s.heap.get? := funext h
  subst e
  rfl
def clsB (K : PySem.W.Frag) (C : Addr) (f : List Value → Addr → Bool → Bool) (nid : String) : Bool :=
  match K.lookup C with
  | some ⟨.type t, _, .cls cd, sl⟩ => decide (t = "type" ∧ cd.hasDel = false) && (decide (cd.mro = .ref C :: cd.mro.tail) && (f cd.mro.tail cd.ns cd.hasDict && (match sl with | ⟨[_, _, _, _, some (.builtin i), _]⟩ => decide (i = nid) | _ => false)))
  | _ => false
def oexB (K : PySem.W.Frag) (C : Addr) : Bool := clsB K C (fun bm _ hd => hd && HandSPX.refsVE bm) "ValueError.__new__" && (decide (PySem.W.findIn K (.ref C) "__setattr__" = some (some (.builtin "object.__setattr__"))) && (decide (PySem.W.subIn K (.ref C) (.type "BaseException") = some true) && (decide (PySem.W.typeIn K (.ref C) = some (.type "type")) && PySem.W.keepIn K (.ref C))))
def excP (K : PySem.W.Frag) (D : Addr) : Prop := PySem.W.findIn K (.ref D) "__getattribute__" = some (some (.builtin "BaseException.__getattribute__")) ∧ PySem.W.findIn K (.ref D) "__getattr__" = some none ∧ PySem.W.subIn K (.ref D) (.type "BaseException") = some true ∧ PySem.W.hasDictIn K D = true ∧
  PySem.W.findIn K (.ref D) "__class__" = some (some (.builtin "object.__class__")) ∧ PySem.W.specialIn K (.builtin "object.__class__") "__get__" = some (some (.builtin "getset_descriptor.__get__")) ∧ PySem.W.takesIn K (.builtin "object.__class__") = some true ∧ PySem.W.mroIn K D (.type "object") = some true
instance (K : PySem.W.Frag) (D : Addr) : Decidable (excP K D) := by unfold excP; infer_instance
def initP (K : PySem.W.Frag) (C : Addr) : Prop := PySem.W.findIn K (.ref C) "__init__" = some (some (.ref (He.ma K C "__init__"))) ∧ PySem.W.typeIn K (.ref (He.ma K C "__init__")) = some (.type "function")
instance (K : PySem.W.Frag) (D : Addr) : Decidable (initP K D) := by unfold initP; infer_instance
def propP (K : PySem.W.Frag) (C : Addr) (f : Str) : Prop := PySem.W.findIn K (.ref C) f = some (some (.ref (He.ma K C f))) ∧ PySem.W.specialIn K (.ref (He.ma K C f)) "__get__" = some (some (.builtin "property.__get__")) ∧ PySem.W.takesIn K (.ref (He.ma K C f)) = some true
instance (K : PySem.W.Frag) (D : Addr) (f : Str) : Decidable (propP K D f) := by unfold propP; infer_instance
def recB (K : PySem.W.Frag) (p : Addr) (T : String) : Bool := match PySem.W.recIn K p T with | some (.ref _ :: _) => true | _ => false
def lettersS : Str := ("abcdefghijklmnopqrstuvwxyz" : Str)
def topS (i : Nat) : Stmt := PySem.Challenge.pw_ruleworlds_k76_whole_conflicts_and_cures.main.body.getD i (.Pass ⟨0, 0, 0, 0⟩)
abbrev sIsName : Stmt := topS 10
abbrev sIsWorld : Stmt := topS 11
abbrev sIsRule : Stmt := topS 12
abbrev sAreNames : Stmt := topS 14
abbrev sSetOf : Stmt := topS 15
abbrev sInit : Stmt := inClass (topS 13) 0
abbrev sOf : Stmt := inClass (topS 13) 1
abbrev sRules : Stmt := inClass (topS 13) 5
abbrev sNames : Stmt := inClass (topS 13) 6
abbrev sHasAll : Stmt := topS 22
abbrev sENotProg : Stmt := inClass (topS 4) 0
abbrev sEWorld : Stmt := inClass (topS 5) 0
abbrev sCheckProgram : Stmt := topS 23
abbrev sBitsOf : Stmt := topS 30
abbrev sNumber : Stmt := topS 31
abbrev sNumbered : Stmt := topS 32
abbrev sAgree : Stmt := topS 34
abbrev sAllMet : Stmt := topS 36
abbrev sIsFounded : Stmt := topS 35
abbrev sEvery : Stmt := topS 33
abbrev sAnswers : Stmt := topS 26
abbrev sChosen : Stmt := topS 29
abbrev sWorlds : Stmt := topS 25
abbrev sMark : Stmt := topS 28
abbrev sTabInit : Stmt := inClass (topS 27) 0
abbrev sAgainst : Stmt := inClass (topS 27) 1
abbrev sUnmet : Stmt := inClass (topS 27) 3
abbrev sUnion : Stmt := topS 41
abbrev sShared : Stmt := topS 42
abbrev sTakesJust : Stmt := topS 43
abbrev sLeastCure : Stmt := topS 44
abbrev sParts : Stmt := topS 45
abbrev sPicked : Stmt := topS 46
abbrev sTaken : Stmt := topS 40
abbrev sAdd : Stmt := inClass (topS 13) 8
abbrev sContains : Stmt := inClass (topS 13) 10
abbrev sPLen : Stmt := inClass (topS 13) 11
abbrev sPEq : Stmt := inClass (topS 13) 12
abbrev sConflicts : Stmt := topS 38
abbrev sCures : Stmt := topS 39
abbrev sLawAt : Stmt := topS 48
abbrev sLawMixed : Stmt := topS 49
abbrev sLawPurse : Stmt := topS 50
abbrev sLawDraw : Stmt := topS 51
abbrev sLawSome : Stmt := topS 52
abbrev sLawRule : Stmt := topS 53
abbrev sLawHas : Stmt := topS 54
abbrev sSub : Stmt := inClass (topS 13) 9
abbrev sLawMeets : Stmt := topS 55
abbrev sLawDrawn : Stmt := topS 56
abbrev sLeastR : Stmt := topS 57
abbrev sLaw : Stmt := topS 58
/-! ### what the top has written -/
def dOf (x : Str) (st : Stmt) : He5.DefA := ⟨fun K => He.ga K x, x, x, defArgs st, defBody st, defScope st, [], []⟩
def dOfV (x : Str) (st : Stmt) (v : He.Dv) : He5.DefA := ⟨fun K => He.ga K x, x, x, defArgs st, defBody st, defScope st, [v], []⟩
def dMInit : He5.DefA := ⟨fun K => He.ma K (He.ga K "Program") "__init__", "__init__", "Program.__init__", defArgs sInit, defBody sInit, defScope sInit, [], []⟩
def dMOf : He5.DefA := ⟨fun K => He5.wf K (He.ga K "Program") "classmethod" "of", "of", "Program.of", defArgs sOf, defBody sOf, defScope sOf, [], []⟩
def dMRules : He5.DefA := ⟨fun K => He5.wf K (He.ga K "Program") "property" "rules", "rules", "Program.rules", defArgs sRules, defBody sRules, defScope sRules, [], []⟩
def dMNames : He5.DefA := ⟨fun K => He5.wf K (He.ga K "Program") "property" "names", "names", "Program.names", defArgs sNames, defBody sNames, defScope sNames, [], []⟩
def dMAdd : He5.DefA := ⟨fun K => He.ma K (He.ga K "Program") "__add__", "__add__", "Program.__add__", defArgs sAdd, defBody sAdd, defScope sAdd, [], []⟩
def dMSub : He5.DefA := ⟨fun K => He.ma K (He.ga K "Program") "__sub__", "__sub__", "Program.__sub__", defArgs sSub, defBody sSub, defScope sSub, [], []⟩
def dMContains : He5.DefA := ⟨fun K => He.ma K (He.ga K "Program") "__contains__", "__contains__", "Program.__contains__", defArgs sContains, defBody sContains, defScope sContains, [], []⟩
def dMPLen : He5.DefA := ⟨fun K => He.ma K (He.ga K "Program") "__len__", "__len__", "Program.__len__", defArgs sPLen, defBody sPLen, defScope sPLen, [], []⟩
def dMPEq : He5.DefA := ⟨fun K => He.ma K (He.ga K "Program") "__eq__", "__eq__", "Program.__eq__", defArgs sPEq, defBody sPEq, defScope sPEq, [], []⟩
def dMTabInit : He5.DefA := ⟨fun K => He.ma K (He.ga K "Table") "__init__", "__init__", "Table.__init__", defArgs sTabInit, defBody sTabInit, defScope sTabInit, [], []⟩
def dMAgainst : He5.DefA := ⟨fun K => He.ma K (He.ga K "Table") "against", "against", "Table.against", defArgs sAgainst, defBody sAgainst, defScope sAgainst, [], []⟩
def dMUnmet : He5.DefA := ⟨fun K => He.ma K (He.ga K "Table") "_unmet", "_unmet", "Table._unmet", defArgs sUnmet, defBody sUnmet, defScope sUnmet, [], []⟩
def dMENotProg : He5.DefA := ⟨fun K => He.ma K (He.ga K "NotAProgram") "__init__", "__init__", "NotAProgram.__init__", defArgs sENotProg, defBody sENotProg, defScope sENotProg, [.non], []⟩
def hfn1 : List He5.DefA := [dOf "is_name" sIsName, dOf "_are_names" sAreNames, dOf "_set_of" sSetOf, dOf "is_world" sIsWorld, dOf "is_rule" sIsRule, dOf "has_all" sHasAll, dOf "check_program" sCheckProgram, dOf "_chosen_names" sChosen, dOf "_bits_of" sBitsOf, dOf "_number" sNumber, dOf "_numbered" sNumbered, dOf "_every_world" sEvery, dOf "_agree" sAgree, dOf "_all_met" sAllMet, dOf "_is_founded" sIsFounded, dOf "answers" sAnswers, dOf "_mark" sMark, dOf "_union" sUnion, dOf "_shared" sShared, dOf "_takes_just" sTakesJust, dOf "_is_least_cure" sLeastCure, dOf "_parts" sParts, dOf "_picked" sPicked, dOf "_taken_worlds" sTaken, dOf "conflicts" sConflicts, dOf "cures" sCures, dOf "_law_at" sLawAt, dOf "_law_mixed" sLawMixed, dOf "_law_purse" sLawPurse, dOf "_law_draw" sLawDraw, dOf "_law_some" sLawSome, dOf "_law_rule" sLawRule, dOf "_law_has" sLawHas, dOf "_law_meets" sLawMeets, dOf "_law_drawn" sLawDrawn, dOf "_law_least_right" sLeastR, dOf "law" sLaw]
def hfn2 : List He5.DefA := [dMInit, dMOf, dMRules, dMNames, dMAdd, dMSub, dMContains, dMPLen, dMPEq, dMTabInit, dMAgainst, dMUnmet, dMENotProg]
def hfn3 : List He5.DefA := [dOfV "worlds" sWorlds (.non)]
def hfn : List He5.DefA := hfn1 ++ hfn2 ++ hfn3
def hfa1 : List He.Fa := [.free "len", .free "isinstance", .free "all", .free "any", .free "tuple", .free "list", .free "sorted", .free "set", .free "str", .free "int", .free "max", .free "min", .free "range", .free "enumerate", .free "sum", .str "LETTERS" lettersS, .glo "Program", .glo "NotAProgram", .glo "Table", .glo "is_name", .glo "_are_names", .glo "_set_of", .glo "is_world", .glo "is_rule", .glo "has_all"]
def hfa2 : List He.Fa := [.glo "check_program", .glo "_chosen_names", .glo "_bits_of", .glo "_number", .glo "_numbered", .glo "_every_world", .glo "_agree", .glo "_all_met", .glo "_is_founded", .glo "answers", .glo "_mark", .glo "_union", .glo "_shared", .glo "_takes_just", .glo "_is_least_cure", .glo "_parts", .glo "_picked", .glo "_taken_worlds", .glo "conflicts", .glo "cures", .glo "_law_at", .glo "_law_mixed", .glo "_law_purse", .glo "_law_draw", .glo "_law_some"]
def hfa3 : List He.Fa := [.glo "_law_rule", .glo "_law_has", .glo "_law_meets", .glo "_law_drawn", .glo "_law_least_right", .glo "law", .glo "worlds", .cls "Program", .noat "Program" "_rules", .mkr "Program", .cls "Table", .mkr "Table", .meth "Table" "against", .meth "Table" "_unmet", .noat "Table" "every", .noat "Table" "_here", .noat "Table" "_there", .noat "Table" "_own", .noat "Table" "_around", .noat "NotAProgram" "thing"]
def hfa : List He.Fa := hfa1 ++ hfa2 ++ hfa3
/-- more of the classes -/
def pgP (K : PySem.W.Frag) (C : Addr) : Prop := PySem.W.kitOne K (.ref C) (.ref C) = some true ∧ PySem.W.kitOne K (.type "NoneType") (.ref C) = some false ∧ PySem.W.kitOne K (.type "bool") (.ref C) = some false ∧ PySem.W.kitOne K (.type "int") (.ref C) = some false ∧ PySem.W.kitOne K (.type "str") (.ref C) = some false ∧
  PySem.W.kitOne K (.type "list") (.ref C) = some false ∧ PySem.W.kitOne K (.type "tuple") (.ref C) = some false ∧ PySem.W.kitOne K (.type "dict") (.ref C) = some false ∧ PySem.W.findIn K (.ref C) "__class__" = some (some (.builtin "object.__class__")) ∧
  PySem.W.specialIn K (.builtin "object.__class__") "__get__" = some (some (.builtin "getset_descriptor.__get__")) ∧ PySem.W.takesIn K (.builtin "object.__class__") = some true ∧ PySem.W.mroIn K C (.type "object") = some true
instance (K : PySem.W.Frag) (C : Addr) : Decidable (pgP K C) := by unfold pgP; infer_instance
def readP (K : PySem.W.Frag) (C : Addr) : Prop := PySem.W.readsIn K C (.type "type") = true ∧ PySem.W.specialIn K (.ref C) "__getattribute__" = some (some (.builtin "type.__getattribute__"))
instance (K : PySem.W.Frag) (C : Addr) : Decidable (readP K C) := by unfold readP; infer_instance
def exL0 (K : PySem.W.Frag) (C : Addr) : List Bool := [decide (pgP K C), decide (readP K C), oexB K (He.ga K "NotAProgram"), decide (initP K (He.ga K "NotAProgram")), decide (propP K C "rules"), recB K (He.ma K C "rules") "property", decide (propP K C "names"), recB K (He.ma K C "names") "property", He5.wrapB K C "classmethod" "classmethod.__get__" "of", PySem.W.fnIn K (He5.wf K C "classmethod" "of"), decide (PySem.W.findIn K (.ref C) "__eq__" = some (some (.ref (He.ma K C "__eq__")))), PySem.W.isFn K (.ref (He.ma K C "__eq__"))]
def exL1 (K : PySem.W.Frag) (C : Addr) : List Bool := [decide (PySem.W.findIn K (.ref C) "__add__" = some (some (.ref (He.ma K C "__add__")))), PySem.W.isFn K (.ref (He.ma K C "__add__")), decide (PySem.W.findIn K (.ref C) "__sub__" = some (some (.ref (He.ma K C "__sub__")))), PySem.W.isFn K (.ref (He.ma K C "__sub__")), decide (PySem.W.findIn K (.ref C) "__len__" = some (some (.ref (He.ma K C "__len__")))), PySem.W.isFn K (.ref (He.ma K C "__len__")), decide (PySem.W.findIn K (.ref C) "__contains__" = some (some (.ref (He.ma K C "__contains__")))), PySem.W.isFn K (.ref (He.ma K C "__contains__")), PySem.W.selfFirst K C]
def exL (K : PySem.W.Frag) (C : Addr) : List Bool := exL0 K C ++ exL1 K C
def exB (K : PySem.W.Frag) : Bool := (exL K (He.ga K "Program")).all id
abbrev hR : PySem.W.OpenRow := PySem.W.OpenLaw.row PySem.Challenge.rw_ruleworlds_k76_whole_conflicts_and_cures
abbrev hH : PySem.W.Hook := hookY 6 hfa hfn exB
def hob (s : PySem.W.SharedT) : He.AlD × Bool := obY 6 hfa hfn exB (HandSHeadRun.getT s)
theorem hob_eq (s : PySem.W.SharedT) : hob s = hH.obs s.abs := obY_eq (HandSHeadRun.getT_eq s)
def hloose1 : List Str := ["_wall", "RuleError", "InvalidRule", "NotAProgram", "InvalidWorld", "Unreadable", "LETTERS", "NOT", "is_name", "is_world", "is_rule", "Program", "_are_names", "_set_of", "_written_rule", "_with_not", "_read_rule", "_halves", "_without_not", "has_all", "check_program", "worlds", "answers", "Table", "_mark", "_chosen_names", "_bits_of", "_number", "_numbered", "_every_world"]
def hloose2 : List Str := ["_agree", "_is_founded", "_all_met", "conflicts", "cures", "_taken_worlds", "_union", "_shared", "_takes_just", "_is_least_cure", "_parts", "_picked", "_law_at", "_law_mixed", "_law_purse", "_law_draw", "_law_some", "_law_rule", "_law_has", "_law_meets", "_law_drawn", "_law_least_right"]
def hloose : List Str := hloose1 ++ hloose2
theorem hrun (w : World) : HandSHeadRun.RunEq hR (PySem.W.view hR.prog [58]) hH hob 9000 hloose w := by
  intro os
  kernel_rfl
end Rw
/-! Sets whose members are texts, or tuples of texts and of such tuples: made of a list or a tuple, and gathered again. -/
namespace Rw
open PySem PySem.Spec PyProof.Rows L2
abbrev NK := NestedKey
section
variable {P : Program} {w : World}
/-! no class statement stands in a key -/
mutual
theorem noCls : ∀ (k : NK) (v : Value) (n : Nat) (A : Around) (E : Value → Shared → Prop) (s : Shared) (Q : Bool → Shared → Prop), NestedIs s.heap k v → k.depth ≤ n → Q false s → wpAny (model P w) A (ofAClassStatement n v) Q E s
  | .none, _, n, A, E, s, Q, x, _, h => by
    cases x
    cases n <;> exact wpAny_pure h
  | .num i, _, n, A, E, s, Q, x, _, h => by
    cases x <;> cases n <;> exact wpAny_pure h
  | .text y, _, n, A, E, s, Q, x, _, h => by
    cases x
    cases n <;> exact wpAny_pure h
  | .tup ks, _, n, A, E, s, Q, x, hn, h => by
    cases x with
    | @tup a o vs m _ hg hc hd hk =>
      simp only [NestedKey.depth] at hn
      cases n with
      | zero => omega
      | succ n =>
        have hT : s.TypeIs (.ref a) "tuple" := ⟨o, hg, hc⟩
        unfold ofAClassStatement
        refine wpAny_bind (wpAny_typeOf hT ?_)
        dsimp only
        have e : (("tuple" : String) == "tuple") = true := by decide
        simp only [e, if_true, Bool.not_true, Bool.false_eq_true, if_false]
        try refine wpAny_bind (wpAny_pure ?_)
        try simp only [Bool.not_true, Bool.false_eq_true, if_false]
        show wpAny _ _ (seqItems? (.ref a) >>= _) _ _ s
        refine wpAny_bind (wpAny_seqItems hg hd ?_)
        dsimp only
        refine wpAny_bind ?_
        show wpAny _ _ (forIn vs _ _) _ _ s
        rw [← Array.forIn_toList]
        refine noClsAll ks vs.toList n A E s _ hk (by omega) ?_
        exact wpAny_pure h
theorem noClsAll : ∀ (ks : List NK) (vs : List Value) (n : Nat) (A : Around) (E : Value → Shared → Prop) (s : Shared) (Q : Option Bool × Unit → Shared → Prop), NestedAll s.heap ks vs → NestedKey.depthAll ks ≤ n → Q (none, ()) s →
    wpAny (model P w) A (forIn vs ((none, ()) : Option Bool × Unit) fun y r => do if ← ofAClassStatement n y then pure (ForInStep.done (some true, ())) else pure (ForInStep.yield (none, ()))) Q E s
  | [], _, n, A, E, s, Q, x, _, h => by
    cases x
    exact wpAny_pure h
  | k :: ks, _, n, A, E, s, Q, x, hn, h => by
    cases x with
    | cons x1 x2 =>
      simp only [NestedKey.depthAll] at hn
      rw [List.forIn_cons]
      refine wpAny_bind (wpAny_bind (noCls k _ n A E s _ x1 (by omega) ?_))
      simp only [Bool.false_eq_true, if_false]
      refine wpAny_pure ?_
      exact noClsAll ks _ n A E s Q x2 (by omega) h
end
/-! whether a key is hashed by its value: either answer -/
mutual
theorem byVal : ∀ (k : NK) (v : Value) (n : Nat) (A : Around) (E : Value → Shared → Prop) (s : Shared) (Q : Bool → Shared → Prop), NestedIs s.heap k v → (∀ b, Q b s) → wpAny (model P w) A (hashByValue n v) Q E s
  | .none, _, n, A, E, s, Q, x, h => by
    cases x
    cases n <;> exact wpAny_pure (h _)
  | .num i, _, n, A, E, s, Q, x, h => by
    cases x <;> cases n <;> exact wpAny_pure (h _)
  | .text y, _, n, A, E, s, Q, x, h => by
    cases x
    cases n <;> exact wpAny_pure (h _)
  | .tup ks, _, n, A, E, s, Q, x, h => by
    cases x with
    | @tup a o vs m _ hg hc hd hk =>
      cases n with
      | zero => exact wpAny_pure (h _)
      | succ n =>
        have hT : s.TypeIs (.ref a) "tuple" := ⟨o, hg, hc⟩
        unfold hashByValue
        refine wpAny_bind (wpAny_specialOf hT F.slot_tuple_hash.lookup ?_)
        show wpAny _ _ (seqItems? (.ref a) >>= _) _ _ s
        refine wpAny_bind (wpAny_seqItems hg hd ?_)
        refine wpAny_bind ?_
        show wpAny _ _ (forIn vs _ _) _ _ s
        rw [← Array.forIn_toList]
        refine byValAll ks vs.toList n A E s _ hk ?_ ?_
        · exact wpAny_pure (h _)
        · exact wpAny_pure (h _)
theorem byValAll : ∀ (ks : List NK) (vs : List Value) (n : Nat) (A : Around) (E : Value → Shared → Prop) (s : Shared) (Q : Option Bool × Unit → Shared → Prop), NestedAll s.heap ks vs → Q (none, ()) s → Q (some false, ()) s →
    wpAny (model P w) A (forIn vs ((none, ()) : Option Bool × Unit) fun y r => do if !(← hashByValue n y) then pure (ForInStep.done (some false, ())) else pure (ForInStep.yield (none, ()))) Q E s
  | [], _, n, A, E, s, Q, x, h, _ => by
    cases x
    exact wpAny_pure h
  | k :: ks, _, n, A, E, s, Q, x, h, h2 => by
    cases x with
    | cons x1 x2 =>
      rw [List.forIn_cons]
      refine wpAny_bind (wpAny_bind (byVal k _ n A E s _ x1 fun b => ?_))
      cases b with
      | true =>
        simp only [Bool.not_true, Bool.false_eq_true, if_false]
        refine wpAny_pure ?_
        exact byValAll ks _ n A E s Q x2 h h2
      | false =>
        simp only [Bool.not_false, if_true]
        exact wpAny_pure (wpAny_pure h2)
end
end
/-! ### sets of tuples -/
/-- a tuple that is a key, not too deep -/
def TupK (h : Heap) (k : NK) (a : Addr) : Prop := NestedIs h k (.ref a) ∧ k.depth ≤ 8
theorem TupK.one {h : Heap} {k k' : NK} {a : Addr} (x : TupK h k a) (y : TupK h k' a) : k = k' := NestedIs.inj _ _ _ x.1 y.1
theorem TupK.kept {h h' : Heap} {k : NK} {a : Addr} (x : TupK h k a) (u : ∀ b o, h.get? b = some o → h'.get? b = some o) : TupK h' k a :=
  ⟨NestedIs.at (fun b o _ _ e _ => u b o e) _ _ x.1, x.2⟩
/-- all but a set stays -/
theorem TupK.butSet {h h' : Heap} {k : NK} {a b : Addr} {o : Obj} {es : Array (Int × Value)} {ep : Nat} {t : SetTable} (x : TupK h k b) (ho : h.get? a = some o) (hd : o.data = .set es ep t) (sb : Heap.SameBut a h h') : TupK h' k b := by
  refine ⟨NestedIs.at (fun c u vs n e es' => (sb.2 c ?_).trans e) _ _ x.1, x.2⟩
  intro z
  subst z
  have q : u = o := Option.some.inj (e.symm.trans ho)
  rw [q, hd] at es'
  exact nomatch es'
/-- the entries of a table -/
def ents (w : World) (L : List (Addr × NK)) : List (Int × Value) := L.map fun p => (p.2.hash w, Value.ref p.1)
def hashes (w : World) (L : List (Addr × NK)) : List Int := L.map fun p => p.2.hash w
theorem ents_len (w : World) (L : List (Addr × NK)) : (ents w L).length = L.length := List.length_map _
theorem hashes_len (w : World) (L : List (Addr × NK)) : (hashes w L).length = L.length := List.length_map _
structure TSet (P : Program) (w : World) (h : Heap) (a : Addr) (L : List (Addr × NK)) (es : Array (Int × Value)) (ep : Nat) (t : SetTable) : Prop where
  ob : ∃ o, h.get? a = some o ∧ o.ExactSet ∧ o.data = .set es ep t
  en : es.toList = ents w L
  tab : TabOk t (hashes w L)
  nd : (L.map (·.2)).Nodup
  ks : ∀ p ∈ L, TupK h p.2 p.1
  led : w.params.followText "set-order" = true ∨ t.led = true
  room : L.length * 5 < t.mask * 3
  few : L.length < 76
section
variable {P : Program} {w : World} {A : Around} {E : Value → Shared → Prop} {s : Shared} {a : Addr} {L : List (Addr × NK)} {es : Array (Int × Value)} {ep : Nat} {t : SetTable}
theorem size_of_ents (h : es.toList = ents w L) : es.size = L.length := by
  rw [← Array.length_toList, h, ents_len]
theorem TSet.fits (R : TSet P w s.heap a L es ep t) : t.fits es.size = true := by
  have a1 := R.tab.sz
  have a2 := size_of_ents R.en
  have a3 := R.room
  rw [hashes_len] at a1
  unfold SetTable.fits SetTable.fill
  rw [R.tab.dm, Bool.and_eq_true, beq_iff_eq, decide_eq_true_eq]
  refine ⟨by omega, ?_⟩
  show t.place.size + 0 ≤ t.mask
  omega
theorem TSet.at (R : TSet P w s.heap a L es ep t) {i : Nat} {p : Addr × NK} (h : L[i]? = some p) : es[i]? = some (p.2.hash w, Value.ref p.1) := by
  rw [← Array.getElem?_toList, R.en]
  unfold ents
  rw [List.getElem?_map, h]
  rfl
/-- nobody sees a search among such tuples -/
theorem unseen {k : NK} {b : Addr} {Q : Bool → Shared → Prop} (hk : TupK s.heap k b) {ys : List Value} (hy : ∀ y ∈ ys, ∃ k' c, y = Value.ref c ∧ TupK s.heap k' c) (h : Q false s) : wpAny (model P w) A (searchCouldBeSeen (.ref b) ys) Q E s := by
  unfold searchCouldBeSeen
  refine wpAny_bind ?_
  refine wpAny_forIn_list _ (fun rest r s' => r.1 = none ∧ s' = s ∧ ∀ y ∈ rest, ∃ k' c, y = Value.ref c ∧ TupK s.heap k' c) _ ?turn ?last _ _ ⟨rfl, rfl, hy⟩
  case turn =>
    rintro v rest r s' ⟨hr, rfl, all⟩
    obtain ⟨k', c, rfl, hc⟩ := all v List.mem_cons_self
    have more : ∀ y ∈ rest, ∃ k' c, y = Value.ref c ∧ TupK s'.heap k' c := fun u hu => all u (List.mem_cons_of_mem _ hu)
    dsimp only
    by_cases hv : (b == c || (carriedByValue (.ref b) && carriedByValue (.ref c))) = true
    · exact wp_if_pos hv (wpAny_pure ⟨rfl, rfl, more⟩)
    · refine wp_if_neg hv (wpAny_bind ((nestedKind P w).quiet (k := k) hk ?_))
      simp only [Bool.not_true, Bool.false_eq_true, if_false]
      refine wpAny_bind ((nestedKind P w).quiet (k := k') hc ?_)
      simp only [Bool.not_true, Bool.false_eq_true, if_false]
      refine wpAny_bind (noCls k _ 8 _ _ _ _ hk.1 hk.2 ?_)
      simp only [Bool.false_eq_true, if_false]
      refine wpAny_bind (noCls k' _ 8 _ _ _ _ hc.1 hc.2 ?_)
      simp only [Bool.false_eq_true, if_false]
      exact wpAny_pure ⟨rfl, rfl, more⟩
  case last =>
    rintro ⟨r1, r2⟩ s' ⟨hr, rfl, _⟩
    simp only at hr
    subst hr
    exact wpAny_pure h
end
/-! ### the search -/
/-- the states of a search for the hash g, one after the other -/
def st (m : Nat) (g : Int) (c : Nat) : SetTable.Probe := nth m (runAt m (SetTable.bits g % (m + 1)) (SetTable.bits g)) c
theorem st_way (m : Nat) (g : Int) (c : Nat) : (st m g c).j = way m g c := rfl
theorem st_more (m : Nat) (g : Int) (c q : Nat) : nth m (st m g c) q = st m g (c + q) := (nth_add m c _ q).symm
theorem nth_dummy (m : Nat) : ∀ (n : Nat) (p : SetTable.Probe), p.dummy = none → (nth m p n).dummy = none
  | 0, _, h => h
  | n + 1, p, h => nth_dummy m n (adv m p) (by unfold adv; split <;> exact h)
theorem st_dummy (m : Nat) (g : Int) (c : Nat) : (st m g c).dummy = none := nth_dummy m c _ rfl
section
variable {P : Program} {w : World} {A : Around} {E : Value → Shared → Prop} {s : Shared} {a : Addr} {L : List (Addr × NK)} {es : Array (Int × Value)} {ep : Nat} {t : SetTable}
theorem hunt (R : TSet P w s.heap a L es ep t) {x : Addr} {k : NK} (hx : TupK s.heap k x) (hu : A.units + 8 < cLine) {g : Int} (hg : g = k.hash w) {K : Nat} (hf : K < 10 * SetTable.turns t.mask)
    (free : way t.mask g K ∉ t.place.toList) (full : ∀ c, c < K → way t.mask g c ∈ t.place.toList) {Q : SetFound → Shared → Prop}
    (yes : k ∈ L.map (·.2) → Q (.there none) s) (no : k ∉ L.map (·.2) → Q (.free (way t.mask g K) false) s) :
    ∀ (f c : Nat) (stand : Option SetTable.Probe), stand.getD (t.probeStart g) = st t.mask g c → c ≤ K → K - c < f →
      (∀ (i : Nat) p, L[i]? = some p → p.2 = k → ∃ c', c ≤ c' ∧ c' < K ∧ t.place.toList[i]? = some (way t.mask g c')) →
      wpAny (model P w) A (setSearchFrom a (.ref x) g true f stand) Q E s
  | 0, c, stand, _, _, h, _ => absurd h (Nat.not_lt_zero _)
  | f + 1, c, stand, hst, hc, hlt, ahead => by
    obtain ⟨o, ho, hex, hd⟩ := R.ob
    have big := R.fits
    have hashOf : ∀ (i : Nat) p, L[i]? = some p → (es[i]?.map (·.1)).getD 0 = p.2.hash w := fun i p hp => by
      rw [R.at hp]
      rfl
    have oddM := mask_odd R.tab.mok
    rw [setSearchFrom_succ]
    refine wpAny_bind (wpAny_setState_of ho hd big ?_)
    dsimp only
    refine wp_if_neg (by unfold SetTable.gaveWay; rw [oddM]; decide) ?_
    try refine wpAny_bind (wpAny_pure ?_)
    have jAt : ∀ q, (nth t.mask (st t.mask g c) q).j = way t.mask g (c + q) := fun q => congrArg SetTable.Probe.j (st_more t.mask g c q)
    rcases go_spec t R.tab.ris R.tab.dm (fun i => (es[i]?.map (·.1)).getD 0) g (10 * SetTable.turns t.mask) (K - c) (st t.mask g c) (st_dummy _ _ _) (by omega)
      (fun q hq => by rw [jAt]; exact full (c + q) (by omega)) (by rw [jAt, show c + (K - c) = K by omega]; exact free) with ⟨q, i, hq, hi, hh, first, met⟩ | ⟨none_, met⟩
    · -- an entry of this hash
      have met' : t.probe (fun i => (es[i]?.map (·.1)).getD 0) g (stand.getD (t.probeStart g)) = some (.candidate (way t.mask g (c + q)) i (st t.mask g (c + (q + 1)))) := by
        rw [hst, ← jAt, ← st_more]
        exact met
      rw [met']
      dsimp only
      rw [jAt] at hi
      have il : i < L.length := by
        have z1 : i < t.place.toList.length := (List.getElem?_eq_some_iff.mp hi).1
        have z2 := R.tab.sz
        rw [hashes_len] at z2
        rw [Array.length_toList] at z1
        omega
      obtain ⟨p, hp⟩ : ∃ p, L[i]? = some p := ⟨L[i], List.getElem?_eq_getElem il⟩
      have pm : p ∈ L := List.mem_of_getElem? hp
      have pk := R.ks p pm
      have go : wpAny (model P w) A (searchRest a (.ref x) g true f es t (way t.mask g (c + q)) i (st t.mask g (c + (q + 1)))) Q E s := by
        unfold searchRest
        rw [R.at hp]
        dsimp only
        refine wpAny_bind (wpAny_holding ((nestedKind P w).eqBool (x := p.2) (y := k) hu pk hx ?_))
        refine wpAny_bind (wpAny_setState_of ho hd big ?_)
        dsimp only
        by_cases same : p.2 = k
        · refine wp_if_pos (by simp [same]) (wpAny_pure (yes ?_))
          exact List.mem_map.mpr ⟨p, pm, same⟩
        · refine wp_if_neg (by simp [same]) ?_
          try refine wpAny_bind (wpAny_pure ?_)
          rw [sameMem]
          dsimp only
          have live : t.slot (way t.mask g (c + q)) = .live i := slot_live R.tab.ris hi
          simp only [if_true, live, R.at hp]
          refine wpAny_bind (wpAny_isSame_ref_self (wpAny_bind (wpAny_pure ?_)))
          simp only [if_true]
          refine wp_if_neg (by simp [same]) ?_
          refine hunt R hx hu hg hf free full yes no f (c + (q + 1)) _ rfl (by omega) (by omega) fun i0 p0 h0 k0 => ?_
          obtain ⟨c', b1, b2, b3⟩ := ahead i0 p0 h0 k0
          refine ⟨c', ?_, b2, b3⟩
          by_cases ec : c' = c + q
          · exfalso
            rw [ec] at b3
            have l0 := slot_live R.tab.ris b3
            rw [live] at l0
            injection l0 with l0
            rw [← l0, hp] at h0
            exact same ((congrArg Prod.snd (Option.some.inj h0)).trans k0)
          · by_cases lt : c' < c + q
            · exfalso
              refine first (c' - c) i0 (by omega) (by rw [jAt, show c + (c' - c) = c' by omega]; exact b3) ?_
              show (es[i0]?.map (·.1)).getD 0 = g
              rw [hashOf i0 p0 h0, k0, hg]
            · omega
      by_cases hl : t.led = true
      · refine wp_if_neg (by simp [hl]) ?_
        try refine wpAny_bind (wpAny_pure ?_)
        exact go
      · refine wp_if_pos (by simp [hl]) (wpAny_bind (unseen hx (fun y hy => ?_) ?_))
        · obtain ⟨e, he, ee⟩ := List.mem_map.mp hy
          have he1 : e ∈ es ∧ e.1 = g := by simpa using he
          have he2 : e ∈ es.toList := by simpa using he1.1
          rw [R.en] at he2
          obtain ⟨p2, hp2, e2⟩ := List.mem_map.mp he2
          exact ⟨p2.2, p2.1, by rw [← ee, ← e2], R.ks p2 hp2⟩
        · refine wp_if_neg (by decide) ?_
          try refine wpAny_bind (wpAny_pure ?_)
          exact go
    · -- a free slot
      have met' : t.probe (fun i => (es[i]?.map (·.1)).getD 0) g (stand.getD (t.probeStart g)) = some (.empty (way t.mask g K) none) := by
        have e2 : way t.mask g K = (nth t.mask (st t.mask g c) (K - c)).j := by
          rw [jAt, show c + (K - c) = K by omega]
        rw [hst, e2]
        exact met
      rw [met']
      dsimp only
      refine wpAny_pure (no fun hm => ?_)
      obtain ⟨p0, m0, k0⟩ := List.mem_map.mp hm
      obtain ⟨i0, hi0, e0⟩ := List.getElem_of_mem m0
      have h0 : L[i0]? = some p0 := by rw [List.getElem?_eq_getElem hi0, e0]
      obtain ⟨c', b1, b2, b3⟩ := ahead i0 p0 h0 k0
      refine none_ (c' - c) i0 (by omega) (by rw [jAt, show c + (c' - c) = c' by omega]; exact b3) ?_
      show (es[i0]?.map (·.1)).getD 0 = g
      rw [hashOf i0 p0 h0, k0, hg]
theorem hunted (R : TSet P w s.heap a L es ep t) {x : Addr} {k : NK} (hx : TupK s.heap k x) (hu : A.units + 8 < cLine) {Q : SetFound → Shared → Prop} (yes : k ∈ L.map (·.2) → Q (.there none) s)
    (no : ∀ K, k ∉ L.map (·.2) → way t.mask (k.hash w) K ∉ t.place.toList → (∀ c, c < K → way t.mask (k.hash w) c ∈ t.place.toList) → Q (.free (way t.mask (k.hash w) K) false) s) :
    wpAny (model P w) A (setSearch a (.ref x) (k.hash w) true) Q E s := by
  have space := R.room
  obtain ⟨K, kf, free, full⟩ := R.tab.first (by rw [hashes_len]; omega) (k.hash w)
  have small : K < 100000 := by
    have : 10 * SetTable.turns t.mask ≤ 1420 := by
      unfold SetTable.turns
      rcases R.tab.mok with e | e | e <;> omega
    omega
  unfold setSearch
  refine hunt R hx hu rfl kf free full yes (fun hn => no K hn free full) 100000 0 none rfl (Nat.zero_le _) (by omega) fun i p hp hk => ?_
  have hi : (hashes w L)[i]? = some (k.hash w) := by
    unfold hashes
    rw [List.getElem?_map, hp, ← hk]
    rfl
  have il : i < t.place.toList.length := by
    have z1 : i < L.length := (List.getElem?_eq_some_iff.mp hp).1
    have z2 := R.tab.sz
    rw [hashes_len] at z2
    rw [Array.length_toList]
    omega
  have hj := List.getElem?_eq_getElem il
  obtain ⟨c, hc, e⟩ := R.tab.before free hi hj
  exact ⟨c, Nat.zero_le _, hc, by rw [hj, e]⟩
end
/-! ### one put in -/
theorem relist {w : World} (L : List (Addr × NK)) (es : Array (Int × Value)) (order : Array Nat) (he : es.toList = ents w L) (hp : order.toList.Perm (List.range L.length)) :
    ∃ L2, (order.filterMap (es[·]?)).toList = ents w L2 ∧ L2.Perm L ∧ hashes w L2 = order.toList.map fun i => (es.map (·.1)).getD i 0 := by
  have one : ∀ i (h : i < L.length), es[i]? = some ((L[i]).2.hash w, Value.ref (L[i]).1) := fun i h => by
    rw [← Array.getElem?_toList, he]
    unfold ents
    rw [List.getElem?_map, List.getElem?_eq_getElem h]
    rfl
  have all : ∀ l : List Nat, (∀ i ∈ l, i < L.length) → l.filterMap (fun i => es[i]?) = ents w (l.filterMap fun i => L[i]?) ∧ hashes w (l.filterMap fun i => L[i]?) = l.map fun i => (es.map (·.1)).getD i 0 := by
    intro l
    induction l with
    | nil => exact fun _ => ⟨rfl, rfl⟩
    | cons i l ih =>
      intro hl
      have hi := hl i List.mem_cons_self
      obtain ⟨e1, e2⟩ := ih fun j hj => hl j (List.mem_cons_of_mem _ hj)
      rw [List.filterMap_cons_some (List.getElem?_eq_getElem hi), List.filterMap_cons_some (one i hi), e1, List.map_cons, ← e2]
      refine ⟨rfl, ?_⟩
      have e5 : (es.map (·.1))[i]? = some ((L[i]).2.hash w) := by
        rw [Array.getElem?_map, one i hi]
        rfl
      have e4 : (es.map (·.1)).getD i 0 = (L[i]).2.hash w := by simp [Array.getD_eq_getD_getElem?, e5]
      rw [e4]
      rfl
  obtain ⟨e1, e2⟩ := all order.toList fun i hi => List.mem_range.mp (hp.mem_iff.mp hi)
  refine ⟨order.toList.filterMap fun i => L[i]?, by first | (rw [Array.toList_filterMap]; exact e1) | simpa using e1, ?_, e2⟩
  have z := hp.filterMap fun i => L[i]?
  rw [List.filterMap_getElem?_range_length] at z
  exact z
theorem TabOk.unplain {t : SetTable} {hs : List Int} (T : TabOk t hs) : TabOk { t with plain := false } hs := ⟨T.ris, T.dm, T.sz, T.mok, T.bd, T.reach⟩
section
variable {P : Program} {w : World} {A : Around} {E : Value → Shared → Prop} {s : Shared} {a : Addr} {L : List (Addr × NK)} {es : Array (Int × Value)} {ep : Nat} {t : SetTable}
theorem relaid_at {o : Obj} (ho : s.heap.get? a = some o) (hex : o.ExactSet) (hd : o.data = .set es ep t) (en : es.toList = ents w L) (tab : TabOk t (hashes w L)) (hfl : L.length ≤ t.mask)
    (nd : (L.map (·.2)).Nodup) (ks : ∀ p ∈ L, TupK s.heap p.2 p.1) (ld : w.params.followText "set-order" = true ∨ t.led = true) (few : L.length < 76) {wanted M : Nat}
    (hw : SetTable.sizeAbove wanted - 1 = M) (hM : MaskOk M) (hw2 : SetTable.sizeAbove wanted ≤ 128) (hn : L.length * 5 < M * 3) {Q : Unit → Shared → Prop}
    (hQ : ∀ h' L' es' ep' t', Heap.SameBut a s.heap h' → TSet P w h' a L' es' ep' t' → L'.Perm L → Q () { s with heap := h' }) : wpAny (model P w) A (setRelay a wanted) Q E s := by
  have hsl := size_of_ents en
  have hps : t.place.size = es.size := by rw [tab.sz, hashes_len, hsl]
  have fits : t.fits es.size = true := by
    unfold SetTable.fits SetTable.fill
    rw [tab.dm, Bool.and_eq_true, beq_iff_eq, decide_eq_true_eq]
    refine ⟨hps, ?_⟩
    show t.place.size + 0 ≤ t.mask
    omega
  obtain ⟨t', order, e, hp, T, em, el, _, _⟩ := relaid_ok t (hs := es.map (·.1)) (wanted := wanted) hw hM (by rw [Array.size_map, hsl]; omega)
  rw [Array.size_map, hsl] at hp
  obtain ⟨L2, r1, r2, r3⟩ := relist L es order en hp
  rw [← r3] at T
  have hs2 : (order.filterMap (es[·]?)).size = es.size := by rw [size_of_ents r1, r2.length_eq, hsl]
  rw [setRelay_eq]
  refine wpAny_bind (wpAny_setState_of ho hd fits ?_)
  dsimp only
  refine wp_if_neg (by rw [sizeLine_eq]; omega) ?_
  try refine wpAny_bind (wpAny_pure ?_)
  rw [e]
  dsimp only
  refine wpAny_bind (wp_if_neg (by rw [hs2]; simp) ?_)
  try refine wpAny_bind (wpAny_pure ?_)
  refine wpAny_pure ?_
  dsimp only
  refine wpAny_storeSet_of ho hd ?_ (by rw [hs2, hsl, sizeLine_eq]; omega)
  have sb : Heap.SameBut a s.heap (s.heap.update a (Obj.putSet (order.filterMap (es[·]?)) t')) := Heap.SameBut.update ..
  refine hQ _ L2 (order.filterMap (es[·]?)) (ep + 1) t' sb ⟨⟨_, store_at ho hd, ⟨hex.1, hex.2.1, hex.2.2⟩, rfl⟩, r1, T, (r2.map (·.2)).nodup_iff.mpr nd, fun p hpm => (ks p (r2.mem_iff.mp hpm)).butSet ho hd sb, by rw [el]; exact ld, ?_, by rw [r2.length_eq]; exact few⟩ r2
  rw [r2.length_eq, em]
  exact hn
/-- adding -/
theorem added (R : TSet P w s.heap a L es ep t) {x : Addr} {k : NK} (hx : TupK s.heap k x) (hu : A.units + 8 < cLine) (hfew : L.length + 1 < 76) {Q : Bool → Shared → Prop}
    (hQ : ∀ b h' L' es' ep' t', Heap.SameBut a s.heap h' → TSet P w h' a L' es' ep' t' → (k ∈ L.map (·.2) → L' = L) → (k ∉ L.map (·.2) → L'.Perm ((x, k) :: L)) → Q b { s with heap := h' }) :
    wpAny (model P w) A (setAddHashed a (.ref x) (k.hash w)) Q E s := by
  obtain ⟨o, ho, hex, hd⟩ := R.ob
  have hsl := size_of_ents R.en
  have hroom := R.room
  unfold setAddHashed
  refine wpAny_holding ?_
  rw [show (100000 : Nat) = 99999 + 1 from rfl, setAddHashedIn_succ]
  refine wpAny_bind (wpAny_setState_of ho hd R.fits ?_)
  dsimp only
  refine wp_if_neg (by simp [byScan, Value.scannable]) ?_
  try refine wpAny_bind (wpAny_pure ?_)
  refine wpAny_bind (hunted R hx hu (fun hm => ?_) fun K hm hK hb => ?_)
  · dsimp only
    exact wpAny_pure (hQ false s.heap L es ep t (Heap.SameBut.refl a s.heap) R (fun _ => rfl) fun z => absurd hm z)
  · dsimp only
    refine wpAny_bind (wpAny_setState_of ho hd R.fits ?_)
    dsimp only
    obtain ⟨q1, q2, q3, q4, q5, _, _, _, q9⟩ := R.tab.put hK hb
    generalize hpt : t.put (way t.mask (k.hash w) K) = pt at q1 q3 q4 q5 q9 ⊢
    obtain ⟨t1, p⟩ := pt
    dsimp only at q1 q3 q4 q5 q9 ⊢
    subst q1
    generalize hpp : SetTable.below t.place (way t.mask (k.hash w) K) = p at q2 q3 ⊢
    have hin : (SetTable.insertAt es p (k.hash w, Value.ref x)).toList = ents w (L.take p ++ (x, k) :: L.drop p) := by
      rw [SetTable.toList_insertAt, R.en]
      unfold ents
      rw [List.map_append, List.map_cons, List.map_take, List.map_drop]
    have pm := put_perm L p (x, k)
    have hlen : (L.take p ++ (x, k) :: L.drop p).length = L.length + 1 := pm.length_eq
    have hhs : hashes w (L.take p ++ (x, k) :: L.drop p) = (hashes w L).take p ++ k.hash w :: (hashes w L).drop p := by
      unfold hashes
      rw [List.map_append, List.map_cons, List.map_take, List.map_drop]
    rw [← hhs] at q3
    have nd1 : ((L.take p ++ (x, k) :: L.drop p).map (·.2)).Nodup := by
      refine (pm.map (·.2)).nodup_iff.mpr ?_
      rw [List.map_cons]
      exact List.nodup_cons.mpr ⟨hm, R.nd⟩
    have hes : (SetTable.insertAt es p (k.hash w, Value.ref x)).size = L.length + 1 := by rw [size_of_ents hin, hlen]
    generalize SetTable.insertAt es p (k.hash w, Value.ref x) = es1 at hin hes ⊢
    generalize L.take p ++ (x, k) :: L.drop p = L1 at pm hlen q3 nd1 hin
    have ld1 : w.params.followText "set-order" = true ∨ t1.led = true := by rw [q5]; exact R.led
    -- behind the question whether the hash is by value: t2 is t1, but for one mark
    have rest : ∀ t2 : SetTable, TabOk t2 (hashes w L1) → t2.mask = t.mask → t2.fill = L.length + 1 → (w.params.followText "set-order" = true ∨ t2.led = true) →
        wpAny (model P w) A (do
          storeSet a es1 t2
          if (!false && t2.tooFull) = true then do
              setRelay a (SetTable.grown (es.size + 1))
              pure true
            else pure true) Q E s := by
      intro t2 T2 m2 f2 l2
      refine wpAny_bind (wpAny_storeSet_of ho hd ?_ (by rw [hes, sizeLine_eq]; omega))
      have sb : Heap.SameBut a s.heap (s.heap.update a (Obj.putSet es1 t2)) := Heap.SameBut.update ..
      have ho1 := store_at (es' := es1) (t' := t2) ho hd
      generalize s.heap.update a (Obj.putSet es1 t2) = h1 at sb ho1 ⊢
      have ks1 : ∀ p ∈ L1, TupK h1 p.2 p.1 := fun p hp => by
        rcases List.mem_cons.mp (pm.mem_iff.mp hp) with e | hp
        · rw [e]
          exact hx.butSet ho hd sb
        · exact (R.ks p hp).butSet ho hd sb
      by_cases hf : t2.tooFull = true
      · refine wp_if_pos (by simp [hf]) ?_
        have hfull : (L.length + 1) * 5 ≥ t2.mask * 3 := by
          have h := hf
          unfold SetTable.tooFull at h
          rw [decide_eq_true_eq, f2] at h
          exact h
        rw [hsl]
        have two : (t.mask = 7 ∧ L.length = 4) ∨ (t.mask = 31 ∧ L.length = 18) := by
          rcases R.tab.mok with e | e | e
          · left; rw [m2, e] at hfull; rw [e] at hroom; exact ⟨e, by omega⟩
          · right; rw [m2, e] at hfull; rw [e] at hroom; exact ⟨e, by omega⟩
          · exfalso; rw [m2, e] at hfull; omega
        have go : ∀ M, SetTable.sizeAbove (SetTable.grown (L.length + 1)) - 1 = M → MaskOk M → SetTable.sizeAbove (SetTable.grown (L.length + 1)) ≤ 128 → (L.length + 1) * 5 < M * 3 →
            wpAny (model P w) A (do setRelay a (SetTable.grown (L.length + 1)); pure true) Q E { s with heap := h1 } := fun M e1 e2 e3 e4 => by
          refine wpAny_bind (relaid_at (s := { s with heap := h1 }) ho1 ⟨hex.1, hex.2.1, hex.2.2⟩ rfl hin T2 (by rw [hlen, m2]; rcases two with ⟨e, e'⟩ | ⟨e, e'⟩ <;> omega) nd1 ks1 l2 (by rw [hlen]; exact hfew) e1 e2 e3 (by rw [hlen]; exact e4) ?_)
          intro h2 L2 es2 ep2 t2 sb2 R2 pm2
          exact wpAny_pure (hQ true h2 L2 es2 ep2 t2 (sb.trans sb2) R2 (fun z => absurd z hm) fun _ => pm2.trans pm)
        rcases two with ⟨_, e2⟩ | ⟨_, e2⟩
        · exact go 31 (by rw [e2, size_20]) (.inr (.inl rfl)) (by rw [e2, size_20]; decide) (by omega)
        · exact go 127 (by rw [e2, size_76]) (.inr (.inr rfl)) (by rw [e2, size_76]; decide) (by omega)
      · refine wp_if_neg (by simp [hf]) ?_
        refine wpAny_pure (hQ true h1 L1 es1 (ep + 1) t2 sb ⟨⟨_, ho1, ⟨hex.1, hex.2.1, hex.2.2⟩, rfl⟩, hin, T2, nd1, ks1, l2, ?_, by rw [hlen]; exact hfew⟩ (fun z => absurd z hm) fun _ => pm)
        have h := hf
        unfold SetTable.tooFull at h
        rw [decide_eq_true_eq, f2] at h
        rw [hlen]
        omega
    have f1 : t1.fill = L.length + 1 := by rw [q9, hashes_len]
    have close : ∀ b : Bool, wpAny (model P w) A (do
          storeSet a es1 (if b = true then t1 else { t1 with plain := false })
          if (!false && (if b = true then t1 else { t1 with plain := false }).tooFull) = true then do
              setRelay a (SetTable.grown (es.size + 1))
              pure true
            else pure true) Q E s := fun b => by
      cases b with
      | true => exact rest t1 q3 q4 f1 ld1
      | false => exact rest { t1 with plain := false } (TabOk.unplain q3) q4 f1 ld1
    by_cases hpl : t1.plain = true
    · first
        | exact wpAny_bind (wp_if_pos hpl (byVal k _ 8 _ _ _ _ hx.1 fun b => close b))
        | exact wp_if_pos hpl (wpAny_bind (byVal k _ 8 _ _ _ _ hx.1 fun b => close b))
    · first
        | exact wpAny_bind (wp_if_neg hpl (wpAny_pure (close true)))
        | exact wp_if_neg hpl (wpAny_bind (wpAny_pure (close true)))
end
end Rw
namespace Rw
open PySem PySem.Spec PyProof.Rows L2
/-! ### set(xs): filled item by item -/
/-- a new set -/
abbrev newSetObj (w : World) : Obj := { cls := .type "set", dict := none, data := .set #[] 0 (.fresh 0 0 (!w.params.followText "set-order")) }
/-- G i: the set at S has got the first i items -/
structure Fill (P : Program) (w : World) (S : Addr) (h0 : Heap) (items : List Value) (G : Nat → Heap → Prop) : Prop where
  start : ∀ h, h.get? S = some (newSetObj w) → G 0 h
  keep : ∀ i h h', G i h → (∀ o, h.get? S = some o → h'.get? S = some o) → (∀ b o, h0.get? b = some o → h'.get? b = some o) → G i h'
  put : ∀ i v (A : Around) (E : Value → Shared → Prop) (s : Shared) (Q : Bool → Shared → Prop), A.units + 8 < cLine → items[i]? = some v → G i s.heap → (∀ b o, h0.get? b = some o → s.heap.get? b = some o) →
    (∀ b h' tk, s.toks ≤ tk → Heap.SameBut S s.heap h' → G (i + 1) h' → Q b { s with heap := h', toks := tk }) → wpAny (model P w) A (setAdd S v) Q E s
section
variable {P : Program} {w : World} {A : Around} {E : Value → Shared → Prop} {s : Shared}
theorem fill_loop {I : Addr} {fp wr : List Addr} {GG : Array GenState → Array GenState → Prop} {n : Nat} {Pv : Nat → Value → Prop} {St : Nat → Shared → Prop} {R : Result → Shared → Prop} {S : Addr} {h0 : Heap} {items : List Value} {G : Nat → Heap → Prop}
    (W : WalksS P w A.in1 I fp wr GG n Pv St) (hSf : S ∉ fp) (T : Fill P w S h0 items G) (hval : ∀ i v, Pv i v → items[i]? = some v) (hS0 : h0.get? S = none) (hw0 : ∀ b ∈ wr, h0.get? b = none) (hu : A.in1.units + 8 < cLine) :
    ∀ (k i : Nat) (s : Shared), n - i = k → i ≤ n → St i s → (∀ b o, h0.get? b = some o → s.heap.get? b = some o) → G i s.heap →
      (∀ s', Moved (S :: wr) GG s s' → G n s'.heap → (∀ b o, h0.get? b = some o → s'.heap.get? b = some o) → R (.ok (.ret .none)) s') →
      codeAny (model P w) A (.builtin "set.update.loop" ⟨[.ref S, .ref I], []⟩) R s := by
  have hSw : S ∉ wr := fun h => hSf (W.sub _ h)
  have wider : ∀ b ∈ wr, b ∈ S :: wr := fun b hb => List.mem_cons_of_mem _ hb
  have old : ∀ {s s' : Shared}, Moved wr GG s s' → (∀ b o, h0.get? b = some o → s.heap.get? b = some o) → ∀ b o, h0.get? b = some o → s'.heap.get? b = some o := fun hm hkp b o e =>
    hm.heap b o (fun hb => by rw [hw0 b hb] at e; cases e) (hkp b o e)
  intro k
  induction k with
  | zero =>
    intro i s hk' hi hst hkp g hR
    have hin : i = n := by omega
    subst hin
    refine codeAny_builtin F.entry_set_update_loop ?_
    rw [Around.under_plainId F.plain_set_update_loop _]
    show wpAny _ A.in1 (pyNext (.ref I) >>= _) _ _ s
    refine wpAny_bind (W.done s _ _ hst fun s' hm => ?_)
    show wpAny _ A.in1 (ret Value.none) _ _ s'
    exact wpAny_pure (hR s' (hm.mono wider) (T.keep _ _ _ g (fun o e => hm.heap S o hSw e) (old hm hkp)) (old hm hkp))
  | succ k ih =>
    intro i s hk' hi hst hkp g hR
    have hlt : i < n := by omega
    refine codeAny_builtin F.entry_set_update_loop ?_
    rw [Around.under_plainId F.plain_set_update_loop _]
    show wpAny _ A.in1 (pyNext (.ref I) >>= _) _ _ s
    refine wpAny_bind (W.item i s _ _ hlt hst fun v s' hP hst' hm => ?_)
    have hkp' := old hm hkp
    show wpAny _ A.in1 (holding [v] (setAdd S v) >>= _) _ _ s'
    refine wpAny_bind (wpAny_holding (T.put i v A.in1 _ s' _ hu (hval i v hP) (T.keep _ _ _ g (fun o e => hm.heap S o hSw e) hkp') hkp' fun b h' tk htk hsb g' => ?_))
    have hkp2 : ∀ b o, h0.get? b = some o → h'.get? b = some o := fun b o e => (hsb.2 b (fun z => by rw [z, hS0] at e; cases e)).trans (hkp' b o e)
    refine wpAny_pure ⟨plainId_quiet F.plain_set_update_loop _, ih (i + 1) _ (by omega) hlt (W.frame _ s' _ _ hst' htk fun b hb o e => ?_) hkp2 g' fun s'' hm'' g'' hkp'' => ?_⟩
    · rw [hsb.2 b (fun h : b = S => hSf (by rw [← h]; exact hb))]
      exact e
    · refine hR s'' (Moved.trans W.gtrans ((hm.mono wider).then_heap htk fun b o hb e => ?_) hm'') g'' hkp''
      rw [hsb.2 b (fun h : b = S => hb (by rw [h]; exact List.mem_cons_self))]
      exact e
theorem call_fill_list {l : Addr} {items : Array Value} {G : Nat → Heap → Prop} {Q : Value → Shared → Prop} (hh : A.handled = none) (hl : s.heap.IsList l items) (T : Fill P w s.heap.objs.size s.heap items.toList G) (hu : A.units + 16 < cLine)
    (h : ∀ (h' : Heap) (tk : Nat), G items.size h' → (∀ b o, s.heap.get? b = some o → h'.get? b = some o) → Q (.ref s.heap.objs.size) { s with heap := h', toks := tk }) :
    wpAny (model P w) A (call (.type "set") [.ref l]) Q E s := by
  obtain ⟨c, tl, hmro⟩ := F.called_set.mro
  have hmade := F.called_set.made
  have hsub := F.called_set.sub
  refine wpAny_call (codeAny_of_tree ?_)
  show wpAny _ _ (callAny (.type "set") _) _ _ _
  refine wpAny_pure ⟨Code.quiet_builtin _ (by decide +kernel), codeAny_builtin F.entry_type_call ?_⟩
  rw [Around.under_plain (weight_type_call_type "set" [.ref l] []) rfl]
  have f1 := F.called_set.notType
  have f2 := F.called_set.canCreate
  have f3 := F.typeCall_set_1 (.ref l)
  repeat (any_goals (first | assumption | wp_step))
  refine codeAny_mono (code_set_led1 (.ref l) (E := E) (Q₁ := fun obj s₁ => obj = .ref s.heap.objs.size ∧ s₁ = { s with heap := s.heap.push (newSetObj w) }) ⟨rfl, rfl⟩) fun r s₁ hr => ?_
  cases r with
  | error e => exact hr
  | ok fl =>
    cases fl with
    | ret obj =>
      obtain ⟨rfl, rfl⟩ := hr
      have hS : (s.heap.push (newSetObj w)).get? s.heap.objs.size = some (newSetObj w) := Heap.get?_push_size _ rfl
      have hT : Shared.TypeIs { s with heap := s.heap.push (newSetObj w) } (.ref s.heap.objs.size) "set" := ⟨_, hS, rfl⟩
      have f4 := F.called_set.init.lookup
      have f5 := F.called_set.init.bind (.ref s.heap.objs.size)
      repeat (any_goals (first | assumption | wp_step))
      refine codeAny_mono (codeAny_call_builtin (R := wants (fun r s₂ => r = .none ∧ ∃ h' tk, s₂ = { s with heap := h', toks := tk } ∧ G items.size h' ∧ (∀ b o, s.heap.get? b = some o → h'.get? b = some o)) E) F.called_set.init.plain F.entry_set_init (check_set_init_1 hT ?_)) fun r₂ s₂ hr₂ => ?_
      · obtain ⟨ol, hol, hcl, nl, hdl⟩ := hl
        obtain ⟨ocls, odict, odata, oslots⟩ := ol
        simp only at hcl hdl
        subst hcl; subst hdl
        have hol' : (s.heap.push (newSetObj w)).get? l = some { cls := .type "list", dict := odict, data := .seq items nl, slots := oslots } := Heap.get?_push_of_some _ hol
        have f6 := F.sub_list_set
        have f7 := F.sub_list_frozenset
        have f8 : (Value.type "list" == Value.type "dict") = false := by decide
        have hl1 : (s.heap.push (newSetObj w)).IsList l items := ⟨_, hol', rfl, nl, rfl⟩
        unfold Builtin.«set.__init__» noKeywords Builtin.Frozenset.updateFrom
        generalize hPI : pyIter = PI
        wp_walk
        subst hPI
        refine wpAny_pyIter_list hl1 ?_
        refine wpAny_bind (wpAny_runValue ?_)
        have hlS : l < s.heap.objs.size := Heap.lt_size hol
        have hh3 : A.in1.in1.in1.handled = none := by simp [hh]
        have hz1 : (s.heap.push (newSetObj w)).objs.size = s.heap.objs.size + 1 := Heap.size_push ..
        have hneI : l ≠ (s.heap.push (newSetObj w)).objs.size := by
          rw [Heap.size_push]
          exact Nat.ne_of_lt (Nat.lt_succ_of_lt hlS)
        have hSf : s.heap.objs.size ∉ [(s.heap.push (newSetObj w)).objs.size, l] := by
          rw [Heap.size_push]
          simp only [List.mem_cons, List.mem_singleton, List.not_mem_nil, or_false, not_or]
          exact ⟨Nat.ne_of_lt (Nat.lt_succ_self _), Nat.ne_of_gt hlS⟩
        have none_of : ∀ b, s.heap.objs.size ≤ b → s.heap.get? b = none := fun b hb => by
          cases q : s.heap.get? b with
          | none => rfl
          | some o => exact absurd (Nat.lt_of_lt_of_le (Heap.lt_size q) hb) (Nat.lt_irrefl _)
        refine fill_loop ((Walks.list hh3 _ l hneI items).toS) hSf T (fun i v hv => by rw [Array.getElem?_toList]; exact hv) (none_of _ (Nat.le_refl _)) (fun b hb => none_of b (by
            rw [List.mem_singleton.mp hb, Heap.size_push]
            exact Nat.le_succ _)) (by simp only [Around.in1_units]; omega) (items.size - 0) 0 _ (by omega) (Nat.zero_le _)
          ⟨⟨_, Heap.get?_push_size _ rfl, rfl, rfl⟩, (hl1.push _)⟩ (fun b o e => Heap.get?_push_of_some _ (Heap.get?_push_of_some _ e)) (T.start _ (Heap.get?_push_of_some _ hS)) ?hR
        intro s' hm g' hkp
        obtain ⟨h', g2, d', tk', os'⟩ := s'
        have eg : g2 = s.gens := hm.gens
        have ed : d' = s.drawn := hm.drawn
        have eo : os' = s.os := hm.os
        subst eg; subst ed; subst eo
        show wpAny _ _ _ _ _ _
        refine wpAny_pure ?_
        show wpAny _ _ (ret Value.none) _ _ _
        exact wpAny_pure ⟨rfl, h', tk', rfl, g', hkp⟩
      · cases r₂ with
        | error e => exact hr₂
        | ok fl₂ =>
          cases fl₂ with
          | ret r =>
            obtain ⟨rfl, h', tk, rfl, g', hk'⟩ := hr₂
            repeat (any_goals (first | assumption | wp_step))
            exact h _ _ g' hk'
          | _ => exact hr₂.elim
    | _ => exact hr.elim
theorem call_fill_tuple {l : Addr} {items : Array Value} {G : Nat → Heap → Prop} {Q : Value → Shared → Prop} (hh : A.handled = none) (hl : s.heap.IsTuple l items) (T : Fill P w s.heap.objs.size s.heap items.toList G) (hu : A.units + 16 < cLine)
    (h : ∀ (h' : Heap) (tk : Nat), G items.size h' → (∀ b o, s.heap.get? b = some o → h'.get? b = some o) → Q (.ref s.heap.objs.size) { s with heap := h', toks := tk }) :
    wpAny (model P w) A (call (.type "set") [.ref l]) Q E s := by
  obtain ⟨c, tl, hmro⟩ := F.called_set.mro
  have hmade := F.called_set.made
  have hsub := F.called_set.sub
  refine wpAny_call (codeAny_of_tree ?_)
  show wpAny _ _ (callAny (.type "set") _) _ _ _
  refine wpAny_pure ⟨Code.quiet_builtin _ (by decide +kernel), codeAny_builtin F.entry_type_call ?_⟩
  rw [Around.under_plain (weight_type_call_type "set" [.ref l] []) rfl]
  have f1 := F.called_set.notType
  have f2 := F.called_set.canCreate
  have f3 := F.typeCall_set_1 (.ref l)
  repeat (any_goals (first | assumption | wp_step))
  refine codeAny_mono (code_set_led1 (.ref l) (E := E) (Q₁ := fun obj s₁ => obj = .ref s.heap.objs.size ∧ s₁ = { s with heap := s.heap.push (newSetObj w) }) ⟨rfl, rfl⟩) fun r s₁ hr => ?_
  cases r with
  | error e => exact hr
  | ok fl =>
    cases fl with
    | ret obj =>
      obtain ⟨rfl, rfl⟩ := hr
      have hS : (s.heap.push (newSetObj w)).get? s.heap.objs.size = some (newSetObj w) := Heap.get?_push_size _ rfl
      have hT : Shared.TypeIs { s with heap := s.heap.push (newSetObj w) } (.ref s.heap.objs.size) "set" := ⟨_, hS, rfl⟩
      have f4 := F.called_set.init.lookup
      have f5 := F.called_set.init.bind (.ref s.heap.objs.size)
      repeat (any_goals (first | assumption | wp_step))
      refine codeAny_mono (codeAny_call_builtin (R := wants (fun r s₂ => r = .none ∧ ∃ h' tk, s₂ = { s with heap := h', toks := tk } ∧ G items.size h' ∧ (∀ b o, s.heap.get? b = some o → h'.get? b = some o)) E) F.called_set.init.plain F.entry_set_init (check_set_init_1 hT ?_)) fun r₂ s₂ hr₂ => ?_
      · obtain ⟨ol, hol, hcl, nl, hdl⟩ := hl
        obtain ⟨ocls, odict, odata, oslots⟩ := ol
        simp only at hcl hdl
        subst hcl; subst hdl
        have hol' : (s.heap.push (newSetObj w)).get? l = some { cls := .type "tuple", dict := odict, data := .seq items nl, slots := oslots } := Heap.get?_push_of_some _ hol
        have f6 := F.sub_tuple_set
        have f7 := F.sub_tuple_frozenset
        have f8 : (Value.type "tuple" == Value.type "dict") = false := by decide
        have hl1 : (s.heap.push (newSetObj w)).IsTuple l items := ⟨_, hol', rfl, nl, rfl⟩
        unfold Builtin.«set.__init__» noKeywords Builtin.Frozenset.updateFrom
        generalize hPI : pyIter = PI
        wp_walk
        subst hPI
        refine wpAny_pyIter_tuple hl1 ?_
        refine wpAny_bind (wpAny_runValue ?_)
        have hlS : l < s.heap.objs.size := Heap.lt_size hol
        have hh3 : A.in1.in1.in1.handled = none := by simp [hh]
        have hz1 : (s.heap.push (newSetObj w)).objs.size = s.heap.objs.size + 1 := Heap.size_push ..
        have hneI : l ≠ (s.heap.push (newSetObj w)).objs.size := by
          rw [Heap.size_push]
          exact Nat.ne_of_lt (Nat.lt_succ_of_lt hlS)
        have hSf : s.heap.objs.size ∉ [(s.heap.push (newSetObj w)).objs.size, l] := by
          rw [Heap.size_push]
          simp only [List.mem_cons, List.mem_singleton, List.not_mem_nil, or_false, not_or]
          exact ⟨Nat.ne_of_lt (Nat.lt_succ_self _), Nat.ne_of_gt hlS⟩
        have none_of : ∀ b, s.heap.objs.size ≤ b → s.heap.get? b = none := fun b hb => by
          cases q : s.heap.get? b with
          | none => rfl
          | some o => exact absurd (Nat.lt_of_lt_of_le (Heap.lt_size q) hb) (Nat.lt_irrefl _)
        refine fill_loop ((Walks.tuple hh3 _ l hneI items).toS) hSf T (fun i v hv => by rw [Array.getElem?_toList]; exact hv) (none_of _ (Nat.le_refl _)) (fun b hb => none_of b (by
            rw [List.mem_singleton.mp hb, Heap.size_push]
            exact Nat.le_succ _)) (by simp only [Around.in1_units]; omega) (items.size - 0) 0 _ (by omega) (Nat.zero_le _)
          ⟨⟨_, Heap.get?_push_size _ rfl, rfl, rfl⟩, (hl1.push _)⟩ (fun b o e => Heap.get?_push_of_some _ (Heap.get?_push_of_some _ e)) (T.start _ (Heap.get?_push_of_some _ hS)) ?hR
        intro s' hm g' hkp
        obtain ⟨h', g2, d', tk', os'⟩ := s'
        have eg : g2 = s.gens := hm.gens
        have ed : d' = s.drawn := hm.drawn
        have eo : os' = s.os := hm.os
        subst eg; subst ed; subst eo
        show wpAny _ _ _ _ _ _
        refine wpAny_pure ?_
        show wpAny _ _ (ret Value.none) _ _ _
        exact wpAny_pure ⟨rfl, h', tk', rfl, g', hkp⟩
      · cases r₂ with
        | error e => exact hr₂
        | ok fl₂ =>
          cases fl₂ with
          | ret r =>
            obtain ⟨rfl, h', tk, rfl, g', hk'⟩ := hr₂
            repeat (any_goals (first | assumption | wp_step))
            exact h _ _ g' hk'
          | _ => exact hr₂.elim
    | _ => exact hr.elim
end
end Rw
namespace Rw
open PySem PySem.Spec PyProof.Rows PySem.W PySem.SeqAt
/-! ### tuples, perhaps empty ones among them, sorted -/
section
variable {prog : Program} {w : World} {A : Around} {E : Value → Shared → Prop} {s : Shared}
/-- each value is a tuple, and these are their first items -/
inductive Firsts (h : Heap) : List Value → List (Option Value) → Prop
  | nil : Firsts h [] []
  | cons {a : Addr} {o : Obj} {xs : Array Value} {n : Nat} {vs : List Value} {fs : List (Option Value)} : h.get? a = some o → o.cls = .type "tuple" → o.data = .seq xs n → Firsts h vs fs → Firsts h (.ref a :: vs) (xs[0]? :: fs)
theorem Firsts.len {h : Heap} {vs : List Value} {fs : List (Option Value)} (x : Firsts h vs fs) : fs.length = vs.length := by
  induction x with
  | nil => rfl
  | cons _ _ _ _ ih => rw [List.length_cons, List.length_cons, ih]
theorem firsts_run {M : Model} : ∀ (vs : List Value) (fs : List (Option Value)) {Q : List (Option Value) → Shared → Prop}, Firsts s.heap vs fs → Q fs s → wpAny M A (vs.mapM firstOfTuple') Q E s
  | _, _, _, .nil, h => by
    rw [List.mapM_nil]
    exact wpAny_pure h
  | _, _, Q, .cons (a := a) (xs := xs) (vs := vs) (fs := fs) ho hc hd t, h => by
    rw [List.mapM_cons]
    refine wpAny_bind ?_
    rw [kas_first_eq]
    refine wpAny_bind (Looks.here (show Looks M s.heap (typeOf (.ref a)) _ from (Looks.ld ho).andThen .now) ?_)
    rw [hc, if_neg (by first | decide | simp)]
    refine wpAny_bind (listItems_at ho hd (wpAny_pure ?_))
    exact wpAny_bind (firsts_run vs fs (Q := fun bs s' => wpAny M A (pure (xs[0]? :: bs)) Q E s') t (wpAny_pure h))
theorem firsts_ty {M : Model} {h : Heap} {vs : List Value} {fs : List (Option Value)} (x : Firsts h vs fs) : ∀ v ∈ vs, Looks M h (typeOf v) (.type "tuple") := by
  induction x with
  | nil => exact fun v hv => nomatch hv
  | cons ho hc hd _ ih =>
    intro v hv
    rcases List.mem_cons.mp hv with rfl | hv
    · show Looks M h (typeOf (Value.ref _)) (Value.type "tuple")
      exact hc ▸ (Looks.ld ho).andThen .now
    · exact ih v hv
/-- an empty one among the others, not the first -/
theorem kind_general {M : Model} {vs : List Value} {fs : List (Option Value)} {f : Value} {Q : SortKind → Shared → Prop} (x : Firsts s.heap vs fs) (h0 : fs[0]? = some (some f)) (hn : none ∈ fs) (h : Q general' s) : wpAny M A (keyKind' vs.toArray) Q E s := by
  rw [kat_kind_eq, List.mapM_toArray, map_eq_pure_bind]
  refine wpAny_bind (wpAny_bind (firsts_run vs fs x (wpAny_pure ?_)))
  have c : ¬ ((fs.toArray.all fun x => x.isSome) = true) := by
    intro q
    rw [List.all_toArray, List.all_eq_true] at q
    exact absurd (q none hn) (by simp)
  rw [if_neg c]
  have c2 : ((fs.toArray[0]?.bind id).isSome) = true := by
    have e : fs.toArray[0]? = some (some f) := by simpa using h0
    rw [e]
    rfl
  rw [if_pos c2]
  exact wpAny_pure h
/-- the first is empty -/
theorem kind_one {M : Model} {vs : List Value} {fs : List (Option Value)} {Q : SortKind → Shared → Prop} (x : Firsts s.heap vs fs) (h0 : fs[0]? = some none) (h : Q oneType' s) : wpAny M A (keyKind' vs.toArray) Q E s := by
  rw [kat_kind_eq, List.mapM_toArray, map_eq_pure_bind]
  refine wpAny_bind (wpAny_bind (firsts_run vs fs x (wpAny_pure ?_)))
  have c : ¬ ((fs.toArray.all fun x => x.isSome) = true) := by
    intro q
    rw [List.all_toArray, List.all_eq_true] at q
    exact absurd (q none (List.mem_of_getElem? h0)) (by simp)
  rw [if_neg c]
  have e : fs.toArray[0]? = some none := by simpa using h0
  have c2 : ¬ ((fs.toArray[0]?.bind id).isSome) = true := by
    rw [e]
    simp
  rw [if_neg c2, oneTypeOnly'_eq, List.mapM_toArray, map_eq_pure_bind]
  refine wpAny_bind (wpAny_bind (wpAny_bind (kas_mapM (r := Value.type "tuple") _ (fun v hv Q' hq => (firsts_ty x v hv).here hq) (wpAny_pure ?_))))
  have all : ((List.map (fun _ => Value.type "tuple") vs).toArray.all fun x => x == Value.type "tuple") = true := by
    simp only [List.all_toArray, List.all_map, List.all_eq_true]
    intro _ _
    show (Value.type "tuple" == Value.type "tuple") = true
    decide
  obtain ⟨v, r, ev⟩ : ∃ v r, vs = v :: r := by
    cases x with
    | nil => simp at h0
    | cons _ _ _ _ => exact ⟨_, _, rfl⟩
  have z : (List.map (fun _ => Value.type "tuple") vs).toArray[0]? = some (Value.type "tuple") := by
    rw [ev]
    simp
  rw [z]
  simp only [all, if_true]
  exact wpAny_pure (wpAny_pure h)
/-- by the type's own < -/
theorem oneLt_tuples {xs ys : List PyData} {a b : Value} {as bs : List Addr} {Q : Bool → Shared → Prop} (ra : Reads s.heap a (.tuple xs) as) (rb : Reads s.heap b (.tuple ys) bs) (hal : alikeAll xs ys = true)
    (hu : A.units + min (PyData.tuple xs).depth (PyData.tuple ys).depth < cLine) (hq : Q (dataLt (.tuple xs) (.tuple ys)) s) : wpAny (model prog w) A (oneLt' true a b) Q E s := by
  cases ra with
  | @tuple l o vs n _ _ h1 h2 h3 h4 =>
    cases rb with
    | @tuple l' o' vs' n' _ _ k1 k2 k3 k4 =>
      have n1 : vs.size = xs.length := by simpa using SeqAt.ReadsAll.length _ _ _ h4
      have n2 : vs'.size = ys.length := by simpa using SeqAt.ReadsAll.length _ _ _ k4
      rw [dataLt_tuple, ← firstLt_toks xs ys hal, ← n1, ← n2] at hq
      rw [oneLt'_eq]
      simp only [if_true]
      refine wpAny_bind (wpAny_cRoomFor (SeqAt.room_here hu) ?_)
      obtain ⟨ocls, odict, odata, oslots⟩ := o
      obtain ⟨pcls, pdict, pdata, pslots⟩ := o'
      simp only at h2 h3 k2 k3
      subst h2 h3 k2 k3
      refine wpAny_bind (wpAny_callSpecialIfBound?_slot (T := "tuple") ⟨_, h1, rfl⟩ F.slot_tuple_lt (call_meets F.slot_tuple_lt ⟨_, h1, rfl⟩ F.entry_tuple_lt (F.args_tuple_lt_2 _ _)
        (SeqAt.tuple_ltAt l l' vs vs' n n' odict pdict oslots pslots (pairEq xs ys) (fun j => dataLt (xs.getD j .none) (ys.getD j .none))) ⟨h1, k1, fun j j1 j2 => ?_, fun j j1 j2 hj => ?_, ?_⟩))
      · have := eqAt_alikeAll xs ys A.in1 s vs.toList vs'.toList _ _ h4 k4 hal (SeqAt.room_in hu) j (by simpa using j1) (by simpa using j2)
        simpa using this
      · have := rcLt_alikeAll xs ys A.in1 s vs.toList vs'.toList _ _ h4 k4 hal (SeqAt.room_in hu) j (by simpa using j1) (by simpa using j2) hj
        simpa using this
      · exact wpAny_truthy_bool hq
theorem firsts_of {h : Heap} : ∀ {vs : List Value} {ds : List PyData}, EachIs (fun v d => ∃ as, Reads h v d as) vs ds → (∀ d ∈ ds, ∃ xs, d = .tuple xs) → ∃ fs, Firsts h vs fs ∧ ∀ i : Nat, fs[i]? = some none ↔ ds[i]? = some (.tuple [])
  | _, _, .nil, _ => ⟨[], .nil, fun i => by simp⟩
  | _, _, .cons (b := d) ⟨as, r⟩ t, ht => by
    obtain ⟨fs, h1, h2⟩ := firsts_of t fun d hd => ht d (List.mem_cons_of_mem _ hd)
    obtain ⟨xs, rfl⟩ := ht d List.mem_cons_self
    cases r with
    | @tuple a o vs n _ _ ho hc hd hr =>
      refine ⟨_, .cons ho hc hd h1, fun i => ?_⟩
      cases i with
      | succ i => simpa using h2 i
      | zero =>
        have hl := SeqAt.ReadsAll.length _ _ _ hr
        rw [Array.length_toList] at hl
        simp only [List.getElem?_cons_zero, Option.some.injEq]
        constructor
        · intro q
          have z : vs.size = 0 := by
            have := Array.getElem?_eq_none_iff.mp q
            omega
          rw [z] at hl
          rw [List.length_eq_zero_iff.mp hl.symm]
        · intro q
          injection q with q
          subst q
          rw [List.length_nil] at hl
          exact Array.getElem?_eq_none (by omega)
/-- tuples of alike data can be sorted, empty ones too -/
theorem SortsAt.tups {vs : List Value} {ds : List PyData} (e : EachIs (fun v d => ∃ as, Reads s.heap v d as) vs ds) (hal : AllAlike ds) (ht : ∀ d ∈ ds, ∃ xs, d = .tuple xs) (hu : ∀ d, d ∈ ds → A.units + d.depth < cLine) : SortsAt prog w A s (dataKind s.heap ds) vs := by
  by_cases full : ∀ d ∈ ds, ∃ x r, d = .tuple (x :: r)
  · exact SortsAt.data e hal (.inl full) hu
  have hollow : PyData.tuple [] ∈ ds := by
    refine Classical.byContradiction fun hn => full fun d hd => ?_
    obtain ⟨xs, rfl⟩ := ht d hd
    cases xs with
    | nil => exact absurd hd hn
    | cons x r => exact ⟨x, r, rfl⟩
  have room : ∀ {d d' : PyData}, d ∈ ds → A.units + min d.depth d'.depth < cLine := fun {d d'} hd => Nat.lt_of_le_of_lt (Nat.add_le_add_left (Nat.min_le_left _ _) _) (hu d hd)
  refine ⟨fun v hv => ?_, ?_⟩
  · obtain ⟨d, hd, as, r⟩ := e.left v hv
    exact ⟨_, dataKind_some hal hd r⟩
  obtain ⟨fs, f1, f2⟩ := firsts_of e ht
  obtain ⟨i0, hi0, ei0⟩ := List.getElem_of_mem hollow
  have hnone : none ∈ fs := List.mem_of_getElem? ((f2 i0).mpr (by rw [List.getElem?_eq_getElem hi0, ei0]))
  have side : ∀ {x y : Value} {a b : List (Int ⊕ List Nat)}, (dataKind s.heap ds).keyOf x = some a → (dataKind s.heap ds).keyOf y = some b →
      ∃ xs ys as bs, Reads s.heap x (.tuple xs) as ∧ Reads s.heap y (.tuple ys) bs ∧ alike (.tuple xs) (.tuple ys) = true ∧ a = keyToks (.tuple xs) ∧ b = keyToks (.tuple ys) ∧ A.units + min (PyData.tuple xs).depth (PyData.tuple ys).depth < cLine := by
    intro x y a b ha hb
    obtain ⟨d, as, hd, ra, rfl⟩ := dataKind_inv ha
    obtain ⟨d', bs, hd', rb, rfl⟩ := dataKind_inv hb
    obtain ⟨xs, rfl⟩ := ht d hd
    obtain ⟨ys, rfl⟩ := ht d' hd'
    exact ⟨xs, ys, as, bs, ra, rb, hal _ hd _ hd', rfl, rfl, room hd⟩
  cases hz : fs[0]? with
  | none =>
    have : fs = [] := by
      cases fs with
      | nil => rfl
      | cons f r => simp at hz
    rw [this] at hnone
    exact nomatch hnone
  | some f =>
    cases f with
    | some f =>
      refine ⟨general', fun E x y a b Q ha hb hq => ?_, fun _ E Q hq => kind_general f1 hz hnone hq⟩
      obtain ⟨xs, ys, as, bs, ra, rb, hh, rfl, rfl, hr⟩ := side ha hb
      show wpAny _ _ (oneLt' false x y) _ _ _
      exact oneLt_alike (fun z => absurd z Bool.false_ne_true) ra rb hh (fun z => nomatch z) hr hq
    | none =>
      refine ⟨oneType', fun E x y a b Q ha hb hq => ?_, fun _ E Q hq => kind_one f1 hz hq⟩
      obtain ⟨xs, ys, as, bs, ra, rb, hh, rfl, rfl, hr⟩ := side ha hb
      rw [keyLt'_oneType]
      exact oneLt_tuples ra rb (by simpa [alike] using hh) hr hq
end
end Rw
namespace Rw
open PySem PySem.Spec PyProof.Rows L2 PySem.Froz
/-! ### filling a set with tuples -/
structure GotN (ks : List (Addr × NK)) (i : Nat) (L : List (Addr × NK)) : Prop where
  sub : ∀ p ∈ L, p ∈ ks.take i
  all : ∀ p ∈ ks.take i, p.2 ∈ L.map (·.2)
  len : L.length ≤ i
theorem take_snoc {α : Type} {l : List α} {i : Nat} {x : α} (h : l[i]? = some x) : l.take (i + 1) = l.take i ++ [x] := by
  rw [List.take_succ, h]
  rfl
theorem GotN.next {ks L L' : List (Addr × NK)} {i : Nat} {x : Addr × NK} (g : GotN ks i L) (h : ks[i]? = some x) (c1 : x.2 ∈ L.map (·.2) → L' = L) (c2 : x.2 ∉ L.map (·.2) → L'.Perm (x :: L)) : GotN ks (i + 1) L' := by
  have ht := take_snoc h
  by_cases hm : x.2 ∈ L.map (·.2)
  · rw [c1 hm]
    refine ⟨fun p hp => ?_, fun p hp => ?_, Nat.le_succ_of_le g.len⟩
    · rw [ht]
      exact List.mem_append_left _ (g.sub p hp)
    · rw [ht] at hp
      rcases List.mem_append.mp hp with z | z
      · exact g.all p z
      · rw [List.mem_singleton.mp z]
        exact hm
  · have pm := c2 hm
    refine ⟨fun p hp => ?_, fun p hp => ?_, ?_⟩
    · rw [ht]
      rcases List.mem_cons.mp (pm.mem_iff.mp hp) with e | z
      · rw [e]
        exact List.mem_append_right _ (List.mem_singleton.mpr rfl)
      · exact List.mem_append_left _ (g.sub p z)
    · rw [(pm.map (·.2)).mem_iff, List.map_cons]
      rw [ht] at hp
      rcases List.mem_append.mp hp with z | z
      · exact List.mem_cons_of_mem _ (g.all p z)
      · rw [List.mem_singleton.mp z]
        exact List.mem_cons_self
    · rw [pm.length_eq, List.length_cons]
      exact Nat.succ_le_succ g.len
theorem led_new (w : World) : w.params.followText "set-order" = true ∨ (!w.params.followText "set-order") = true := by
  cases w.params.followText "set-order"
  · exact .inr rfl
  · exact .inl rfl
section
variable {P : Program} {w : World} {A : Around} {E : Value → Shared → Prop} {s : Shared}
theorem TSet.empty {h : Heap} {a : Addr} (ho : h.get? a = some (newSetObj w)) : TSet P w h a [] #[] 0 (.fresh 0 0 (!w.params.followText "set-order")) where
  ob := ⟨_, ho, ⟨rfl, rfl, rfl⟩, rfl⟩
  en := rfl
  tab := ⟨List.Pairwise.nil, rfl, rfl, .inl rfl, fun x hx => (by cases hx), fun i h j hi => (by simp [hashes] at hi)⟩
  nd := List.nodup_nil
  ks := fun p hp => (by cases hp)
  led := led_new w
  room := by
    show 0 * 5 < 7 * 3
    decide
  few := by
    show 0 < 76
    decide
theorem TSet.moved {h h' : Heap} {a : Addr} {L : List (Addr × NK)} {es : Array (Int × Value)} {ep : Nat} {t : SetTable} (R : TSet P w h a L es ep t) (ha : ∀ o, h.get? a = some o → h'.get? a = some o) (ht : ∀ p ∈ L, TupK h' p.2 p.1) : TSet P w h' a L es ep t := by
  obtain ⟨o, ho, r⟩ := R.ob
  exact ⟨⟨o, ha o ho, r⟩, R.en, R.tab, R.nd, ht, R.led, R.room, R.few⟩
theorem fill_tups (S : Addr) (h0 : Heap) (ks : List (Addr × NK)) (hk : ∀ p ∈ ks, TupK h0 p.2 p.1) (few : ks.length < 76) :
    Fill P w S h0 (ks.map fun p => Value.ref p.1) (fun i h => ∃ L es ep t, TSet P w h S L es ep t ∧ GotN ks i L) where
  start := fun h ho => ⟨[], #[], 0, _, TSet.empty ho, ⟨fun p hp => (by cases hp), fun p hp => (by simp at hp), Nat.le_refl _⟩⟩
  keep := fun i h h' ⟨L, es, ep, t, R, g⟩ ha hold => ⟨L, es, ep, t, R.moved ha fun p hp => (hk p (List.mem_of_mem_take (g.sub p hp))).kept hold, g⟩
  put := fun i v A E s Q hu hv ⟨L, es, ep, t, R, g⟩ hold hQ => by
    rw [List.getElem?_map] at hv
    cases hx : ks[i]? with
    | none => rw [hx] at hv; simp at hv
    | some x =>
      rw [hx] at hv
      obtain rfl : Value.ref x.1 = v := Option.some.inj hv
      have il : i < ks.length := (List.getElem?_eq_some_iff.mp hx).1
      have hxk := (hk x (List.mem_of_getElem? hx)).kept hold
      unfold setAdd
      refine wpAny_holding ?_
      refine wpAny_bind ((nestedKind P w).pyHash (k := x.2) (show A.units + 8 < cLine from hu) hxk ?_)
      refine added (s := { s with toks := s.toks + (nestedKind P w).draws x.2 }) R hxk hu (by have := g.len; omega) fun b h' L' es' ep' t' sb R' c1 c2 => ?_
      exact hQ b h' _ (Nat.le_add_right _ _) sb ⟨L', es', ep', t', R', g.next hx c1 c2⟩
/-! ### filling a set with texts -/
structure XSet (P : Program) (w : World) (h : Heap) (a : Addr) (ms : List Str) (es : Array (Int × Value)) (ep : Nat) (t : SetTable) : Prop where
  ob : h.get? a = some (sObj "set" (es, ep, t))
  ok : TxOk P w (es, ep, t) ms
  nd : ms.Nodup
  ris : Ris t.place.toList
  led : w.params.followText "set-order" = true ∨ t.led = true
theorem add_ris {g : Int} {v : Value} {D : SD} (h : Ris D.2.2.place.toList) : Ris (addTx g v D).2.2.place.toList ∧ (addTx g v D).2.2.led = D.2.2.led := by
  obtain ⟨es, ep, t⟩ := D
  have n1 := layNew_ris t es g v h
  have n2 := layNew_led t es g v
  unfold addTx tailTx
  dsimp only at n1 n2 ⊢
  generalize layNew t es g v = N at n1 n2 ⊢
  obtain ⟨es1, t1, wd, gv⟩ := N
  dsimp only at n1 n2 ⊢
  have m1 : Ris (if t1.plain = true then { t1 with plain := false } else t1).place.toList ∧ (if t1.plain = true then { t1 with plain := false } else t1).led = t.led := by
    split <;> exact ⟨n1, n2⟩
  generalize (if t1.plain = true then { t1 with plain := false } else t1) = t2 at m1 ⊢
  split
  · exact ⟨relayAll_ris t2 es1 _, (relayAll_led t2 es1 _).trans m1.2⟩
  · exact m1
theorem XSet.moved {h h' : Heap} {a : Addr} {ms : List Str} {es : Array (Int × Value)} {ep : Nat} {t : SetTable} (R : XSet P w h a ms es ep t) (ha : ∀ o, h.get? a = some o → h'.get? a = some o) : XSet P w h' a ms es ep t :=
  ⟨ha _ R.ob, R.ok, R.nd, R.ris, R.led⟩
/-- a text that is in the set is put in again -/
theorem again_in {a : Addr} {ms : List Str} {es : Array (Int × Value)} {ep : Nat} {t : SetTable} {k : Str} {u : Tok} {Q : Bool → Shared → Prop} (R : XSet P w s.heap a ms es ep t) (hk : k ∈ ms) (hb : ms.length < scanBound) (h : Q false s) :
    wpAny (model P w) A (setAddHashed a (.str k u) (hashStr w k)) Q E s := by
  have hel : ElemsOf (strKind P w) es.toList := R.ok.el
  have hsz : es.size = ms.length := R.ok.sz
  have hf : t.fits es.size = true := R.ok.fit
  have hd : (sObj "set" (es, ep, t)).data = .set es ep t := rfl
  have hkey : (strKind P w).is k (.str k u) = true := is_str k u
  obtain ⟨e, he, hp⟩ := (R.ok.mem k).mp hk
  unfold setAddHashed setAddHashedIn
  refine wpAny_holding (wpAny_bind (wpAny_setState_of R.ob hd hf ?_))
  dsimp only
  rw [byScan_of rfl (by omega) hel]
  simp only [↓reduceIte]
  unfold setAddByScan
  refine wpAny_bind (wpAny_bind (wpAny_rule (wpAny_bind (wpAny_setScan_of (knd := strKind P w) (k := k) hkey R.ob hd hf hel ?_))))
  cases hr : List.findIdx? (fun e => (strKind P w).is k e.2) es.toList with
  | none =>
    have z := List.findIdx?_eq_none_iff.mp hr e he
    rw [hp] at z
    exact nomatch z
  | some j =>
    dsimp only
    exact wpAny_pure (wpAny_pure h)
theorem put_text {a : Addr} {ms : List Str} {es : Array (Int × Value)} {ep : Nat} {t : SetTable} {k : Str} {u : Tok} {Q : Bool → Shared → Prop} (R : XSet P w s.heap a ms es ep t) (hb : ms.length + 1 < scanBound)
    (h : ∀ b h' ms' es' ep' t', Heap.SameBut a s.heap h' → XSet P w h' a ms' es' ep' t' → (∀ z, z ∈ ms' ↔ z = k ∨ z ∈ ms) → ms'.length ≤ ms.length + 1 → Q b { s with heap := h' }) :
    wpAny (model P w) A (setAddHashed a (.str k u) (hashStr w k)) Q E s := by
  by_cases hk : k ∈ ms
  · refine again_in R hk (by omega) (h false s.heap ms es ep t (Heap.SameBut.refl a s.heap) R (fun z => ⟨.inr, fun q => q.elim (fun e => e ▸ hk) id⟩) (Nat.le_succ _))
  · refine add_x R.ob R.ok hk hb ?_
    have sb : Heap.SameBut a s.heap (s.heap.update a (fun _ => sObj "set" (addTx (hashStr w k) (.str k u) (es, ep, t)))) := Heap.SameBut.update ..
    have ho : (s.heap.update a (fun _ => sObj "set" (addTx (hashStr w k) (.str k u) (es, ep, t)))).get? a = some (sObj "set" (addTx (hashStr w k) (.str k u) (es, ep, t))) := get_upd _ R.ob rfl
    have ok := add_ok u R.ok (k := k)
    have rl := add_ris (g := hashStr w k) (v := .str k u) (D := (es, ep, t)) R.ris
    generalize addTx (hashStr w k) (.str k u) (es, ep, t) = D at sb ho ok rl ⊢
    obtain ⟨es', ep', t'⟩ := D
    refine h true _ (k :: ms) es' ep' t' sb ⟨ho, ok, List.nodup_cons.mpr ⟨hk, R.nd⟩, rl.1, ?_⟩ (fun z => List.mem_cons) (Nat.le_refl _)
    have e : t'.led = t.led := rl.2
    rw [e]
    exact R.led
theorem fill_texts (S : Addr) (h0 : Heap) (zs : List Str) {vs : List Value} (hv : PySem.W.EachIs (fun v z => ∃ u, v = Value.str z u) vs zs) (few : zs.length + 1 < scanBound) :
    Fill P w S h0 vs (fun i h => ∃ ms es ep t, XSet P w h S ms es ep t ∧ (∀ z, z ∈ ms ↔ z ∈ zs.take i) ∧ ms.length ≤ i) where
  start := fun h ho => ⟨[], #[], 0, _, ⟨ho, TxOk.nil rfl, List.nodup_nil, List.Pairwise.nil, led_new w⟩, fun z => by simp, Nat.le_refl _⟩
  keep := fun i h h' ⟨ms, es, ep, t, R, g⟩ ha _ => ⟨ms, es, ep, t, R.moved ha, g⟩
  put := fun i v A E s Q hu hvi ⟨ms, es, ep, t, R, g, hl⟩ hold hQ => by
    have hlen := hv.length
    have il : i < vs.length := (List.getElem?_eq_some_iff.mp hvi).1
    have iz : i < zs.length := by omega
    have hz : zs[i]? = some zs[i] := List.getElem?_eq_getElem iz
    have pz : (v, zs[i]) ∈ vs.zip zs := List.mem_of_getElem? (i := i) (by rw [List.getElem?_zip_eq_some]; exact ⟨hvi, hz⟩)
    obtain ⟨u, rfl⟩ : ∃ u, v = Value.str zs[i] u := hv.zip _ pz
    unfold setAdd
    refine wpAny_holding ?_
    refine wpAny_bind ((strKind P w).pyHash (k := zs[i]) (is_str _ _) ?_)
    refine put_text (s := { s with toks := s.toks + 1 }) R (by omega) fun b h' ms' es' ep' t' sb R' hm hl' => ?_
    refine hQ b h' _ (Nat.le_succ _) sb ⟨ms', es', ep', t', R', fun z => ?_, by omega⟩
    rw [hm, take_snoc hz, List.mem_append, List.mem_singleton, g z]
    exact ⟨fun q => q.elim .inr .inl, fun q => q.elim .inr .inl⟩
/-! ### sorted of a set -/
theorem each_perm {α β : Type} {R : α → β → Prop} {l l' : List α} (p : l'.Perm l) : ∀ {bs : List β}, PySem.W.EachIs R l bs → ∃ bs', PySem.W.EachIs R l' bs' ∧ bs'.Perm bs := by
  induction p with
  | nil => exact fun {bs} e => ⟨bs, e, List.Perm.refl _⟩
  | cons x _ ih =>
    intro bs e
    cases e with
    | cons h t =>
      obtain ⟨bs', e', p'⟩ := ih t
      exact ⟨_ :: bs', .cons h e', p'.cons _⟩
  | swap x y l =>
    intro bs e
    cases e with
    | cons h t =>
      cases t with
      | cons h' t' => exact ⟨_, .cons h' (.cons h t'), List.Perm.swap _ _ _⟩
  | trans _ _ ih1 ih2 =>
    intro bs e
    obtain ⟨b1, e1, p1⟩ := ih2 e
    obtain ⟨b2, e2, p2⟩ := ih1 e1
    exact ⟨b2, e2, p2.trans p1⟩
open PySem.W in
theorem each_and {α β : Type} {R S : α → β → Prop} : ∀ {as : List α} {bs : List β}, EachIs R as bs → EachIs S as bs → EachIs (fun a b => R a b ∧ S a b) as bs
  | _, _, .nil, .nil => .nil
  | _, _, .cons h t, .cons h' t' => .cons ⟨h, h'⟩ (each_and t t')
open PySem.W in
/-- xs.sort(): the list's own object then holds the sorted values -/
theorem list_sorts {β : Type} {a : Addr} {n : Nat} {vs : List Value} {bs : List β} {enc : β → PyData} {R : Value → β → Prop} {Q : Value → Shared → Prop} (ho : s.heap.get? a = some (seqObj "list" vs.toArray n)) (e : EachIs R vs bs) (er : EachIs (fun v b => ∃ as, Reads s.heap v (enc b) as ∧ a ∉ as) vs bs) (hal : AllAlike (bs.map enc)) (hk : (∀ d ∈ bs.map enc, ∃ xs, d = .tuple xs) ∨ Sortable (bs.map enc)) (hL : bs.length ≤ sizeLine)
    (hu : ∀ b, b ∈ bs → A.units + 1 + (enc b).depth < cLine) (h : ∀ out, out.length = bs.length → EachIs R out (bs.mergeSort (dataLe false enc)) → Q .none { s with heap := sortedHeap s.heap a vs (List.toArray out) }) :
    wpAny (model P w) A (call (.builtin "list.sort") [.ref a]) Q E s := by
  have er' : EachIs (fun v b => ∃ as, Reads (sortingHeap s.heap a vs) v (enc b) as) vs bs := each_keepBut (h' := sortingHeap s.heap a vs) (fun _ _ hb q => sortingHeap_old hb q) (fun o q => by rw [ho] at q; rw [← Option.some.inj q]) hal er
  have em := each_map (R := fun v d => ∃ as, Reads (sortingHeap s.heap a vs) v d as) enc er'
  have can : SortsAt P w A.in1 { s with heap := sortingHeap s.heap a vs } (dataKind (sortingHeap s.heap a vs) (bs.map enc)) vs := by
    rcases hk with ht | hs
    · exact SortsAt.tups (s := { s with heap := sortingHeap s.heap a vs }) em hal ht (bound_map hu)
    · exact SortsAt.data (s := { s with heap := sortingHeap s.heap a vs }) em hal hs (bound_map hu)
  refine wpAny_call_entry slot_list_sort ⟨_, ho, rfl⟩ entry_list_sort (list_sort_vals (κ := dataKind (sortingHeap s.heap a vs) (bs.map enc)) ho can (by rw [e.length]; exact hL) ⟨.none, rfl, ?_⟩) (args_list_sort _)
  exact h _ (by rw [sortVals_length false rfl]; exact e.length) (sortVals_data false e er' hal)
open PySem.W in
theorem sort_facts {β : Type} (enc : β → PyData) (bs : List β) : (bs.mergeSort (dataLe false enc)).Perm bs ∧ (bs.mergeSort (dataLe false enc)).Pairwise (fun a b => dataLe false enc a b = true) :=
  ⟨List.mergeSort_perm _ _, sort_pairwise (sortLe_total (listOrd itemOrd) false fun b => keyToks (enc b)) bs⟩
open PySem.W in
theorem sorted_coll {β : Type} {a : Addr} {es : Array (Int × Value)} {ep : Nat} {t : SetTable} {bs : List β} {enc : β → PyData} {R : Value → β → Prop} {Q : Value → Shared → Prop} (hh : A.handled = none) (ha : SetAt s.heap a es ep t) (hf : t.fits es.size = true) (hsz : es.size < scanBound) (r : Ris t.place.toList)
    (hl : w.params.followText "set-order" = true ∨ t.led = true) (e : EachIs R (es.toList.map (·.2)) bs) (er : EachIs (fun v b => ∃ as, Reads s.heap v (enc b) as ∧ ∀ c ∈ as, c < s.heap.objs.size) (es.toList.map (·.2)) bs)
    (hal : AllAlike (bs.map enc)) (hk : (∀ d ∈ bs.map enc, ∃ xs, d = .tuple xs) ∨ Sortable (bs.map enc)) (hu : ∀ b, b ∈ bs → A.units + 3 + (enc b).depth < cLine)
    (hQ : ∀ s' p (out : Array Value) (c : Nat) (bs' : List β), (∀ b o, s.heap.get? b = some o → s'.heap.get? b = some o) → s'.gens = s.gens → s'.os = s.os → s.heap.objs.size ≤ p → s'.heap.get? p = some (seqObj "list" out c) →
      EachIs R out.toList bs' → bs'.Perm bs → bs'.Pairwise (fun a b => dataLe false enc a b = true) → Q (.ref p) s') :
    wpAny (model P w) A (call (.builtin "sorted") [.ref a]) Q E s := by
  refine Calls.call_function_entry kind_sorted plain_sorted entry_sorted (args_sorted1 _) ?_
  unfold Builtin.«sorted»
  refine wpAny_bind (m := checkCount "sorted" 1 1 _) (wpAny_pure ?_)
  refine wpAny_bind (collect_set (A := A.in1) hh ha hf hsz r hl fun s1 vs k1 hz g1 o1 pm => ?_)
  obtain ⟨bs1, e1, p1⟩ := each_perm pm (each_and e er)
  have lb : bs.length = es.size := by rw [← e.length, List.length_map, Array.length_toList]
  have lv : vs.length = bs1.length := e1.length
  have l1 : bs1.length = bs.length := p1.length_eq
  have sl : scanBound = 4096 := rfl
  refine wpAny_bind (wpAny_newList ?_ (by rw [sizeLine_eq]; omega))
  have hoL : (s1.heap.push (seqObj "list" vs.toArray 0)).get? s1.heap.objs.size = some (seqObj "list" vs.toArray 0) := Heap.get?_push_size _ rfl
  have mem1 : ∀ d, d ∈ bs1.map enc ↔ d ∈ bs.map enc := fun d => (p1.map enc).mem_iff
  refine wpAny_bind (wpAny_holding (list_sorts (s := { s1 with heap := s1.heap.push (seqObj "list" vs.toArray 0) }) (enc := enc) (R := R) hoL (e1.mono fun _ _ z => z.1)
    (e1.mono fun v b z => ?_) (fun d hd d' hd' => hal d ((mem1 d).mp hd) d' ((mem1 d').mp hd')) ?_ (by rw [sizeLine_eq]; omega) (fun b hb => ?_) fun out ho eo => ?_))
  · obtain ⟨_, as, rd, lo⟩ := z
    refine ⟨as, PyProof.Rows.Reads.keeps (fun c o q => Heap.get?_push_of_some _ (k1 c o q)) rd, fun hm => ?_⟩
    exact absurd (Nat.lt_of_lt_of_le (lo _ hm) hz) (Nat.lt_irrefl _)
  · rcases hk with ht | hs
    · exact .inl fun d hd => ht d ((mem1 d).mp hd)
    · rcases hs with h1 | h2
      · exact .inr (.inl fun d hd => h1 d ((mem1 d).mp hd))
      · exact .inr (.inr fun d hd => h2 d ((mem1 d).mp hd))
  · have := hu b (p1.mem_iff.mp hb)
    simp only [Around.in1_units]
    omega
  · obtain ⟨c, hc⟩ := sortedHeap_at (vs := vs) (out := out.toArray) hoL
    have sf := sort_facts enc bs1
    refine wpAny_pure ⟨_, rfl, hQ _ s1.heap.objs.size out.toArray c (bs1.mergeSort (dataLe false enc)) (fun b u q => ?_) g1 o1 hz hc (by simpa using eo) (sf.1.trans p1) sf.2⟩
    have q1 := k1 b u q
    have hlt := Heap.lt_size q1
    show (sortedHeap (s1.heap.push (seqObj "list" vs.toArray 0)) s1.heap.objs.size vs out.toArray).get? b = some u
    rw [sortedHeap_old (Nat.ne_of_lt hlt) (by rw [size_push']; exact Nat.lt_succ_of_lt hlt)]
    exact Heap.get?_push_of_some _ q1
end
end Rw
namespace Rw
open PySem PySem.Spec PyProof.Rows L2 PySem.Froz
/-! ### data made of texts, whole numbers, None and tuples -/
mutual
def okD : PyData → Bool
  | .none => true
  | .int _ => true
  | .str _ => true
  | .tuple xs => okDs xs
  | .bool _ => false
  | .list _ => false
  | .dict _ => false
def okDs : List PyData → Bool
  | [] => true
  | x :: xs => okD x && okDs xs
end
mutual
def toK : PyData → NK
  | .none => .none
  | .int i => .num i
  | .str x => .text x
  | .tuple xs => .tup (toKs xs)
  | .bool _ => .none
  | .list _ => .none
  | .dict _ => .none
def toKs : List PyData → List NK
  | [] => []
  | x :: xs => toK x :: toKs xs
end
theorem okDs_cons {x : PyData} {xs : List PyData} (h : okDs (x :: xs) = true) : okD x = true ∧ okDs xs = true := by
  rw [okDs, Bool.and_eq_true] at h
  exact h
mutual
theorem toK_data : ∀ d : PyData, okD d = true → (toK d).data = d
  | .none, _ => by simp [toK, NestedKey.data]
  | .int _, _ => by simp [toK, NestedKey.data]
  | .str _, _ => by simp [toK, NestedKey.data]
  | .tuple xs, h => by
    rw [okD] at h
    rw [toK, NestedKey.data, toKs_data xs h]
  | .bool _, h => by simp [okD] at h
  | .list _, h => by simp [okD] at h
  | .dict _, h => by simp [okD] at h
theorem toKs_data : ∀ ds : List PyData, okDs ds = true → NestedKey.datas (toKs ds) = ds
  | [], _ => by simp [toKs, NestedKey.datas]
  | x :: xs, h => by
    obtain ⟨h1, h2⟩ := okDs_cons h
    rw [toKs, NestedKey.datas, toK_data x h1, toKs_data xs h2]
end
theorem toK_inj {d e : PyData} (hd : okD d = true) (he : okD e = true) (h : toK d = toK e) : d = e := by
  rw [← toK_data d hd, ← toK_data e he, h]
mutual
theorem toK_depth : ∀ d : PyData, (toK d).depth ≤ d.depth
  | .none => by simp [toK, NestedKey.depth]
  | .int _ => by simp [toK, NestedKey.depth]
  | .str _ => by simp [toK, NestedKey.depth]
  | .tuple xs => by
    have z := toKs_depth xs
    rw [toK, NestedKey.depth, PyData.depth]
    omega
  | .bool _ => by simp [toK, NestedKey.depth]
  | .list _ => by simp [toK, NestedKey.depth]
  | .dict _ => by simp [toK, NestedKey.depth]
theorem toKs_depth : ∀ ds : List PyData, NestedKey.depthAll (toKs ds) ≤ PyData.depthAll ds
  | [] => by simp [toKs, NestedKey.depthAll]
  | x :: xs => by
    have z1 := toK_depth x
    have z2 := toKs_depth xs
    rw [toKs, NestedKey.depthAll, PyData.depthAll]
    omega
end
mutual
theorem isK_of : ∀ (d : PyData) (h : Heap) (v : Value) (as : List Addr), okD d = true → Reads h v d as → NestedIs h (toK d) v ∧ as = []
  | .none, _, _, _, _, r => by
    cases r
    exact ⟨.none, rfl⟩
  | .int _, _, _, _, _, r => by
    cases r
    exact ⟨.int _ _, rfl⟩
  | .str _, _, _, _, _, r => by
    cases r
    exact ⟨.text _ _, rfl⟩
  | .tuple xs, h, _, _, ok, r => by
    rw [okD] at ok
    cases r with
    | tuple h1 h2 h3 h4 =>
      obtain ⟨k, e⟩ := isKs_of xs h _ _ ok h4
      exact ⟨.tup h1 h2 h3 k, e⟩
  | .bool _, _, _, _, ok, _ => by simp [okD] at ok
  | .list _, _, _, _, ok, _ => by simp [okD] at ok
  | .dict _, _, _, _, ok, _ => by simp [okD] at ok
theorem isKs_of : ∀ (ds : List PyData) (h : Heap) (vs : List Value) (as : List Addr), okDs ds = true → ReadsAll h vs ds as → NestedAll h (toKs ds) vs ∧ as = []
  | [], _, _, _, _, r => by
    cases r
    exact ⟨.nil, rfl⟩
  | x :: xs, h, _, _, ok, r => by
    obtain ⟨o1, o2⟩ := okDs_cons ok
    cases r with
    | cons r1 r2 =>
      obtain ⟨k1, e1⟩ := isK_of x h _ _ o1 r1
      obtain ⟨k2, e2⟩ := isKs_of xs h _ _ o2 r2
      exact ⟨.cons k1 k2, by rw [e1, e2]; rfl⟩
end
/-- a tuple of such, not too deep -/
structure Good (d : PyData) : Prop where
  ok : okD d = true
  dp : d.depth ≤ 8
  tu : ∃ xs, d = .tuple xs
/-! ### what stays while tuples stay -/
def Stay (H H' : Hp) : Prop := ∀ b xs, Rd H b (.tup xs) → Rd H' b (.tup xs)
theorem Stay.refl (H : Hp) : Stay H H := fun _ _ h => h
theorem Stay.trans {H H1 H2 : Hp} (a : Stay H H1) (b : Stay H1 H2) : Stay H H2 := fun c xs h => b c xs (a c xs h)
theorem Stay.same {H H' : Hp} (h : Same H H') : Stay H H' := fun b xs r => by
  rcases r with r | ⟨o, r⟩
  · exact .inl (h _ _ r)
  · exact .inr ⟨o, h _ _ r⟩
theorem same_new {H : Hp} {p : Addr} (h : H p = none) (o : HO) : Same H (upd H p o) := fun b u q => by
  rw [upd_ne (ne_of_none q h)]
  exact q
theorem Stay.new {H : Hp} {p : Addr} (h : H p = none) (o : HO) : Stay H (upd H p o) := .same (same_new h o)
theorem Stay.put {H : Hp} {p : Addr} (h : Mut (H p)) (o : HO) : Stay H (upd H p o) := fun b xs r => by
  have ne : b ≠ p := fun z => by
    subst z
    rcases r with r | ⟨u, r⟩
    · rw [r] at h; exact h
    · rw [r] at h; exact h
  unfold Rd
  rw [upd_ne ne]
  exact r
theorem Stay.seq {K : PySem.W.Frag} {H H' : Hp} {a : Addr} {xs : List V} (e : Stay H H') (h : SqT K H a xs) : SqT K H' a xs := by
  rcases h with h | h
  · exact .inl (e _ _ h)
  · exact .inr h
theorem same_tup {K : PySem.W.Frag} {H H' : Hp} {a : Addr} {xs : List V} (e : Same H H') (h : SqT K H a xs) : SqT K H' a xs := (Stay.same e).seq h
section
variable {K : PySem.W.Frag} {H H' : Hp}
mutual
theorem Stay.dp (e : Stay H H') : ∀ (d : PyData) (x : V), okD d = true → Dp K H x d → Dp K H' x d
  | .none, _, _, h => by cases h; exact .non
  | .int _, _, _, h => by cases h; exact .int _
  | .str _, _, _, h => by cases h; exact .str _
  | .tuple ds, _, ok, h => by
    rw [okD] at ok
    cases h with
    | tup h1 h2 => exact .tup (e.seq h1) (Stay.dpAll e ds _ ok h2)
  | .bool _, _, ok, _ => by simp [okD] at ok
  | .list _, _, ok, _ => by simp [okD] at ok
  | .dict _, _, ok, _ => by simp [okD] at ok
theorem Stay.dpAll (e : Stay H H') : ∀ (ds : List PyData) (xs : List V), okDs ds = true → DpAll K H xs ds → DpAll K H' xs ds
  | [], _, _, h => by cases h; exact .nil
  | d :: ds, _, ok, h => by
    obtain ⟨o1, o2⟩ := okDs_cons ok
    cases h with
    | cons h1 h2 => exact .cons (Stay.dp e d _ o1 h1) (Stay.dpAll e ds _ o2 h2)
end
theorem okDs_all {ds : List PyData} (h : ∀ d ∈ ds, okD d = true) : okDs ds = true := by
  induction ds with
  | nil => rfl
  | cons d ds ih =>
    rw [okDs, h d List.mem_cons_self, ih fun e he => h e (List.mem_cons_of_mem _ he)]
    rfl
theorem dpAll_len : ∀ {xs : List V} {ds : List PyData}, DpAll K H xs ds → xs.length = ds.length
  | _, _, .nil => rfl
  | _, _, .cons _ t => by rw [List.length_cons, List.length_cons, dpAll_len t]
theorem dpAll_at : ∀ {xs : List V} {ds : List PyData} {i : Nat} {d : PyData}, DpAll K H xs ds → ds[i]? = some d → ∃ x, xs[i]? = some x ∧ Dp K H x d
  | _, _, _, _, .nil, e => by simp at e
  | _, _, 0, _, .cons h _, e => by
    simp at e
    subst e
    exact ⟨_, rfl, h⟩
  | _, _, i + 1, _, .cons _ t, e => by
    obtain ⟨x, h1, h2⟩ := dpAll_at (i := i) t (by simpa using e)
    exact ⟨x, by simpa using h1, h2⟩
theorem dpAll_at' : ∀ {xs : List V} {ds : List PyData} {i : Nat} {x : V}, DpAll K H xs ds → xs[i]? = some x → ∃ d, ds[i]? = some d ∧ Dp K H x d
  | _, _, _, _, .nil, e => by simp at e
  | _, _, 0, _, .cons h _, e => by
    simp at e
    subst e
    exact ⟨_, rfl, h⟩
  | _, _, i + 1, _, .cons _ t, e => by
    obtain ⟨x, h1, h2⟩ := dpAll_at' (i := i) t (by simpa using e)
    exact ⟨x, by simpa using h1, h2⟩
theorem dpAll_app : ∀ {xs ys : List V} {ds es : List PyData}, DpAll K H xs ds → DpAll K H ys es → DpAll K H (xs ++ ys) (ds ++ es)
  | _, _, _, _, .nil, h => h
  | _, _, _, _, .cons a t, h => .cons a (dpAll_app t h)
theorem Good.ref {x : V} {d : PyData} (g : Good d) (h : Dp K H x d) : ∃ a, x = .ref a := by
  obtain ⟨xs, rfl⟩ := g.tu
  cases h with
  | tup _ _ => exact ⟨_, rfl⟩
end
/-! ### the rules over the abstract heap -/
def tk (L : List (Addr × PyData)) : List (Addr × NK) := L.map fun p => (p.1, toK p.2)
/-- the set of tuples at a, without the tuples -/
def TSetO (w : World) (a : Addr) (L : List (Addr × PyData)) : HO := .ext fun h => ∃ (es : Array (Int × Value)) (ep : Nat) (t : SetTable), (∃ o, h.get? a = some o ∧ o.ExactSet ∧ o.data = .set es ep t) ∧ es.toList = ents w (tk L) ∧ TabOk t (hashes w (tk L)) ∧ ((tk L).map (·.2)).Nodup ∧
  (w.params.followText "set-order" = true ∨ t.led = true) ∧ (tk L).length * 5 < t.mask * 3 ∧ (tk L).length < 76
def XSetO (P : Program) (w : World) (a : Addr) (ms : List Str) : HO := .ext fun h => ∃ (es : Array (Int × Value)) (ep : Nat) (t : SetTable), XSet P w h a ms es ep t
section
variable {X : Cx} {pins : List (Addr × Obj)} {σ : L2.St} {H : Hp} {s : Shared}
theorem key_at (I : Inv X pins σ H s) {a : Addr} {d : PyData} (h : Dp X.K H (.ref a) d) (g : Good d) : TupK s.heap (toK d) a := by
  obtain ⟨as, r⟩ := Dp.reads I d (.ref a) (.ref a) h rfl
  exact ⟨(isK_of d s.heap _ as g.ok r).1, Nat.le_trans (toK_depth d) g.dp⟩
theorem refs_of (g : ∀ d ∈ ds, Good d) {K : PySem.W.Frag} {H : Hp} : ∀ {xs : List V}, DpAll K H xs ds → ∃ L : List (Addr × PyData), xs = L.map (fun p => V.ref p.1) ∧ ds = L.map (·.2) ∧ ∀ p ∈ L, Dp K H (.ref p.1) p.2 := by
  induction ds with
  | nil =>
    intro xs h
    cases h
    exact ⟨[], rfl, rfl, fun p hp => nomatch hp⟩
  | cons d ds ih =>
    intro xs h
    cases h with
    | cons h1 h2 =>
      obtain ⟨L, e1, e2, e3⟩ := ih (fun e he => g e (List.mem_cons_of_mem _ he)) h2
      obtain ⟨a, rfl⟩ := (g d List.mem_cons_self).ref h1
      refine ⟨(a, d) :: L, by rw [e1]; rfl, by rw [e2]; rfl, fun p hp => ?_⟩
      rcases List.mem_cons.mp hp with e | hp
      · rw [e]
        exact h1
      · exact e3 p hp
theorem vals_refs : ∀ {L : List (Addr × PyData)} {us : List Value}, Vals (L.map fun p => V.ref p.1) us → us = (tk L).map fun p => Value.ref p.1
  | [], _, .nil => rfl
  | p :: L, _, .cons r t => by
    cases r
    rw [vals_refs t]
    rfl
/-- set(xs), xs a list or a tuple of tuples -/
def rSetT (K : PySem.W.Frag) (w : World) : List V → Hp → VK → Prop := fun vs H Q => ∃ (l : Addr) (xs : List V) (ds : List PyData), vs = [V.ref l] ∧ (SqL K H l xs ∨ SqT K H l xs) ∧ DpAll K H xs ds ∧ (∀ d ∈ ds, Good d) ∧ ds.length < 76 ∧
  ∀ a L, H a = none → (∀ p ∈ L, p.2 ∈ ds ∧ Dp K H (.ref p.1) p.2) → (∀ d ∈ ds, d ∈ L.map (·.2)) → Q (.ref a) (upd H a (TSetO w a L))
theorem cr_setT (hc : X.calm = true) (hu : X.A.units + 64 < cLine) : CallR X (.type "set") (rSetT X.K X.w) := by
  intro pins s σ H vs us Q I r h
  obtain ⟨l, xs, ds, rfl, hl, hd, hg, hf, q⟩ := h
  obtain ⟨L0, rfl, rfl, hL0⟩ := refs_of hg hd
  rw [Vals.ref1 r]
  have hn : H s.heap.objs.size = none := I.hok.fresh (Nat.le_refl _)
  have hk0 : ∀ p ∈ tk L0, TupK s.heap p.2 p.1 := fun p hp => by
    obtain ⟨z, hz, rfl⟩ := List.mem_map.mp hp
    exact key_at I (hL0 z hz) (hg z.2 (List.mem_map.mpr ⟨z, hz, rfl⟩))
  have few : (tk L0).length < 76 := by
    unfold tk
    rw [List.length_map]
    rw [List.length_map] at hf
    exact hf
  have T := fill_tups (P := X.prog) (w := X.w) s.heap.objs.size s.heap (tk L0) hk0 few
  have fin : ∀ (n : Nat), n = (tk L0).length → ∀ (h' : Heap) (tk' : Nat), (∃ L es ep t, TSet X.prog X.w h' s.heap.objs.size L es ep t ∧ GotN (tk L0) n L) → (∀ b o, s.heap.get? b = some o → h'.get? b = some o) → EP X pins σ Q (.ref s.heap.objs.size) { s with heap := h', toks := tk' } := by
    intro n en h' tk' ⟨L, es, ep, t, R, g⟩ k
    subst en
    have back : ∀ M : List (Addr × NK), (∀ p ∈ M, p ∈ tk L0) → ∃ M0 : List (Addr × PyData), M = tk M0 ∧ ∀ p ∈ M0, p ∈ L0 := by
      intro M
      induction M with
      | nil => exact fun _ => ⟨[], rfl, fun p hp => nomatch hp⟩
      | cons m M ih =>
        intro hm
        obtain ⟨M0, e, h0⟩ := ih fun p hp => hm p (List.mem_cons_of_mem _ hp)
        obtain ⟨z, hz, ez⟩ := List.mem_map.mp (hm m List.mem_cons_self)
        refine ⟨z :: M0, by rw [e, ← ez]; rfl, fun p hp => ?_⟩
        rcases List.mem_cons.mp hp with e' | hp
        · rw [e']
          exact hz
        · exact h0 p hp
    obtain ⟨M, rfl, hM⟩ := back L fun p hp => List.mem_of_mem_take (g.sub p hp)
    have new : ObjOk X.prog X.w (upd H s.heap.objs.size (TSetO X.w s.heap.objs.size M)) h' s.heap.objs.size (TSetO X.w s.heap.objs.size M) := by
      obtain ⟨o, ho, ho2⟩ := R.ob
      refine ⟨⟨es, ep, t, ⟨o, ho, ho2⟩, R.en, R.tab, R.nd, R.led, R.room, R.few⟩, ⟨o, ho⟩, fun h1 h2 ⟨es', ep', t', ⟨o', e1, e2⟩, z⟩ kk => ⟨es', ep', t', ⟨o', kk o' e1, e2⟩, z⟩⟩
    refine ⟨.ref s.heap.objs.size, upd H s.heap.objs.size (TSetO X.w s.heap.objs.size M), I.laid (t' := tk') k (Nat.le_refl _) new, rfl, q _ M hn (fun p hp => ⟨List.mem_map.mpr ⟨p, hM p hp, rfl⟩, hL0 p (hM p hp)⟩) fun d hd => ?_⟩
    obtain ⟨z, hz, rfl⟩ := List.mem_map.mp hd
    have := g.all (z.1, toK z.2) (by rw [List.take_length]; exact List.mem_map.mpr ⟨z, hz, rfl⟩)
    obtain ⟨y, hy, ey⟩ := List.mem_map.mp this
    obtain ⟨y0, hy0, e0⟩ := List.mem_map.mp hy
    have e3 : toK y0.2 = toK z.2 := by
      have e := ey
      rw [← e0] at e
      exact e
    have e4 : y0.2 = z.2 := toK_inj (hg _ (List.mem_map.mpr ⟨y0, hM y0 hy0, rfl⟩)).ok (hg _ (List.mem_map.mpr ⟨z, hz, rfl⟩)).ok e3
    exact List.mem_map.mpr ⟨y0, hy0, e4⟩
  have vlen : ∀ {its : List Value}, its = (tk L0).map (fun p => Value.ref p.1) → its.toArray.size = (tk L0).length := fun e => by
    rw [e, List.size_toArray, List.length_map]
  rcases hl with hl | hl
  · obtain ⟨its, rv, pl, hz⟩ := I.list hl
    have ev := vals_refs rv
    exact call_fill_list (I.ok.hd hc) pl.isList (by rw [show its.toArray.toList = its by simp, ev]; exact T) (by omega) fun h' tk' G k => fin _ (vlen ev) h' tk' G k
  · obtain ⟨its, rv, pl, hz⟩ := I.tuple hl
    have ev := vals_refs rv
    obtain ⟨o, e1, e2, n, e3⟩ := pl
    exact call_fill_tuple (I.ok.hd hc) ⟨o, e1, e2, n, e3⟩ (by rw [show its.toArray.toList = its by simp, ev]; exact T) (by omega) fun h' tk' G k => fin _ (vlen ev) h' tk' G k
theorem tset_get (I : Inv X pins σ H s) {a : Addr} {L : List (Addr × PyData)} (ha : H a = some (TSetO X.w a L)) (hL : ∀ p ∈ L, Good p.2 ∧ Dp X.K H (.ref p.1) p.2) : ∃ es ep t, TSet X.prog X.w s.heap a (tk L) es ep t := by
  obtain ⟨es, ep, t, h1, h2, h3, h4, h5, h6, h7⟩ := (I.hok a _ ha).1
  refine ⟨es, ep, t, h1, h2, h3, h4, fun p hp => ?_, h5, h6, h7⟩
  obtain ⟨z, hz, rfl⟩ := List.mem_map.mp hp
  exact key_at I (hL z hz).2 (hL z hz).1
open PySem.W in
/-- values that stand for data, as values of the layer -/
theorem each_vals {K : PySem.W.Frag} {H : Hp} : ∀ {us : List Value} {ds : List PyData}, EachIs (fun u d => ∃ x, RelV x u ∧ Dp K H x d) us ds → ∃ ys, Vals ys us ∧ DpAll K H ys ds
  | _, _, .nil => ⟨[], .nil, .nil⟩
  | _, _, .cons ⟨x, r, h⟩ t => by
    obtain ⟨ys, v, h'⟩ := each_vals t
    exact ⟨x :: ys, .cons r v, .cons h h'⟩
open PySem.W in
theorem each_map' {α γ δ : Type} {R : γ → δ → Prop} (f : α → γ) (g : α → δ) : ∀ {l : List α}, (∀ a ∈ l, R (f a) (g a)) → EachIs R (l.map f) (l.map g)
  | [], _ => .nil
  | a :: l, h => .cons (h a List.mem_cons_self) (each_map' f g fun b hb => h b (List.mem_cons_of_mem _ hb))
/-- in rising order, as Python's < says -/
abbrev Rising (ds : List PyData) : Prop := ds.Pairwise fun a b => PySem.W.dataLe false id a b = true
/-- sorted(a set of tuples) -/
def rSortT (K : PySem.W.Frag) (w : World) : List V → Hp → VK → Prop := fun vs H Q => ∃ (a : Addr) (L : List (Addr × PyData)), vs = [V.ref a] ∧ H a = some (TSetO w a L) ∧ (∀ p ∈ L, Good p.2 ∧ Dp K H (.ref p.1) p.2) ∧ PySem.W.AllAlike (L.map (·.2)) ∧
  ∀ (ys : List V) (ds : List PyData) (p : Addr), ds.Perm (L.map (·.2)) → ds.Nodup → ds.length < 76 → Rising ds → DpAll K H ys ds → H p = none → Q (.ref p) (upd H p (.lst ys))
theorem cr_sortT (hc : X.calm = true) (hu : X.A.units + 64 < cLine) : CallR X (.builtin "sorted") (rSortT X.K X.w) := by
  intro pins s σ H vs us Q I r h
  obtain ⟨a, L, rfl, ha, hL, hal, q⟩ := h
  obtain ⟨es, ep, t, R⟩ := tset_get I ha hL
  rw [Vals.ref1 r]
  obtain ⟨o, ho, hex, hd⟩ := R.ob
  have hvals : es.toList.map (·.2) = L.map fun p => Value.ref p.1 := by
    rw [R.en]
    unfold ents tk
    rw [List.map_map, List.map_map]
    rfl
  have few : L.length < 76 := by
    have := R.few
    unfold tk at this
    rw [List.length_map] at this
    exact this
  have e1 : PySem.W.EachIs (fun u d => ∃ x, RelV x u ∧ Dp X.K H x d) (es.toList.map (·.2)) (L.map (·.2)) := by
    rw [hvals]
    exact each_map' _ _ fun p hp => ⟨.ref p.1, rfl, (hL p hp).2⟩
  have e2 : PySem.W.EachIs (fun v d => ∃ as, Reads s.heap v (id d) as ∧ ∀ c ∈ as, c < s.heap.objs.size) (es.toList.map (·.2)) (L.map (·.2)) := by
    rw [hvals]
    refine each_map' _ _ fun p hp => ?_
    obtain ⟨as, rd⟩ := Dp.reads I p.2 (.ref p.1) (.ref p.1) (hL p hp).2 rfl
    refine ⟨as, rd, ?_⟩
    rw [(isK_of p.2 s.heap _ as (hL p hp).1.ok rd).2]
    exact fun c hc => nomatch hc
  have hm : ∀ d ∈ (L.map (·.2)).map id, Good d := fun d hd => by
    rw [List.map_id] at hd
    obtain ⟨p, hp, rfl⟩ := List.mem_map.mp hd
    exact (hL p hp).1
  refine sorted_coll (enc := id) (I.ok.hd hc) ⟨o, ho, hex.1, hd⟩ R.fits (by have := size_of_ents R.en; unfold tk at this; rw [List.length_map] at this; unfold scanBound; omega) R.tab.ris R.led e1 e2 (by rw [List.map_id]; exact hal) (.inl fun d hd => (hm d hd).tu) (fun d hd => ?_) fun s' p out c ds k g os hp hg ho' pm sr => ?_
  · have z := (hm d (by rw [List.map_id]; exact hd)).dp
    show X.A.units + 3 + d.depth < cLine
    omega
  · obtain ⟨ys, hv, hd'⟩ := each_vals ho'
    have hn : H p = none := I.hok.fresh hp
    have hl : ds.length = L.length := by rw [pm.length_eq, List.length_map]
    have hlen : ys.length ≤ sizeLine := by
      rw [dpAll_len hd', sizeLine_eq]
      omega
    have nd : ds.Nodup := by
      refine pm.nodup_iff.mpr ?_
      have z := R.nd
      unfold tk at z
      rw [List.map_map] at z
      have z' : (L.map fun p => toK p.2).Nodup := z
      have y : ((L.map (·.2)).map toK).Nodup := by
        rw [List.map_map]
        exact z'
      exact nodup_of_map y
    have J : Inv X pins σ (upd H p (.lst ys)) { s with heap := s'.heap, gens := s'.gens, drawn := s'.drawn, toks := s'.toks } :=
      I.call (ch := []) (Un.laid k hp hn) (I.hok.laid k hp ⟨hlen, out.toList, c, hv, hg⟩) (by rw [g]; exact I.bare) (fun _ z => nomatch z)
    have e : s' = { s with heap := s'.heap, gens := s'.gens, drawn := s'.drawn, toks := s'.toks } := by
      cases s'
      cases s
      cases os
      rfl
    rw [e]
    exact ⟨.ref p, _, J, rfl, q ys ds p pm nd (by omega) sr hd' hn⟩
/-- set(xs), xs a list or a tuple of texts -/
def rSetX (K : PySem.W.Frag) (P : Program) (w : World) : List V → Hp → VK → Prop := fun vs H Q => ∃ (l : Addr) (zs : List Str), vs = [V.ref l] ∧ (SqL K H l (zs.map V.str) ∨ SqT K H l (zs.map V.str)) ∧ zs.length < 1000 ∧
  ∀ a ms, H a = none → ms.Nodup → (∀ z, z ∈ ms ↔ z ∈ zs) → ms.length ≤ zs.length → Q (.ref a) (upd H a (XSetO P w a ms))
theorem vals_texts : ∀ {zs : List Str} {us : List Value}, Vals (zs.map V.str) us → PySem.W.EachIs (fun v z => ∃ u, v = Value.str z u) us zs
  | [], _, .nil => .nil
  | _ :: _, _, .cons r t => .cons r (vals_texts t)
theorem texts_vals {zs : List Str} {us : List Value} (h : PySem.W.EachIs (fun v z => ∃ u, v = Value.str z u) us zs) : Vals (zs.map V.str) us := by
  induction h with
  | nil => exact .nil
  | cons h _ ih => exact .cons h ih
theorem cr_setX (hc : X.calm = true) (hu : X.A.units + 64 < cLine) : CallR X (.type "set") (rSetX X.K X.prog X.w) := by
  intro pins s σ H vs us Q I r h
  obtain ⟨l, zs, rfl, hl, few, q⟩ := h
  rw [Vals.ref1 r]
  have hn : H s.heap.objs.size = none := I.hok.fresh (Nat.le_refl _)
  have fin : ∀ (n : Nat), n = zs.length → ∀ (h' : Heap) (tk' : Nat), (∃ ms es ep t, XSet X.prog X.w h' s.heap.objs.size ms es ep t ∧ (∀ z, z ∈ ms ↔ z ∈ zs.take n) ∧ ms.length ≤ n) → (∀ b o, s.heap.get? b = some o → h'.get? b = some o) → EP X pins σ Q (.ref s.heap.objs.size) { s with heap := h', toks := tk' } := by
    intro n en h' tk' ⟨ms, es, ep, t, R, g, hl⟩ k
    subst en
    have new : ObjOk X.prog X.w (upd H s.heap.objs.size (XSetO X.prog X.w s.heap.objs.size ms)) h' s.heap.objs.size (XSetO X.prog X.w s.heap.objs.size ms) :=
      ⟨⟨es, ep, t, R⟩, ⟨_, R.ob⟩, fun h1 h2 ⟨es', ep', t', R'⟩ kk => ⟨es', ep', t', R'.moved kk⟩⟩
    exact ⟨.ref s.heap.objs.size, _, I.laid (t' := tk') k (Nat.le_refl _) new, rfl, q _ ms hn R.nd (fun z => by rw [g z, List.take_length]) hl⟩
  have sb : scanBound = 4096 := rfl
  rcases hl with hl | hl
  · obtain ⟨its, rv, pl, hz⟩ := I.list hl
    have ev := vals_texts rv
    have T := fill_texts (P := X.prog) (w := X.w) s.heap.objs.size s.heap zs ev (by omega)
    exact call_fill_list (I.ok.hd hc) pl.isList (by rw [show its.toArray.toList = its by simp]; exact T) (by omega) fun h' tk' G k => fin its.toArray.size (by rw [List.size_toArray]; exact ev.length) h' tk' G k
  · obtain ⟨its, rv, pl, hz⟩ := I.tuple hl
    have ev := vals_texts rv
    have T := fill_texts (P := X.prog) (w := X.w) s.heap.objs.size s.heap zs ev (by omega)
    obtain ⟨o, e1, e2, n, e3⟩ := pl
    exact call_fill_tuple (I.ok.hd hc) ⟨o, e1, e2, n, e3⟩ (by rw [show its.toArray.toList = its by simp]; exact T) (by omega) fun h' tk' G k => fin its.toArray.size (by rw [List.size_toArray]; exact ev.length) h' tk' G k
abbrev RisingX (zs : List Str) : Prop := zs.Pairwise fun a b => decide (a.cps.toList ≤ b.cps.toList) = true
open PySem.W in
theorem each_iff {es : List (Int × Value)} : ∀ {ms : List Str}, (∀ e ∈ es, ∃ k u, e.2 = Value.str k u) → ∃ zs, EachIs (fun v z => ∃ u, v = Value.str z u) (es.map (·.2)) zs := by
  induction es with
  | nil => exact fun _ => ⟨[], .nil⟩
  | cons e es ih =>
    intro ms h
    obtain ⟨k, u, ek⟩ := h e List.mem_cons_self
    obtain ⟨zs, hz⟩ := ih (ms := ms) fun e' he => h e' (List.mem_cons_of_mem _ he)
    exact ⟨k :: zs, .cons ⟨u, ek⟩ hz⟩
/-- sorted(a set of texts) -/
def rSortX (P : Program) (w : World) : List V → Hp → VK → Prop := fun vs H Q => ∃ (a : Addr) (ms : List Str), vs = [V.ref a] ∧ H a = some (XSetO P w a ms) ∧ ms.length < 1000 ∧
  ∀ (zs : List Str) (p : Addr), (∀ z, z ∈ zs ↔ z ∈ ms) → zs.Nodup → zs.length ≤ ms.length → RisingX zs → H p = none → Q (.ref p) (upd H p (.lst (zs.map V.str)))
theorem nodup_len_le : ∀ {l m : List Str}, l.Nodup → (∀ z ∈ l, z ∈ m) → l.length ≤ m.length
  | [], _, _, _ => Nat.zero_le _
  | x :: l, m, hn, hs => by
    obtain ⟨h1, h2⟩ := List.nodup_cons.mp hn
    have hx : x ∈ m := hs x List.mem_cons_self
    have ih := nodup_len_le (l := l) (m := m.erase x) h2 fun y hy => (List.mem_erase_of_ne (show y ≠ x from fun e => h1 (by rw [← e]; exact hy))).2 (hs y (List.mem_cons_of_mem _ hy))
    rw [List.length_erase_of_mem hx] at ih
    have := List.length_pos_of_mem hx
    rw [List.length_cons]
    omega
theorem nodup_of_len : ∀ {l m : List Str}, m.Nodup → (∀ z ∈ m, z ∈ l) → l.length ≤ m.length → l.Nodup
  | [], _, _, _, _ => List.nodup_nil
  | x :: l, m, hm, hs, hl => by
    have hxl : x ∉ l := fun hx => by
      have z := nodup_len_le (l := m) (m := l) hm fun z hz => (List.mem_cons.mp (hs z hz)).elim (fun e => by rw [e]; exact hx) id
      rw [List.length_cons] at hl
      omega
    refine List.nodup_cons.mpr ⟨hxl, nodup_of_len (m := m.erase x) (hm.erase x) (fun z hz => ?_) ?_⟩
    · have hz' := List.mem_of_mem_erase hz
      rcases List.mem_cons.mp (hs z hz') with e | h
      · rw [e] at hz
        exact absurd hz (List.Nodup.not_mem_erase hm)
      · exact h
    · by_cases hx : x ∈ m
      · rw [List.length_erase_of_mem hx]
        rw [List.length_cons] at hl
        omega
      · rw [List.erase_of_not_mem hx]
        rw [List.length_cons] at hl
        omega
theorem cr_sortX (hc : X.calm = true) (hu : X.A.units + 64 < cLine) : CallR X (.builtin "sorted") (rSortX X.prog X.w) := by
  intro pins s σ H vs us Q I r h
  obtain ⟨a, ms, rfl, ha, hlt, q⟩ := h
  obtain ⟨es, ep, t, R⟩ := (I.hok a _ ha).1
  rw [Vals.ref1 r]
  have hel := R.ok.el
  have hsz : es.size = ms.length := R.ok.sz
  obtain ⟨zs, hz⟩ := each_iff (es := es.toList) (ms := ms) fun e he => by
    obtain ⟨⟨k, hk, _⟩, _⟩ := hel e he
    obtain ⟨u, hu⟩ := Value.isStrOf_shape (x := k) (v := e.2) hk
    exact ⟨k, u, hu⟩
  have e1 : PySem.W.EachIs (fun u z => RelV (.str z) u) (es.toList.map (·.2)) zs := hz
  have e2 : PySem.W.EachIs (fun v z => ∃ as, Reads s.heap v (PyData.str z) as ∧ ∀ c ∈ as, c < s.heap.objs.size) (es.toList.map (·.2)) zs := hz.mono fun v z ⟨u, e⟩ => ⟨[], by rw [e]; exact .str z u, fun c hc => nomatch hc⟩
  have mem : ∀ z, z ∈ zs ↔ z ∈ ms := fun z => by
    rw [R.ok.mem z]
    constructor
    · intro hm
      obtain ⟨i, hi, ei⟩ := List.getElem_of_mem hm
      have hi2 : i < (es.toList.map (·.2)).length := by rw [hz.length]; exact hi
      have pz : ((es.toList.map (·.2))[i], zs[i]) ∈ (es.toList.map (·.2)).zip zs := List.mem_of_getElem? (i := i) (by rw [List.getElem?_zip_eq_some]; exact ⟨List.getElem?_eq_getElem hi2, List.getElem?_eq_getElem hi⟩)
      obtain ⟨u, hu⟩ := hz.zip _ pz
      have hin := List.getElem_mem hi2
      rw [show (es.toList.map (·.2))[i] = Value.str zs[i] u from hu, ei] at hin
      obtain ⟨e, he, ee⟩ := List.mem_map.mp hin
      exact ⟨e, he, by rw [ee]; exact is_str z u⟩
    · rintro ⟨e, he, hk⟩
      obtain ⟨z', hz', u, hu⟩ := hz.left e.2 (List.mem_map.mpr ⟨e, he, rfl⟩)
      rw [hu] at hk
      have : z = z' := (strKind X.prog X.w).inj (.str z' u) z z' hk (is_str z' u)
      rw [this]
      exact hz'
  have zl : zs.length = ms.length := by rw [← hz.length, List.length_map, Array.length_toList, hsz]
  refine sorted_coll (enc := fun z : Str => PyData.str z) (I.ok.hd hc) ⟨_, R.ob, rfl, rfl⟩ R.ok.fit (by show es.size < scanBound; unfold scanBound; omega) R.ris R.led e1 e2 (PySem.W.AllAlike.of fun b b' => by simp [PySem.W.alike]) (.inr (PySem.W.Sortable.others fun b => ⟨(fun z => nomatch z), (fun xs z => nomatch z)⟩)) (fun d hd => ?_) fun s' p out c zs' k g os hp hg ho' pm sr => ?_
  · show X.A.units + 3 + (PyData.str d).depth < cLine
    simp only [PyData.depth]
    omega
  · have hn : H p = none := I.hok.fresh hp
    have hv : Vals (zs'.map V.str) out.toList := texts_vals ho'
    have hl : zs'.length = ms.length := by rw [pm.length_eq, zl]
    have hlen : (zs'.map V.str).length ≤ sizeLine := by
      rw [List.length_map, sizeLine_eq]
      omega
    have J : Inv X pins σ (upd H p (.lst (zs'.map V.str))) { s with heap := s'.heap, gens := s'.gens, drawn := s'.drawn, toks := s'.toks } :=
      I.call (ch := []) (Un.laid k hp hn) (I.hok.laid k hp ⟨hlen, out.toList, c, hv, hg⟩) (by rw [g]; exact I.bare) (fun _ z => nomatch z)
    have e : s' = { s with heap := s'.heap, gens := s'.gens, drawn := s'.drawn, toks := s'.toks } := by
      cases s'
      cases s
      cases os
      rfl
    rw [e]
    rw [PySem.W.dataLe_str fun z : Str => z] at sr
    have mem' : ∀ z, z ∈ zs' ↔ z ∈ ms := fun z => by rw [pm.mem_iff]; exact mem z
    exact ⟨.ref p, _, J, rfl, q zs' p mem' (nodup_of_len R.nd (fun z hz => (mem' z).mpr hz) (Nat.le_of_eq hl)) (Nat.le_of_eq hl) sr hn⟩
/-- sorted(a list of tuples) -/
def rSortL (K : PySem.W.Frag) : List V → Hp → VK → Prop := fun vs H Q => ∃ (a : Addr) (xs : List V) (ds : List PyData), vs = [V.ref a] ∧ SqL K H a xs ∧ DpAll K H xs ds ∧ (∀ d ∈ ds, Good d) ∧ PySem.W.AllAlike ds ∧
  ∀ (ys : List V) (es : List PyData) (p : Addr), es.Perm ds → Rising es → DpAll K H ys es → H p = none → Q (.ref p) (upd H p (.lst ys))
theorem cr_sortL (hu : X.A.units + 64 < cLine) : CallR X (.builtin "sorted") (rSortL X.K) := by
  intro pins s σ H vs us Q I r h
  obtain ⟨a, xs, ds, rfl, ha, hd, hg, hal, q⟩ := h
  rw [Vals.ref1 r]
  obtain ⟨its, rv, pl, hz⟩ := I.list ha
  have both : ∀ {xs : List V} {ds : List PyData} {its : List Value}, Vals xs its → DpAll X.K H xs ds → (∀ d ∈ ds, Good d) → PySem.W.EachIs (fun u d => (∃ x, RelV x u ∧ Dp X.K H x d) ∧ ∃ as, Reads s.heap u (id d) as) its ds := by
    intro xs ds its rv
    induction rv generalizing ds with
    | nil =>
      intro hd _
      cases hd
      exact .nil
    | cons r _ ih =>
      intro hd hg
      cases hd with
      | cons h1 h2 => exact .cons ⟨⟨_, r, h1⟩, Dp.reads I _ _ _ h1 r⟩ (ih h2 fun d hd => hg d (List.mem_cons_of_mem _ hd))
  have e0 := both rv hd hg
  have il : its.length = ds.length := e0.length
  have sl := sizeLine_eq
  have xl := rv.length
  have er' : PySem.W.EachIs (fun v d => ∃ as, Reads (PySem.W.sortingHeap (PySem.W.copyHeap s.heap its) (s.heap.objs.size + 1) its) v (id d) as) its ds := e0.mono fun _ _ z => by
    obtain ⟨_, as, rd⟩ := z
    exact ⟨as, PyProof.Rows.Reads.keeps (fun _ _ => PySem.W.sorting_copy_old) rd⟩
  have can : PySem.W.SortsAt X.prog X.w X.A.in1.in1 { s with heap := PySem.W.sortingHeap (PySem.W.copyHeap s.heap its) (s.heap.objs.size + 1) its } (PySem.W.dataKind (PySem.W.sortingHeap (PySem.W.copyHeap s.heap its) (s.heap.objs.size + 1) its) ds) its :=
    SortsAt.tups (s := { s with heap := PySem.W.sortingHeap (PySem.W.copyHeap s.heap its) (s.heap.objs.size + 1) its }) er' hal (fun d hd => (hg d hd).tu) fun d hd => by
      have z := (hg d hd).dp
      simp only [Around.in1_units]
      omega
  refine PySem.W.sorted_vals pl.isList can (by omega) ?_
  have eo : PySem.W.EachIs (fun u d => ∃ x, RelV x u ∧ Dp X.K H x d) (PySem.W.sortVals (PySem.W.dataKind (PySem.W.sortingHeap (PySem.W.copyHeap s.heap its) (s.heap.objs.size + 1) its) ds) false its its) (ds.mergeSort (PySem.W.dataLe false id)) := by
    have z := PySem.W.sortVals_data (h' := PySem.W.sortingHeap (PySem.W.copyHeap s.heap its) (s.heap.objs.size + 1) its) (enc := id) false (e0.mono fun _ _ z => z.1) er' (by rw [List.map_id]; exact hal)
    rw [List.map_id] at z
    exact z
  obtain ⟨ys, hv, hd'⟩ := each_vals eo
  have sf := sort_facts id ds
  generalize hout : PySem.W.sortVals (PySem.W.dataKind (PySem.W.sortingHeap (PySem.W.copyHeap s.heap its) (s.heap.objs.size + 1) its) ds) false its its = out at eo hv
  have hn : H (s.heap.objs.size + 1) = none := I.hok.fresh (Nat.le_succ _)
  obtain ⟨c, hcc⟩ := sortedAll_at s.heap its out.toArray
  have hlen : ys.length ≤ sizeLine := by
    rw [dpAll_len hd', sf.1.length_eq]
    omega
  exact ⟨.ref (s.heap.objs.size + 1), upd H (s.heap.objs.size + 1) (.lst ys), I.laid (t' := s.toks) (fun b o e => sortedAll_old e) (Nat.le_succ _) ⟨hlen, out, c, hv, hcc⟩, rfl, q ys _ _ sf.1 sf.2 hd' hn⟩
end
end Rw
namespace Rw
open PySem PySem.Spec PyProof.Rows L2
/-! ### dicts whose keys are tuples of texts and of such tuples -/
abbrev Ent := PyData × Addr × V
def RelE (p : Ent) (q : NK × Addr × Value) : Prop := toK p.1 = q.1 ∧ p.2.1 = q.2.1 ∧ RelV p.2.2 q.2.2
def NDO (P : Program) (w : World) (d : Addr) (kvs : List Ent) : HO := .ext fun h => kvs.length ≤ 100000 ∧ (d == sysModules) = false ∧ ∃ xs : List (NK × Addr × Value), Paired RelE kvs xs ∧
  ∃ o es ep, h.get? d = some o ∧ o.ExactDict ∧ o.data = .dict es ep ∧ es.toList = xs.map (entryOfKey (nestedKind P w)) ∧ (xs.map (·.1)).Nodup
/-- the entries' keys stand -/
abbrev KeysOk (K : PySem.W.Frag) (H : Hp) (kvs : List Ent) : Prop := ∀ p ∈ kvs, Good p.1 ∧ Dp K H (.ref p.2.1) p.1
theorem KeysOk.stay {K : PySem.W.Frag} {H H' : Hp} {kvs : List Ent} (h : KeysOk K H kvs) (e : Stay H H') : KeysOk K H' kvs := fun p hp => ⟨(h p hp).1, e.dp _ _ (h p hp).1.ok (h p hp).2⟩
theorem paired_mem {α β : Type} {F : α → β → Prop} : ∀ {l : List α} {m : List β}, Paired F l m → ∀ y ∈ m, ∃ x ∈ l, F x y
  | _, _, .nil, y, h => nomatch h
  | _, _, .cons r t, y, h => by
    rcases List.mem_cons.mp h with e | h
    · subst e
      exact ⟨_, List.mem_cons_self, r⟩
    · obtain ⟨x, hx, hr⟩ := paired_mem t y h
      exact ⟨x, List.mem_cons_of_mem _ hx, hr⟩
theorem paired_snoc {α β : Type} {F : α → β → Prop} {x : α} {y : β} (r : F x y) : ∀ {l : List α} {m : List β}, Paired F l m → Paired F (l ++ [x]) (m ++ [y])
  | _, _, .nil => .cons r .nil
  | _, _, .cons q t => .cons q (paired_snoc r t)
/-- what a look-up finds -/
theorem nd_look {kvs : List Ent} {xs : List (NK × Addr × Value)} (p : Paired RelE kvs xs) (hk : ∀ p ∈ kvs, Good p.1) {k : PyData} (g : Good k) :
    (∀ q, atKey xs (toK k) = some q → ∃ z ∈ kvs, z.1 = k ∧ RelV z.2.2 q.2) ∧ (atKey xs (toK k) = none → ∀ z ∈ kvs, z.1 ≠ k) := by
  induction p with
  | nil => exact ⟨fun q h => by simp [atKey] at h, fun _ z hz => nomatch hz⟩
  | @cons a b as bs r t ih =>
    obtain ⟨r1, r2, r3⟩ := r
    obtain ⟨i1, i2⟩ := ih fun p hp => hk p (List.mem_cons_of_mem _ hp)
    by_cases e : b.1 = toK k
    · have ek : a.1 = k := toK_inj (hk a List.mem_cons_self).ok g.ok (r1.trans e)
      have ea : atKey (b :: bs) (toK k) = some b.2 := by simp [atKey, e]
      refine ⟨fun q h => ?_, fun h => ?_⟩
      · rw [ea] at h
        cases h
        exact ⟨a, List.mem_cons_self, ek, r3⟩
      · rw [ea] at h
        cases h
    · have ea : atKey (b :: bs) (toK k) = atKey bs (toK k) := by simp [atKey, e]
      have ne : a.1 ≠ k := fun z => e (by rw [← r1, z])
      refine ⟨fun q h => ?_, fun h z hz => ?_⟩
      · rw [ea] at h
        obtain ⟨z, hz, h1⟩ := i1 q h
        exact ⟨z, List.mem_cons_of_mem _ hz, h1⟩
      · rw [ea] at h
        rcases List.mem_cons.mp hz with e' | hz
        · rw [e']
          exact ne
        · exact i2 h z hz
section
variable {X : Cx} {pins : List (Addr × Obj)} {σ : L2.St} {H : Hp} {s : Shared} {d : Addr} {kvs : List Ent} {E : Value → Shared → Prop}
theorem nd_get (I : Inv X pins σ H s) (hd : H d = some (NDO X.prog X.w d kvs)) (hk : KeysOk X.K H kvs) : kvs.length ≤ 100000 ∧ (d == sysModules) = false ∧ ∃ xs, Paired RelE kvs xs ∧ s.heap.DictOfH (nestedKind X.prog X.w) d xs := by
  obtain ⟨hz, hs, xs, p, o, es, ep, h1, h2, h3, h4, h5⟩ := (I.hok d _ hd).1
  refine ⟨hz, hs, xs, p, o, es, ep, h1, h2, h3, h4, fun x hx => ?_, h5⟩
  obtain ⟨q, hq, r1, r2, _⟩ := paired_mem p x hx
  have := key_at I (hk q hq).2 (hk q hq).1
  rw [r1, r2] at this
  exact this
theorem nd_new {kvs : List Ent} {xs : List (NK × Addr × Value)} {h' : Heap} {H' : Hp} (hz : kvs.length ≤ 100000) (hs : (d == sysModules) = false) (p : Paired RelE kvs xs) (m : h'.DictOfH (nestedKind X.prog X.w) d xs) : ObjOk X.prog X.w H' h' d (NDO X.prog X.w d kvs) := by
  obtain ⟨o, es, ep, h1, h2, h3, h4, _, h5⟩ := m
  refine ⟨⟨hz, hs, xs, p, o, es, ep, h1, h2, h3, h4, h5⟩, ⟨o, h1⟩, fun a b ⟨z1, z2, xs', p', o', es', ep', k1, k2⟩ kk => ⟨z1, z2, xs', p', o', es', ep', kk o' k1, k2⟩⟩
/-- k in d, k not in d -/
def rInN (K : PySem.W.Frag) (P : Program) (w : World) (neg : Bool) : R2 := fun x y H Q => ∃ (a d : Addr) (kvs : List Ent) (k : PyData), x = .ref a ∧ y = .ref d ∧ H d = some (NDO P w d kvs) ∧ KeysOk K H kvs ∧ Good k ∧ Dp K H (.ref a) k ∧
  ∀ b : Bool, (b = true ↔ k ∈ kvs.map (·.1)) → Q (.bl (if neg then !b else b)) H
theorem nd_isSome {xs : List (NK × Addr × Value)} (p : Paired RelE kvs xs) (hk : ∀ p ∈ kvs, Good p.1) {k : PyData} (g : Good k) : (atKey xs (toK k)).isSome = true ↔ k ∈ kvs.map (·.1) := by
  obtain ⟨l1, l2⟩ := nd_look p hk g
  cases e : atKey xs (toK k) with
  | none => exact ⟨(fun h => nomatch h), fun h => by
      obtain ⟨z, hz, ez⟩ := List.mem_map.mp h
      exact absurd ez (l2 e z hz)⟩
  | some q => exact ⟨fun _ => by
      obtain ⟨z, hz, h1, _⟩ := l1 q e
      exact List.mem_map.mpr ⟨z, hz, h1⟩, fun _ => rfl⟩
theorem op_inN (hu : X.A.units + 64 < cLine) : OpR X (compareOp .In) (rInN X.K X.prog X.w false) := by
  intro pins s σ H x y v u Q I rx ry h
  obtain ⟨a, d, kvs, k, rfl, rfl, hd, hk, g, da, q⟩ := h
  cases rx
  cases ry
  obtain ⟨hz, hs, xs, p, m⟩ := nd_get I hd hk
  refine wpAny_in_heap (knd := nestedKind X.prog X.w) (by show X.A.units + 1 + 8 < cLine; omega) (key_at I da g) hs m ?_
  exact ⟨.bl _, H, I.tok _, rfl, q _ (nd_isSome p (fun z hz => (hk z hz).1) g)⟩
theorem op_notInN (hu : X.A.units + 64 < cLine) : OpR X (compareOp .NotIn) (rInN X.K X.prog X.w true) := by
  intro pins s σ H x y v u Q I rx ry h
  obtain ⟨a, d, kvs, k, rfl, rfl, hd, hk, g, da, q⟩ := h
  cases rx
  cases ry
  obtain ⟨hz, hs, xs, p, m⟩ := nd_get I hd hk
  refine wpAny_notIn_heap (knd := nestedKind X.prog X.w) (by show X.A.units + 1 + 8 < cLine; omega) (key_at I da g) hs m ?_
  exact ⟨.bl _, H, I.tok _, rfl, q _ (nd_isSome p (fun z hz => (hk z hz).1) g)⟩
/-- d[k], k is there -/
def rGetN (K : PySem.W.Frag) (P : Program) (w : World) : R2 := fun x y H Q => ∃ (a d : Addr) (kvs : List Ent) (k : PyData), x = .ref d ∧ y = .ref a ∧ H d = some (NDO P w d kvs) ∧ KeysOk K H kvs ∧ Good k ∧ Dp K H (.ref a) k ∧ k ∈ kvs.map (·.1) ∧
  ∀ z ∈ kvs, z.1 = k → Q z.2.2 H
theorem pe_getN {o i : Expr} {td ty : TE} {pos : Pos} (hu : X.A.units + 64 < cLine) (hr : PE X o td) (hi : PE X i ty) (hs : NoSl i) : PE X (.Subscript o i pos) (tOp (rGetN X.K X.prog X.w) td ty) := by
  refine ⟨fun pins s σ H Q I h => ?_⟩
  refine subD_of PySem.F.slot_dict_getitem.lookup hs (thn (hr.run pins s σ H _ I h) fun v s1 ⟨x, H1, I1, r1, q1⟩ => thn (hi.run pins s1 σ H1 _ I1 q1) fun u s2 ⟨y, H2, I2, r2, a, d, kvs, k, ex, ey, hd, hk, g, da, hm, q⟩ => ?_)
  subst ex ey
  cases r1
  cases r2
  obtain ⟨hz, hs', xs, p, m⟩ := nd_get I2 hd hk
  obtain ⟨l1, l2⟩ := nd_look p (fun z hz => (hk z hz).1) g
  refine ⟨m.typeIs, ?_⟩
  cases e : atKey xs (toK k) with
  | none =>
    obtain ⟨z, hz, ez⟩ := List.mem_map.mp hm
    exact absurd ez (l2 e z hz)
  | some pv =>
    obtain ⟨z, hz, ez, rz⟩ := l1 pv e
    exact wpAny_getItem_heap (knd := nestedKind X.prog X.w) (by show X.A.units + 1 + 8 < cLine; omega) (key_at I2 da g) m e ⟨z.2.2, H2, I2.tok _, rz, q z hz ez⟩
/-- {} -/
theorem pe_dnewN {pos : Pos} : PE X (.Dict [] [] pos) (fun _ H Q => ∀ p, H p = none → Q (.ref p) (upd H p (NDO X.prog X.w p []))) := ⟨fun pins s σ H Q I h =>
  wpAny_Dict_empty ⟨.ref s.heap.objs.size, _, I.laid (a := s.heap.objs.size) (o := NDO X.prog X.w s.heap.objs.size []) (t' := s.toks) (fun _ _ q => Heap.get?_push_of_some _ q) (Nat.le_refl _)
    (nd_new (X := X) (Nat.zero_le _) (by have := I.big; exact beq_eq_false_iff_ne.mpr (Nat.ne_of_gt this)) .nil (Heap.DictOfH.new _)), rfl, h _ (I.hok.fresh (Nat.le_refl _))⟩⟩
/-- an entry more -/
theorem nd_put {a : Addr} {k : PyData} {x : V} {u : Value} {A : Around} {Q : Unit → Shared → Prop} (hu : A.units + 8 < cLine) (I : Inv X pins σ H s) (hd : H d = some (NDO X.prog X.w d kvs)) (hk : KeysOk X.K H kvs) (g : Good k) (da : Dp X.K H (.ref a) k) (new : k ∉ kvs.map (·.1)) (few : kvs.length < 100000) (r : RelV x u)
    (h : ∀ s', Inv X pins σ (upd H d (NDO X.prog X.w d (kvs ++ [(k, a, x)]))) s' → (∀ b o, b ≠ d → s.heap.get? b = some o → s'.heap.get? b = some o) → Q () s') : wpAny (model X.prog X.w) A (dictSet d (.ref a) u) Q E s := by
  obtain ⟨hz, hs, xs, p, m⟩ := nd_get I hd hk
  have xl : xs.length = kvs.length := (Paired.length p).symm
  have none_ : atKey xs (toK k) = none := by
    cases e : atKey xs (toK k) with
    | none => rfl
    | some q => exact absurd ((nd_isSome p (fun z hz => (hk z hz).1) g).mp (by rw [e]; rfl)) new
  refine wpAny_dictSet_heap (knd := nestedKind X.prog X.w) (hsz := by rw [sizeLine_eq]; omega) hu (key_at I da g) m fun h' m' sb => ?_
  rw [storedH_new none_] at m'
  have ex : ∃ q, h'.get? d = some q := let ⟨q, _, _, hq, _⟩ := m'; ⟨q, hq⟩
  refine h _ (d_write (t' := _) I (by rw [hd]; exact True.intro) sb ex (nd_new (by rw [List.length_append, List.length_singleton]; omega) hs (paired_snoc ⟨rfl, rfl, r⟩ p) m')) fun b o hb e => (sb.2 b hb).trans e
/-- d.setdefault(k, x) -/
def tSetdN (K : PySem.W.Frag) (P : Program) (w : World) (td ty tx : TE) : TE := fun σ H Q => td σ H fun x H1 => ∃ d kvs0, x = .ref d ∧ H1 d = some (NDO P w d kvs0) ∧ ty σ H1 fun y H2 => tx σ H2 fun z H3 => ∃ (a : Addr) (kvs : List Ent) (k : PyData), y = .ref a ∧ H3 d = some (NDO P w d kvs) ∧ KeysOk K H3 kvs ∧
  Good k ∧ Dp K H3 (.ref a) k ∧ kvs.length < 100000 ∧ (∀ e ∈ kvs, e.1 = k → Q e.2.2 H3) ∧ (k ∉ kvs.map (·.1) → Q z (upd H3 d (NDO P w d (kvs ++ [(k, a, z)]))))
theorem pe_setdN {o e f : Expr} {td ty tx : TE} {apos cpos : Pos} (hu : X.A.units + 64 < cLine) (ho : PE X o td) (he : PE X e ty) (hf : PE X f tx) (m : M2 X o "setdefault" apos e f cpos) : PE X (.Call (.Attribute o "setdefault" apos) [e, f] [] cpos) (tSetdN X.K X.prog X.w td ty tx) := by
  refine ⟨fun pins s σ H Q I h => ?_⟩
  refine wpAny_Call_method m.base m.few m.line PySem.F.plainAttrs_dict PySem.F.slot_dict_setdefault PySem.F.type_dict_setdefault (thn (ho.run pins s σ H _ I h) fun u s1 ⟨x, H1, I1, rx, d, kvs0, ex, d0, q1⟩ => ?_)
  subst ex
  obtain rfl : u = Value.ref d := rx
  have ty0 : ∃ o, s1.heap.get? d = some o ∧ o.cls = .type "dict" ∧ o.dict = none := by
    obtain ⟨_, _, xs, _, o, es, ep, h1, h2, _⟩ := (I1.hok d _ d0).1
    exact ⟨o, h1, h2.1, h2.2.1⟩
  obtain ⟨ob, ho1, ho2, ho3⟩ := ty0
  refine ⟨⟨ob, ho1, ho2⟩, fun b eb => ?_, ?_⟩
  · cases eb
    exact ⟨ob, ho1, ho3⟩
  rw [m.trees]
  refine Calls.callWith_builtin rfl (Calls.evalArgs_plain (Calls.spliced_cons (thn (he.run pins s1 σ H1 _ I1 q1) fun iv s2 ⟨y, H2, I2, ry, q2⟩ =>
    Calls.spliced_cons (thn (hf.run pins s2 σ H2 _ I2 q2) fun fv s3 ⟨z, H3, I3, rz, a, kvs, k, ey, hd, hk, g, da, few, q3, q4⟩ => Calls.spliced_nil ?_))))
  subst ey
  obtain rfl : iv = Value.ref a := ry
  obtain ⟨hz, hs, xs, p, mm⟩ := nd_get I3 hd hk
  have xl : xs.length = kvs.length := (Paired.length p).symm
  obtain ⟨l1, l2⟩ := nd_look p (fun z hz => (hk z hz).1) g
  refine call_setdefault_heap (knd := nestedKind X.prog X.w) (hsz := by rw [sizeLine_eq]; omega) (by show X.A.units + 1 + 8 < cLine; omega) (key_at I3 da g) hs mm (fun pv hp => ?_) fun hn h' m' sb => ?_
  · obtain ⟨z', hz', ez, rz'⟩ := l1 pv hp
    exact ⟨z'.2.2, H3, I3.tok _, rz', q3 z' hz' ez⟩
  · rw [storedH_new hn] at m'
    have ex : ∃ q, h'.get? d = some q := let ⟨q, _, _, hq, _⟩ := m'; ⟨q, hq⟩
    refine ⟨z, _, d_write (t' := _) I3 (by rw [hd]; exact True.intro) sb ex (nd_new (by rw [List.length_append, List.length_singleton]; omega) hs (paired_snoc ⟨rfl, rfl, rz⟩ p) m'), rz, q4 fun hm => ?_⟩
    obtain ⟨z', hz', ez⟩ := List.mem_map.mp hm
    exact l2 hn z' hz' ez
end
end Rw
namespace Rw
open PySem PySem.Spec PyProof.Rows L2
/-! ### y = {x: True for x in xs}, xs a list of tuples, no two alike -/
theorem idx_new {ds : List PyData} (hn : ds.Nodup) {i : Nat} {d : PyData} (h : ds[i]? = some d) : d ∉ ds.take i := fun hm => by
  have z := take_snoc h
  have nd : (ds.take (i + 1)).Nodup := List.Nodup.sublist (List.take_sublist _ _) hn
  rw [z] at nd
  obtain ⟨_, _, h3⟩ := List.nodup_append.mp nd
  exact h3 d hm d (List.mem_singleton.mpr rfl) rfl
theorem vals_at : ∀ {xs : List V} {us : List Value} {i : Nat} {u : Value}, Vals xs us → us[i]? = some u → ∃ x, xs[i]? = some x ∧ RelV x u
  | _, _, _, _, .nil, e => by simp at e
  | _, _, 0, _, .cons r _, e => by
    simp at e
    subst e
    exact ⟨_, rfl, r⟩
  | _, _, i + 1, _, .cons _ t, e => by
    obtain ⟨x, h1, h2⟩ := vals_at (i := i) t (by simpa using e)
    exact ⟨x, by simpa using h1, h2⟩
section
variable {X : Cx}
def tSetD (K : PySem.W.Frag) (P : Program) (w : World) (ti : TE) : TE := fun σ H Q => ti σ H fun v H1 => ∃ (l : Addr) (xs : List V) (ds : List PyData), v = .ref l ∧ SqL K H1 l xs ∧ DpAll K H1 xs ds ∧ (∀ d ∈ ds, Good d) ∧ ds.Nodup ∧ ds.length ≤ 1000 ∧
  ∀ D kvs, H1 D = none → kvs.map (·.1) = ds → KeysOk K H1 kvs → Q (.ref D) (upd H1 D (NDO P w D kvs))
theorem ps_setDictTrue {i : Nat} {y x : Str} {py p1 p2 p3 pos spos : Pos} {kk : Nat} {iter : Expr} {scope : Scope} {own : List (Str × Nat)} {ti : TE} (hc : X.calm = true) (hu : X.A.units + 64 < cLine) (hN : X.N.Nodup) (hy : X.N[i]? = some y) (hyl : X.env.scope.names.lookup y = some .local)
    (hsw : swapsWith (.DictComp (.Name x p1) (.Constant (.bool true) kk p2) [⟨.Name x p3, iter, [], 0⟩] scope pos) (some (.Name y py)) spos.line X.env = pure true) (hi : PE X iter ti) (ok : BlkOk X.N X.env.scope scope own)
    (hx : scope.names.lookup x = some .local) (hdeb : (x == ("__debug__" : Str)) = false) (hcell : ∀ z ∈ scope.names, z.2 ≠ .cell) (hs : ∀ x, foldedSetIterable iter X.env x = pure x := by intro _; rfl) :
    PS X (.Assign [.Name y py] (.DictComp (.Name x p1) (.Constant (.bool true) kk p2) [⟨.Name x p3, iter, [], 0⟩] scope pos) spos) (tAsg (tSetD X.K X.prog X.w ti) (gName i)) := by
  refine ⟨fun pins s σ H D I h => ?_⟩
  have h : tSetD X.K X.prog X.w ti σ H (fun x H1 => gName i x σ H1 D.nx) := h
  have hfree : ∀ y ∈ scope.names, y.2 = .free → ∃ c, X.env.cells.lookup y.1 = some c := fun y hy e => by
    rcases ok.free y hy e with k | k
    · exact I.ok.has _ (.inl k)
    · exact I.ok.has _ (.inr k)
  rw [exec_Assign_Name_used _ _ _ _ hsw]
  refine wpAny_bind (wpAny_standAt (wpAny_bind ?_))
  show wpAny _ X.A (do let _ ← comprehension (.DictComp (.Name x p1) (.Constant (.bool true) kk p2) [⟨.Name x p3, iter, [], 0⟩] scope pos) scope X.env _ newDict false (eval iter X.env) (some (assign (.Name y py) X.env))) _ _ s
  have main : wpAny (model X.prog X.w) X.A (eval iter X.env) (fun xv s₁ => wpAny (model X.prog X.w) X.A (pyIter xv)
      (DcGoes X.prog X.w X.A X.xe X.env scope (cloFrom X.env.cells scope.names []) (.Name x p3) [] (.Name x p1) (.Constant (.bool true) kk p2) (some (assign (.Name y py) X.env)) (fun _ s' => SP X pins D .next s')) X.xe s₁) X.xe s := by
    refine thn (hi.run pins s σ H _ I h) fun xv s1 ⟨v, H1, I1, rv, l, xs, ds, ev, hl, hd, hg, hnd, hlen, q⟩ => ?_
    subst ev
    obtain rfl : xv = Value.ref l := rv
    obtain ⟨its, rvs, pl, _⟩ := I1.list hl
    have hl0 : s1.heap.IsList l its.toArray := pl.isList
    have hlt : (l : Nat) < s1.heap.objs.size := by
      obtain ⟨o, ho, _⟩ := hl0
      exact Heap.lt_size ho
    have il : its.length = ds.length := by rw [← rvs.length, dpAll_len hd]
    refine wpAny_pyIter_list hl0 ?_
    refine ⟨s1.heap.objs.size, [s1.heap.objs.size, l], [s1.heap.objs.size], its.toArray.size, _, _, rfl, Goes.list (I1.ok.hd hc) s1.heap.objs.size l (Nat.ne_of_lt hlt) its.toArray, ⟨⟨_, Heap.get?_push_size _ rfl, rfl, rfl⟩, hl0.push _⟩, ?_⟩
    intro D0 C s3 hB hDobj
    obtain ⟨⟨h3, tk3, rfl⟩, old, nD, nC, hDC, hnm⟩ := hB
    have szp : (s1.heap.push { cls := .type "list_iterator", data := .fields #[.ref l, .int 0 0] }).objs.size = s1.heap.objs.size + 1 := Heap.size_push ..
    have nD' : s1.heap.objs.size + 1 ≤ D0 := by
      have q := nD
      rw [szp] at q
      exact q
    have nC' : s1.heap.objs.size + 1 ≤ C := by
      have q := nC
      rw [szp] at q
      exact q
    have sD : s1.heap.objs.size ≤ D0 := Nat.le_trans (Nat.le_succ _) nD'
    have sC : s1.heap.objs.size ≤ C := Nat.le_trans (Nat.le_succ _) nC'
    have neDI : s1.heap.objs.size ≠ D0 := Nat.ne_of_lt nD'
    have neCI : s1.heap.objs.size ≠ C := Nat.ne_of_lt nC'
    have neDl : (l : Nat) ≠ D0 := Nat.ne_of_lt (Nat.lt_of_lt_of_le hlt sD)
    have neCl : (l : Nat) ≠ C := Nat.ne_of_lt (Nat.lt_of_lt_of_le hlt sC)
    have hDn : H1 D0 = none := I1.hok.fresh sD
    have hIn : H1 s1.heap.objs.size = none := I1.hok.fresh (Nat.le_refl _)
    have hCn : H1 C = none := I1.hok.fresh sC
    have all3 : ∀ b o, s1.heap.get? b = some o → h3.get? b = some o := fun b o e => old b o (Heap.get?_push_of_some _ e)
    have kx : (compEnvC scope (cloFrom X.env.cells scope.names []) C X.env).kindOf x = some .local := lookup_relabel_local hx
    have hp : ((compEnvC scope (cloFrom X.env.cells scope.names []) C X.env).scope.kind == .class || ((compEnvC scope (cloFrom X.env.cells scope.names []) C X.env).scope.kind == .module && (compEnvC scope (cloFrom X.env.cells scope.names []) C X.env).locals != (compEnvC scope (cloFrom X.env.cells scope.names []) C X.env).globals)) = false := by
      show (scope.kind == .class || (scope.kind == .module && _)) = false
      rw [ok.kind]
      rfl
    have fpI : ∀ kvs, FpOk X pins (upd H1 D0 (NDO X.prog X.w D0 kvs)) s1.heap.objs.size := fun kvs => I1.fpOk (Nat.le_refl _) (by rw [upd_ne neDI]; exact hIn)
    have fpC : ∀ kvs, FpOk X pins (upd H1 D0 (NDO X.prog X.w D0 kvs)) C := fun kvs => I1.fpOk sC (by rw [upd_ne (fun e => hDC e.symm)]; exact hCn)
    refine ⟨fun i s₁ => ∃ kvs m, Inv X pins σ (upd H1 D0 (NDO X.prog X.w D0 kvs)) s₁ ∧ s₁.heap.Ns C m ∧ kvs.map (·.1) = ds.take i ∧ KeysOk X.K H1 kvs, ?_, ?_, ?_, ?_⟩
    · -- at the start
      refine ⟨[], _, I1.laid (t' := tk3) all3 sD (nd_new (X := X) (Nat.zero_le _) ?_ .nil ?_), hnm, rfl, fun p hp => nomatch hp⟩
      · exact beq_eq_false_iff_ne.mpr (Nat.ne_of_gt (Nat.lt_of_lt_of_le I1.big sD))
      · exact ⟨_, #[], 0, hDobj, ⟨rfl, rfl, rfl⟩, rfl, rfl, (fun _ z => nomatch z), List.nodup_nil⟩
    · -- the iterator turns
      rintro i s₁ h' tk ⟨kvs, m, J, hn, e, ko⟩ kp _
      obtain ⟨f0, f1, f2, f3, f4, f5⟩ := fpI kvs
      exact ⟨kvs, m, J.turned (t' := tk) (fun b o hb q => kp b o (by simpa using hb) q) f0 f1 f3 f4 f5, hn.at' fun o q => kp _ o (by simpa using (fun z => neCI z.symm)) q, e, ko⟩
    · -- one turn
      rintro i v s₁ hi' hv st ⟨kvs, m, J, hn, e, ko⟩
      have hv' : its[i]? = some v := by simpa using hv
      obtain ⟨x0, hx0, rx0⟩ := vals_at rvs hv'
      obtain ⟨d, hd0, dd⟩ := dpAll_at' hd hx0
      have gd := hg d (List.mem_of_getElem? hd0)
      obtain ⟨a, rfl⟩ := gd.ref dd
      obtain rfl : v = Value.ref a := rx0
      refine wpAny_assign_Name (wpAny_storeName_local kx hn (fun h5 n5 s5 => ?_) hp)
      refine wpAny_tests_nil ?_
      show wpAny _ _ _ _ _ _
      obtain ⟨f0, f1, f2, f3, f4, f5⟩ := fpC kvs
      have J5 : Inv X pins σ (upd H1 D0 (NDO X.prog X.w D0 kvs)) { s₁ with heap := h5, toks := s₁.toks + 1 } := J.turned (t' := s₁.toks + 1) (fun b o hb q => (s5.2 b hb).trans q) f0 f1 f3 f4 f5
      rw [eval_Name _ _ _ hdeb]
      refine wpAny_bind (wpAny_standAt (wpAny_loadName_local ok.kind kx n5 (v := .ref a) (if_pos rfl) ?_))
      refine Constant_bool ?_
      have st5 : h5.IsListIter s1.heap.objs.size l (i + 1) ∧ h5.IsList l its.toArray := ⟨st.1.at fun o q => (s5.2 _ neCI).trans q, st.2.at fun o q => (s5.2 _ neCl).trans q⟩
      have sty : Stay H1 (upd H1 D0 (NDO X.prog X.w D0 kvs)) := Stay.new hDn _
      refine nd_put (s := { s₁ with heap := h5, toks := s₁.toks + 1 }) (by omega) J5 upd_same (ko.stay sty) gd (sty.dp _ _ gd.ok dd) (by rw [e]; exact idx_new hnd hd0) ?_ (x := .bl true) rfl fun s' J' kept => ?_
      · have z := congrArg List.length e
        rw [List.length_map, List.length_take] at z
        omega
      · rw [upd_upd] at J'
        refine ⟨⟨_, _, J', n5.at' fun o q => kept _ o (fun z => hDC z.symm) q, ?_, ?_⟩, st5.1.at fun o q => kept _ o neDI q, st5.2.at fun o q => kept _ o neDl q⟩
        · rw [List.map_append, e, take_snoc hd0]
          rfl
        · intro p hp
          rcases List.mem_append.mp hp with hp | hp
          · exact ko p hp
          · rw [List.mem_singleton.mp hp]
            exact ⟨gd, dd⟩
    · -- behind the last
      rintro s₁ ⟨kvs, m, J, hn, e, ko⟩
      have e' : kvs.map (·.1) = ds := by
        rw [e, List.size_toArray, il, List.take_length]
      show wpAny _ X.A (assign (.Name y py) X.env (.ref D0)) _ _ _
      obtain ⟨f0, f1, f2, f3, f4, f5⟩ := fpC kvs
      refine wpAny_assign_Name (store_ok2 (v := V.ref D0) J hN hy (.inl hyl) rfl (fun s2 J2 ⟨a, sb, ha⟩ => ?_) (.inr hyl))
      have haC : C ≠ a := by
        rcases ha with z | z
        · rw [z]
          exact f1
        · exact fun e => f4 y a z e.symm
      exact ⟨m, hn.sameBut sb haC, fun h3' sb3 => ⟨_, _, J2.turned (t' := s2.toks) (fun b o hb q => (sb3.2 b hb).trans q) f0 f1 f3 f4 f5, q D0 kvs hDn e' ko⟩⟩
  refine wpAny_bind (wpAny_mono (comprehension_at (use := some (assign (.Name y py) X.env)) (Q := fun _ s' => SP X pins D .next s') rfl hs (closure_ok hfree) ok.kind (fun z hz e => by rw [ok.uniq z hz, e])
    (wpAny_mono main (fun xv s₁ h₁ => wpAny_mono h₁ (fun it s₂ h₂ => compBlock_dict hcell ok.kind h₂) fun _ _ e => e) fun _ _ e => e)) (fun _ s' hq => wpAny_pure (wpAny_pure hq)) fun _ _ e => e)
end
end Rw
namespace Rw
open PySem PySem.Spec PyProof.Rows L2
/-! ### names, worlds, pairs -/
def letter (c : Nat) : Bool := decide (97 ≤ c) && decide (c ≤ 122)
def notS : Str := ("not" : Str)
def nameB (x : Str) : Bool := x.cps.toList.all letter && decide (1 ≤ x.cps.size) && decide (x.cps.size ≤ 8) && !decide (x = notS)
theorem nameB_iff {x : Str} : nameB x = true ↔ (∀ c ∈ x.cps.toList, letter c = true) ∧ 1 ≤ x.cps.size ∧ x.cps.size ≤ 8 ∧ x ≠ notS := by
  unfold nameB
  simp only [Bool.and_eq_true, List.all_eq_true, decide_eq_true_eq, Bool.not_eq_true', decide_eq_false_iff_not]
  exact ⟨fun ⟨⟨⟨a, b⟩, c⟩, d⟩ => ⟨a, b, c, d⟩, fun ⟨a, b, c, d⟩ => ⟨⟨⟨a, b⟩, c⟩, d⟩⟩
theorem name_strOk {x : Str} (h : nameB x = true) : PyData.strOk x = true := by
  obtain ⟨h1, _⟩ := nameB_iff.mp h
  unfold PyData.strOk
  rw [← Array.all_toList, List.all_eq_true]
  intro c hc
  have := h1 c hc
  unfold letter at this
  simp only [Bool.and_eq_true, decide_eq_true_eq] at this
  exact decide_eq_true (by omega)
abbrev W := List Str
abbrev Pr := W × W
/-- strictly rising -/
abbrev UpX (ns : W) : Prop := ns.Pairwise fun a b => a.cps.toList < b.cps.toList
structure IsW (ns : W) : Prop where
  names : ∀ x ∈ ns, nameB x = true
  up : UpX ns
  few : ns.length ≤ 40
def wd (ns : W) : PyData := .tuple (ns.map .str)
def pd (p : Pr) : PyData := .tuple [wd p.1, wd p.2]
theorem str_inj : ∀ {a b : W}, a.map PyData.str = b.map PyData.str → a = b
  | [], [], _ => rfl
  | [], _ :: _, h => by simp at h
  | _ :: _, [], h => by simp at h
  | x :: a, y :: b, h => by
    simp only [List.map_cons, List.cons.injEq, PyData.str.injEq] at h
    rw [h.1, str_inj h.2]
theorem wd_inj {a b : W} (h : wd a = wd b) : a = b := by
  unfold wd at h
  injection h with h
  exact str_inj h
theorem pd_inj {p q : Pr} (h : pd p = pd q) : p = q := by
  unfold pd at h
  injection h with h
  injection h with h1 h2
  injection h2 with h2 _
  exact Prod.ext (wd_inj h1) (wd_inj h2)
theorem okDs_str : ∀ ns : W, okDs (ns.map .str) = true
  | [] => rfl
  | x :: ns => by
    rw [List.map_cons, okDs, okDs_str ns]
    rfl
theorem depth_str : ∀ ns : W, PyData.depthAll (ns.map .str) = 0
  | [] => by simp [PyData.depthAll]
  | x :: ns => by
    rw [List.map_cons, PyData.depthAll, depth_str ns]
    simp [PyData.depth]
theorem ok_wd (ns : W) : okD (wd ns) = true := by
  unfold wd
  rw [okD]
  exact okDs_str ns
theorem depth_wd (ns : W) : (wd ns).depth = 1 := by
  unfold wd
  rw [PyData.depth, depth_str]
theorem good_wd (ns : W) : Good (wd ns) := ⟨ok_wd ns, by rw [depth_wd]; decide, ⟨_, rfl⟩⟩
theorem ok_pd (p : Pr) : okD (pd p) = true := by
  unfold pd
  rw [okD, okDs, okDs, okDs, ok_wd, ok_wd]
  rfl
theorem depth_pd (p : Pr) : (pd p).depth = 2 := by
  unfold pd
  simp [PyData.depth, PyData.depthAll, depth_wd]
theorem good_pd (p : Pr) : Good (pd p) := ⟨ok_pd p, by rw [depth_pd]; decide, ⟨_, rfl⟩⟩
theorem lay_strs : ∀ {ns : W}, (∀ x ∈ ns, nameB x = true) → PyData.canLayAll0 (ns.map .str) = true
  | [], _ => by simp [PyData.canLayAll0]
  | x :: ns, h => by
    rw [List.map_cons, PyData.canLayAll0, lay_strs fun y hy => h y (List.mem_cons_of_mem _ hy), PyData.canLay0, name_strOk (h x List.mem_cons_self)]
    rfl
theorem lay_wd {ns : W} (h : ∀ x ∈ ns, nameB x = true) : (wd ns).canLay0 = true := by
  unfold wd
  rw [PyData.canLay0]
  exact lay_strs h
theorem shaped_wd {ns : W} (h : IsW ns) : SeqAt.shaped (wd ns) = true := by
  unfold SeqAt.shaped
  rw [lay_wd h.names, depth_wd]
  rfl
theorem lay_pd {p : Pr} (h1 : IsW p.1) (h2 : IsW p.2) : (pd p).canLay0 = true := by
  unfold pd
  rw [PyData.canLay0, PyData.canLayAll0, PyData.canLayAll0, PyData.canLayAll0, lay_wd h1.names, lay_wd h2.names]
  rfl
theorem shaped_pd {p : Pr} (h1 : IsW p.1) (h2 : IsW p.2) : SeqAt.shaped (pd p) = true := by
  unfold SeqAt.shaped
  rw [lay_pd h1 h2, depth_pd]
  rfl
theorem alike_strs : ∀ a b : W, PySem.W.alikeAll (a.map .str) (b.map .str) = true
  | [], _ => by simp [PySem.W.alikeAll]
  | _ :: _, [] => by simp [PySem.W.alikeAll]
  | x :: a, y :: b => by
    rw [List.map_cons, List.map_cons, PySem.W.alikeAll, alike_strs a b]
    simp [PySem.W.alike]
theorem alike_wd (a b : W) : PySem.W.alike (wd a) (wd b) = true := by
  unfold wd
  rw [PySem.W.alike]
  exact alike_strs a b
theorem alike_pd (p q : Pr) : PySem.W.alike (pd p) (pd q) = true := by
  unfold pd
  rw [PySem.W.alike, PySem.W.alikeAll, PySem.W.alikeAll, PySem.W.alikeAll, alike_wd, alike_wd]
  rfl
theorem eqv_strs : ∀ a b : W, PyData.eqvAll (a.map .str) (b.map .str) = decide (a = b)
  | [], [] => by simp [PyData.eqvAll]
  | [], _ :: _ => by simp [PyData.eqvAll]
  | _ :: _, [] => by simp [PyData.eqvAll]
  | x :: a, y :: b => by
    rw [List.map_cons, List.map_cons, PyData.eqvAll, eqv_strs a b, PyData.eqv]
    by_cases h : x = y
    · subst h
      by_cases h2 : a = b <;> simp [h2]
    · simp [h]
theorem eqv_wd (a b : W) : PyData.eqv (wd a) (wd b) = decide (a = b) := by
  unfold wd
  rw [PyData.eqv]
  exact eqv_strs a b
theorem eqv_pd (p q : Pr) : PyData.eqv (pd p) (pd q) = decide (p = q) := by
  unfold pd
  rw [PyData.eqv, PyData.eqvAll, PyData.eqvAll, PyData.eqvAll, eqv_wd, eqv_wd]
  obtain ⟨a, b⟩ := p
  obtain ⟨c, d⟩ := q
  by_cases h1 : a = c
  · by_cases h2 : b = d <;> simp [h1, h2]
  · simp [h1]
/-! ### sorted lists are told by their members -/
theorem toks_ne {d e : PyData} (h : PySem.W.alike d e = true) (he : PyData.eqv d e = false) : PySem.W.keyToks d ≠ PySem.W.keyToks e := fun t => by
  have z := (PySem.W.toks_eqv d e h).2 he [.inl 0] [.inl 1]
  rw [t, PySem.W.lex_pre, lex_irrefl] at z
  exact absurd z (by decide)
theorem lt_or {d e : PyData} (h : PySem.W.alike d e = true) (he : PyData.eqv d e = false) : PySem.W.dataLt d e = true ∨ PySem.W.dataLt e d = true := by
  cases h1 : PySem.W.dataLt d e with
  | true => exact .inl rfl
  | false =>
    cases h2 : PySem.W.dataLt e d with
    | true => exact .inr rfl
    | false => exact absurd (lex_total _ _ h1 h2) (toks_ne h he)
/-- rising and without repetition: told by the members -/
theorem rising_one {α : Type} {enc : α → PyData} (al : ∀ a b, PySem.W.alike (enc a) (enc b) = true) (inj : ∀ a b, PyData.eqv (enc a) (enc b) = true → a = b) :
    ∀ {l m : List α}, Rising (l.map enc) → Rising (m.map enc) → l.Nodup → m.Nodup → (∀ a, a ∈ l ↔ a ∈ m) → l = m
  | [], [], _, _, _, _, _ => rfl
  | [], b :: m, _, _, _, _, h => absurd ((h b).mpr List.mem_cons_self) (List.not_mem_nil)
  | a :: l, [], _, _, _, _, h => absurd ((h a).mp List.mem_cons_self) (List.not_mem_nil)
  | a :: l, b :: m, r1, r2, n1, n2, h => by
    have le_of : ∀ {x y : α} {k : List α}, Rising ((x :: k).map enc) → y ∈ x :: k → y = x ∨ PySem.W.dataLt (enc y) (enc x) = false := by
      intro x y k r hy
      rcases List.mem_cons.mp hy with e | hy
      · exact .inl e
      · right
        have z := (List.pairwise_cons.mp r).1 (enc y) (List.mem_map.mpr ⟨y, hy, rfl⟩)
        have z' : (!PySem.W.dataLt (enc y) (enc x)) = true := z
        simpa using z'
    have e : a = b := by
      have h1 := le_of r1 ((h b).mpr List.mem_cons_self)
      have h2 := le_of r2 ((h a).mp List.mem_cons_self)
      rcases h1 with e | h1
      · exact e.symm
      · rcases h2 with e | h2
        · exact e
        · cases ev : PyData.eqv (enc a) (enc b) with
          | true => exact inj a b ev
          | false =>
            rcases lt_or (al a b) ev with z | z
            · rw [h2] at z
              exact nomatch z
            · rw [h1] at z
              exact nomatch z
    subst e
    obtain ⟨a1, a2⟩ := List.nodup_cons.mp n1
    obtain ⟨b1, b2⟩ := List.nodup_cons.mp n2
    rw [rising_one al inj (List.pairwise_cons.mp r1).2 (List.pairwise_cons.mp r2).2 a2 b2 fun x => ?_]
    constructor
    · intro hx
      rcases List.mem_cons.mp ((h x).mp (List.mem_cons_of_mem _ hx)) with e | z
      · rw [e] at hx
        exact absurd hx a1
      · exact z
    · intro hx
      rcases List.mem_cons.mp ((h x).mpr (List.mem_cons_of_mem _ hx)) with e | z
      · rw [e] at hx
        exact absurd hx b1
      · exact z
theorem pairs_one {R R' : List Pr} (r1 : Rising (R.map pd)) (r2 : Rising (R'.map pd)) (n1 : R.Nodup) (n2 : R'.Nodup) (h : ∀ p, p ∈ R ↔ p ∈ R') : R = R' :=
  rising_one alike_pd (fun p q e => by rw [eqv_pd] at e; exact of_decide_eq_true e) r1 r2 n1 n2 h
theorem worlds_one {R R' : List W} (r1 : Rising (R.map wd)) (r2 : Rising (R'.map wd)) (n1 : R.Nodup) (n2 : R'.Nodup) (h : ∀ p, p ∈ R ↔ p ∈ R') : R = R' :=
  rising_one alike_wd (fun p q e => by rw [eqv_wd] at e; exact of_decide_eq_true e) r1 r2 n1 n2 h
/-- texts: likewise -/
theorem upX_one : ∀ {l m : W}, UpX l → UpX m → (∀ a, a ∈ l ↔ a ∈ m) → l = m
  | [], [], _, _, _ => rfl
  | [], b :: m, _, _, h => absurd ((h b).mpr List.mem_cons_self) (List.not_mem_nil)
  | a :: l, [], _, _, h => absurd ((h a).mp List.mem_cons_self) (List.not_mem_nil)
  | a :: l, b :: m, r1, r2, h => by
    obtain ⟨p1, q1⟩ := List.pairwise_cons.mp r1
    obtain ⟨p2, q2⟩ := List.pairwise_cons.mp r2
    have e : a = b := by
      rcases List.mem_cons.mp ((h a).mp List.mem_cons_self) with e | z
      · exact e
      · rcases List.mem_cons.mp ((h b).mpr List.mem_cons_self) with e | z'
        · exact e.symm
        · exact absurd (p1 b z') (List.lt_asymm (p2 a z))
    subst e
    have na : ∀ {k : W}, (∀ x ∈ k, a.cps.toList < x.cps.toList) → a ∉ k := fun h hm => List.lt_irrefl _ (h a hm)
    rw [upX_one q1 q2 fun x => ?_]
    constructor
    · intro hx
      rcases List.mem_cons.mp ((h x).mp (List.mem_cons_of_mem _ hx)) with e | z
      · rw [e] at hx
        exact absurd hx (na p1)
      · exact z
    · intro hx
      rcases List.mem_cons.mp ((h x).mpr (List.mem_cons_of_mem _ hx)) with e | z
      · rw [e] at hx
        exact absurd hx (na p2)
      · exact z
/-- ≤ and without repetition: strictly rising -/
theorem upX_of {zs : W} (h : RisingX zs) (n : zs.Nodup) : UpX zs := by
  induction zs with
  | nil => exact List.Pairwise.nil
  | cons x zs ih =>
    obtain ⟨p, q⟩ := List.pairwise_cons.mp h
    obtain ⟨n1, n2⟩ := List.nodup_cons.mp n
    refine List.pairwise_cons.mpr ⟨fun y hy => ?_, ih q n2⟩
    have le := of_decide_eq_true (p y hy)
    refine Classical.byContradiction fun c => ?_
    have ge : y.cps.toList ≤ x.cps.toList := List.not_lt.mp c
    have e : x.cps.toList = y.cps.toList := List.le_antisymm le ge
    exact n1 ((PySem.W.str_of_cps e) ▸ hy)
theorem upX_nodup {zs : W} (h : UpX zs) : zs.Nodup := List.Pairwise.imp (fun {a b} h e => by subst e; exact List.lt_irrefl _ h) h
end Rw
namespace Rw
open PySem PySem.Spec PyProof.Rows L2
theorem in_letters {c : Nat} (h : letter c = true) : c ∈ lettersS.cps.toList := by
  have all : ((List.range 123).all fun c => !letter c || decide (c ∈ lettersS.cps.toList)) = true := by decide +kernel
  have z := h
  unfold letter at z
  simp only [Bool.and_eq_true, decide_eq_true_eq] at z
  have q := List.all_eq_true.mp all c (List.mem_range.mpr (by omega))
  rw [h] at q
  simpa using q
/-- a comprehension over a text's signs -/
theorem lc_sgn {x : Str} {g : TG} {tt : TT} {te : TE} {vs : List Nat} {σ : L2.St} {H1 : Hp} {D : Addr} {Qd : Hp → Prop} (Pv : Nat → Hp → Prop) (h0 : Pv 0 (upd H1 D (.lst [])))
    (hs : ∀ i c H, x.cps[i]? = some c → Pv i H → g (.str ⟨#[c]⟩) (wipe σ vs) H fun σ2 H2 => wipe σ2 vs = wipe σ vs ∧ tt σ2 H2 fun b H3 =>
      if b = true then te σ2 H3 fun y H4 => ∃ acc, H4 D = some (.lst acc) ∧ acc.length < sizeLine ∧ Pv (i + 1) (upd H4 D (.lst (acc ++ [y]))) else Pv (i + 1) H3) (hd : ∀ H, Pv x.cps.size H → Qd H) :
    ∃ W : Nat → Nat → Hp → Prop, (∃ m, W 0 m (upd H1 D (.lst []))) ∧ ∀ i m H, W i m H →
      ((Its x).stop i H ∧ Qd H) ∨ ((Its x).go i H ∧ ∃ Nx : Hp → Prop, (∀ H', Nx H' → ∃ m', m' < m ∧ W (i + 1) m' H') ∧ ∀ y H', (Its x).yld i H y H' → g y (wipe σ vs) H' fun σ2 H2 => wipe σ2 vs = wipe σ vs ∧ tt σ2 H2 fun b H3 =>
        if b = true then te σ2 H3 fun y H4 => ∃ acc, H4 D = some (.lst acc) ∧ acc.length < sizeLine ∧ Nx (upd H4 D (.lst (acc ++ [y]))) else Nx H3) := by
  refine ⟨fun i m H => m = x.cps.size - i ∧ i ≤ x.cps.size ∧ Pv i H, ⟨x.cps.size, by simp, Nat.zero_le _, h0⟩, ?_⟩
  rintro i m H ⟨rfl, hi, p⟩
  by_cases hlt : i < x.cps.size
  · refine .inr ⟨hlt, Pv (i + 1), fun H' p' => ⟨x.cps.size - (i + 1), by omega, rfl, hlt, p'⟩, fun y H' yy => ?_⟩
    obtain ⟨rfl, c, hc, rfl⟩ := yy
    exact hs i c _ hc p
  · have e : i = x.cps.size := by omega
    subst e
    exact .inl ⟨Nat.le_refl _, hd H p⟩
theorem small_line {n : Nat} (h : n ≤ 10000) : n ≤ sizeLine := by
  rw [sizeLine_eq]
  omega
theorem small_line' {n : Nat} (h : n ≤ 10000) : n < sizeLine := by
  rw [sizeLine_eq]
  omega
theorem map_at {α β : Type} {l : List α} {f : α → β} {i : Nat} {y : β} (h : (l.map f)[i]? = some y) : ∃ x, l[i]? = some x ∧ y = f x := by
  rw [List.getElem?_map] at h
  cases e : l[i]? with
  | none => rw [e] at h; simp at h
  | some x =>
    rw [e] at h
    exact ⟨x, rfl, (Option.some.inj h).symm⟩
theorem same_put {H H1 : Hp} {D : Addr} {o : HO} (sm : Same H H1) (hD : H D = none) : Same H (upd H1 D o) := fun b u e => by
  rw [upd_ne (ne_of_none e hD)]
  exact sm b u e
theorem dps_str {K : PySem.W.Frag} {H : Hp} : ∀ {ns : W} {xs : List V}, DpAll K H xs (ns.map .str) → xs = ns.map V.str
  | [], _, h => by cases h; rfl
  | x :: ns, _, h => by
    cases h with
    | cons h1 h2 =>
      cases h1
      rw [dps_str h2]
      rfl
theorem dps_strs {K : PySem.W.Frag} {H : Hp} : ∀ ns : W, DpAll K H (ns.map V.str) (ns.map .str)
  | [] => .nil
  | x :: ns => .cons (.str x) (dps_strs ns)
theorem of_wd {K : PySem.W.Frag} {H : Hp} {x : V} {ns : W} (h : Dp K H x (wd ns)) : ∃ a, x = .ref a ∧ SqT K H a (ns.map V.str) := by
  unfold wd at h
  cases h with
  | tup h1 h2 =>
    rw [dps_str h2] at h1
    exact ⟨_, rfl, h1⟩
theorem to_wd {K : PySem.W.Frag} {H : Hp} {a : Addr} {ns : W} (h : SqT K H a (ns.map V.str)) : Dp K H (.ref a) (wd ns) := .tup h (dps_strs ns)
theorem Stay.wd {K : PySem.W.Frag} {H H' : Hp} {x : V} {ns : W} (e : Stay H H') (h : Dp K H x (Rw.wd ns)) : Dp K H' x (Rw.wd ns) := e.dp _ _ (ok_wd ns) h
theorem tyx_tup {K : PySem.W.Frag} {H : Hp} {a : Addr} {xs : List V} (h : SqT K H a xs) : TyX K H (.ref a) (.type "tuple") := by
  rcases h with (h | ⟨o, h⟩) | ⟨o, its, n, h1, h2, _⟩
  · exact .base (.tup h)
  · exact .fTuple h
  · exact .kTuple h1 h2
/-- all of ms are in ns -/
def sub (ms ns : W) : Bool := ms.all fun z => decide (z ∈ ns)
theorem inV_str (z : Str) : ∀ ns : W, inV (.str z) (ns.map V.str) = decide (z ∈ ns)
  | [] => by simp [inV]
  | x :: ns => by
    have ih := inV_str z ns
    unfold inV at ih ⊢
    rw [List.map_cons, List.any_cons, ih]
    show ((x == z) || decide (z ∈ ns)) = decide (z ∈ x :: ns)
    by_cases h : x = z
    · subst h
      simp
    · have h' : z ≠ x := fun e => h e.symm
      simp [h, h']
theorem flat_strs (ns : W) : (ns.map V.str).all flatV = true := by
  rw [List.all_map, List.all_eq_true]
  exact fun _ _ => rfl
/-- the first that is told -/
theorem first_at {α β : Type} {f : α → Option β} {y : β} : ∀ {l : List α} {i : Nat} {p : α}, (∀ q ∈ l.take i, f q = none) → l[i]? = some p → f p = some y → l.findSome? f = some y
  | [], _, _, _, h, _ => by simp at h
  | a :: l, 0, p, _, h, e => by
    simp at h
    subst h
    rw [List.findSome?_cons, e]
  | a :: l, i + 1, p, h0, h, e => by
    rw [List.findSome?_cons, h0 a (by simp)]
    exact first_at (i := i) (fun q hq => h0 q (by rw [List.take_succ_cons]; exact List.mem_cons_of_mem _ hq)) (by simpa using h) e
theorem first_none {α β : Type} {f : α → Option β} {l : List α} (h : ∀ q ∈ l, f q = none) : l.findSome? f = none := List.findSome?_eq_none_iff.mpr h
theorem none_snoc {α β : Type} {f : α → Option β} {l : List α} {i : Nat} {p : α} (h0 : ∀ q ∈ l.take i, f q = none) (h : l[i]? = some p) (e : f p = none) : ∀ q ∈ l.take (i + 1), f q = none := fun q hq => by
  rw [take_snoc h] at hq
  rcases List.mem_append.mp hq with hq | hq
  · exact h0 q hq
  · rw [List.mem_singleton.mp hq]
    exact e
theorem filt_t {α : Type} {p : α → Bool} {l : List α} {i : Nat} {z : α} (hz : l[i]? = some z) (e : p z = true) : (l.take (i + 1)).filter p = (l.take i).filter p ++ [z] := by
  rw [take_snoc hz, List.filter_append]
  simp [e]
theorem filt_f {α : Type} {p : α → Bool} {l : List α} {i : Nat} {z : α} (hz : l[i]? = some z) (e : p z = false) : (l.take (i + 1)).filter p = (l.take i).filter p := by
  rw [take_snoc hz, List.filter_append]
  simp [e]
theorem okDs_wd (L : List W) : okDs (L.map wd) = true := okDs_all fun d hd => by
  obtain ⟨q, _, rfl⟩ := List.mem_map.mp hd
  exact ok_wd q
theorem none_back {H0 H : Hp} (h : Same H0 H) {o : Addr} (n : H o = none) : H0 o = none := by
  cases e : H0 o with
  | none => rfl
  | some u =>
    rw [h _ _ e] at n
    cases n
theorem map_inj_nodup {α β : Type} {f : α → β} : ∀ {l : List α}, (l.map f).Nodup → ∀ a ∈ l, ∀ b ∈ l, f a = f b → a = b
  | [], _, a, h, _, _, _ => nomatch h
  | x :: l, hn, a, ha, b, hb, e => by
    rw [List.map_cons] at hn
    obtain ⟨h1, h2⟩ := List.nodup_cons.mp hn
    rcases List.mem_cons.mp ha with ea | ha
    · rcases List.mem_cons.mp hb with eb | hb
      · rw [ea, eb]
      · exact absurd (List.mem_map.mpr ⟨b, hb, by rw [← e, ea]⟩) h1
    · rcases List.mem_cons.mp hb with eb | hb
      · exact absurd (List.mem_map.mpr ⟨a, ha, by rw [e, eb]⟩) h1
      · exact map_inj_nodup h2 a ha b hb e
theorem sw_trueD {key val : Expr} {gs : List Comprehension} {scope : Scope} {pos py : Pos} {y : Str} {l : Nat} {env : Env} (hk : env.scope.kind = .function) (hy : env.scope.names.lookup y = some .local) (hl : (py.line == pos.line) = true)
    (ha : (scope.names.any fun (n, k) => n == y && (k == .local || k == .cell)) = false) : swapsWith (.DictComp key val gs scope pos) (some (.Name y py)) l env = pure true :=
  (show swapsWith (.DictComp key val gs scope pos) (some (.Name y py)) l env = swapsWith (.ListComp key gs scope pos) (some (.Name y py)) l env from rfl).trans (sw_true hk hy hl ha)
theorem op_powB {X : Cx} : OpR X (binaryOp .Pow) (rI (fun i j => 0 ≤ j ∧ (Builtin.Int.intBits i : Int) * j ≤ 2 ^ 27) fun i j => .int (i ^ j.toNat)) := opI fun _ _ _ _ _ _ _ hc q => pow_int hc.1 hc.2 q
theorem b64 {i : Int} (h0 : 0 ≤ i) (h1 : i < 2147483647) : -(2 ^ 64) < i ∧ i < 2 ^ 64 := ⟨by omega, by omega⟩
/-- a purse: three numbers -/
def Pur (H : Hp) (p : Addr) (c : Int) : Prop := ∃ a b e : Int, H p = some (.lst [.int a, .int b, .int e]) ∧ 0 ≤ a ∧ 0 ≤ b ∧ b < 2147483647 ∧ 0 ≤ e ∧ e ≤ c
def subsR : W → List W
  | [] => [[]]
  | x :: r => subsR r ++ (subsR r).map fun t => t ++ [x]
def subs (ns : W) : List W := subsR ns.reverse
theorem mem_subsR : ∀ {r t : W}, t ∈ subsR r ↔ t.Sublist r.reverse
  | [], t => by
    rw [subsR, List.mem_singleton, List.reverse_nil, List.sublist_nil]
  | x :: r, t => by
    rw [subsR, List.mem_append, List.mem_map, List.reverse_cons, List.sublist_append_iff]
    constructor
    · rintro (h | ⟨s, hs, rfl⟩)
      · exact ⟨t, [], by simp, mem_subsR.mp h, by simp⟩
      · exact ⟨s, [x], rfl, mem_subsR.mp hs, List.Sublist.refl _⟩
    · rintro ⟨a, b, rfl, ha, hb⟩
      cases hb with
      | cons _ h =>
        left
        rw [List.sublist_nil.mp h, List.append_nil]
        exact mem_subsR.mpr ha
      | cons_cons _ h =>
        right
        exact ⟨a, mem_subsR.mpr ha, by rw [List.sublist_nil.mp h]⟩
theorem mem_subs {ns t : W} : t ∈ subs ns ↔ t.Sublist ns := by
  unfold subs
  rw [mem_subsR, List.reverse_reverse]
theorem subsR_nodup : ∀ {r : W}, r.Nodup → (subsR r).Nodup
  | [], _ => by simp [subsR]
  | x :: r, h => by
    obtain ⟨h1, h2⟩ := List.nodup_cons.mp h
    have ih := subsR_nodup h2
    rw [subsR]
    refine List.nodup_append.mpr ⟨ih, ?_, fun a ha b hb e => ?_⟩
    · exact List.Pairwise.map _ (fun a b (hab : a ≠ b) (e : a ++ [x] = b ++ [x]) => hab (List.append_cancel_right e)) ih
    · subst e
      obtain ⟨s, hs, rfl⟩ := List.mem_map.mp hb
      have z := (mem_subsR.mp ha).subset (List.mem_append_right s (List.mem_singleton.mpr rfl))
      exact h1 (List.mem_reverse.mp z)
theorem subs_nodup {ns : W} (h : ns.Nodup) : (subs ns).Nodup := subsR_nodup (List.pairwise_reverse.mpr (h.imp fun hne e => hne e.symm))
theorem subsR_len : ∀ r : W, (subsR r).length = 2 ^ r.length
  | [] => rfl
  | x :: r => by
    rw [subsR, List.length_append, List.length_map, subsR_len r, List.length_cons, Nat.pow_succ]
    omega
theorem subs_len (ns : W) : (subs ns).length = 2 ^ ns.length := by
  unfold subs
  rw [subsR_len, List.length_reverse]
theorem subs_snoc (ns : W) (x : Str) : subs (ns ++ [x]) = subs ns ++ (subs ns).map fun t => t ++ [x] := by
  unfold subs
  rw [List.reverse_append, List.reverse_singleton]
  rfl
theorem sub_mem {a b : W} (h : sub a b = true) : ∀ x ∈ a, x ∈ b := fun x hx => by
  unfold sub at h
  exact of_decide_eq_true (List.all_eq_true.mp h x hx)
theorem sub_of {a b : W} (h : ∀ x ∈ a, x ∈ b) : sub a b = true := by
  unfold sub
  exact List.all_eq_true.mpr fun x hx => decide_eq_true (h x hx)
/-- the parts of a world are the worlds within it -/
theorem parts_iff {ns t : W} (h : IsW ns) : t ∈ subs ns ↔ IsW t ∧ sub t ns = true := by
  rw [mem_subs]
  constructor
  · intro s
    exact ⟨⟨fun x hx => h.names x (s.subset hx), h.up.sublist s, Nat.le_trans s.length_le h.few⟩, sub_of fun x hx => s.subset hx⟩
  · rintro ⟨hw, hs⟩
    have e : ns.filter (fun x => decide (x ∈ t)) = t := upX_one (h.up.sublist List.filter_sublist) hw.up fun a => by
      rw [List.mem_filter, decide_eq_true_iff]
      exact ⟨fun z => z.2, fun z => ⟨sub_mem hs a z, z⟩⟩
    rw [← e]
    exact List.filter_sublist
/-- the list of worlds at l -/
def WL (K : PySem.W.Frag) (H : Hp) (l : Addr) (S : List W) : Prop := ∃ ys, H l = some (.lst ys) ∧ DpAll K H ys (S.map wd)
theorem WL.same {K : PySem.W.Frag} {H H' : Hp} {l : Addr} {R : List W} (h : WL K H l R) (e : Same H H') : WL K H' l R := by
  obtain ⟨xs, h1, h2⟩ := h
  exact ⟨xs, e _ _ h1, (Stay.same e).dpAll _ _ (okDs_wd R) h2⟩
theorem all_wd : ∀ {ds : List PyData}, (∀ d ∈ ds, ∃ p, d = wd p) → ∃ R : List W, ds = R.map wd
  | [], _ => ⟨[], rfl⟩
  | d :: ds, h => by
    obtain ⟨p, rfl⟩ := h d List.mem_cons_self
    obtain ⟨R, rfl⟩ := all_wd fun e he => h e (List.mem_cons_of_mem _ he)
    exact ⟨p :: R, rfl⟩
theorem perm_of_map {α β : Type} {f : α → β} (inj : ∀ a b, f a = f b → a = b) : ∀ {l m : List α}, (l.map f).Perm (m.map f) → l.Perm m := by
  intro l m h
  classical
  refine List.perm_iff_count.mpr fun a => ?_
  have z := List.perm_iff_count.mp h (f a)
  have c : ∀ k : List α, List.count (f a) (k.map f) = List.count a k := fun k => by
    induction k with
    | nil => rfl
    | cons x k ih =>
      rw [List.map_cons, List.count_cons, List.count_cons, ih]
      by_cases e : x = a
      · subst e
        simp
      · have e' : f x ≠ f a := fun z => e (inj _ _ z)
        simp [e, e']
  rw [c, c] at z
  exact z
theorem shaped_strs {ns : W} (h : ∀ x ∈ ns, nameB x = true) : SeqAt.shaped (.list (ns.map .str)) = true := by
  unfold SeqAt.shaped
  rw [PyData.canLay0, lay_strs h, PyData.depth, depth_str]
  rfl
theorem first_map {α β γ : Type} {f : β → Option γ} {g : α → β} : ∀ {l : List α}, (l.map g).findSome? f = l.findSome? fun a => f (g a)
  | [] => rfl
  | a :: l => by
    rw [List.map_cons, List.findSome?_cons, List.findSome?_cons, first_map (l := l)]
theorem first_filter {α γ : Type} {f : α → Option γ} {p : α → Bool} : ∀ {l : List α}, (l.filter p).findSome? f = l.findSome? fun a => if p a = true then f a else none
  | [] => rfl
  | a :: l => by
    rw [List.findSome?_cons, ← first_filter (l := l)]
    by_cases h : p a = true
    · rw [List.filter_cons_of_pos h, List.findSome?_cons, if_pos h]
    · rw [List.filter_cons_of_neg h, if_neg h]
theorem first_congr {α γ : Type} {f g : α → Option γ} {l : List α} (h : ∀ a ∈ l, f a = g a) : l.findSome? f = l.findSome? g := by
  induction l with
  | nil => rfl
  | cons a l ih =>
    rw [List.findSome?_cons, List.findSome?_cons, h a List.mem_cons_self, ih fun b hb => h b (List.mem_cons_of_mem _ hb)]
theorem sub_self (t : W) : sub t t = true := sub_of fun _ h => h
theorem sub_trans {a b c : W} (h : sub a b = true) (h2 : sub b c = true) : sub a c = true := sub_of fun x hx => sub_mem h2 x (sub_mem h x hx)
theorem room65 {k : Nat} {A : Around} (hr : Room k A) : A.units + 65 < cLine := by
  have := hr.un
  omega
theorem len_le {α : Type} [DecidableEq α] : ∀ {l m : List α}, l.Nodup → (∀ z ∈ l, z ∈ m) → l.length ≤ m.length
  | [], _, _, _ => Nat.zero_le _
  | x :: l, m, hn, hs => by
    obtain ⟨h1, h2⟩ := List.nodup_cons.mp hn
    have hx : x ∈ m := hs x List.mem_cons_self
    have ih := len_le (l := l) (m := m.erase x) h2 fun y hy => (List.mem_erase_of_ne (show y ≠ x from fun e => h1 (by rw [← e]; exact hy))).2 (hs y (List.mem_cons_of_mem _ hy))
    rw [List.length_erase_of_mem hx] at ih
    have := List.length_pos_of_mem hx
    rw [List.length_cons]
    omega
theorem prod_len {α β : Type} (m : List β) : ∀ l : List α, (l.flatMap fun a => m.map fun b => (a, b)).length = l.length * m.length
  | [] => by simp
  | a :: l => by
    rw [List.flatMap_cons, List.length_append, prod_len m l, List.length_map, List.length_cons, Nat.succ_mul]
    omega
theorem prod_mem {α β : Type} {l : List α} {m : List β} {a : α} {b : β} (ha : a ∈ l) (hb : b ∈ m) : (a, b) ∈ l.flatMap fun a => m.map fun b => (a, b) :=
  List.mem_flatMap.mpr ⟨a, ha, List.mem_map.mpr ⟨b, hb, rfl⟩⟩
def meet (ns ms : W) : W := ns.filter fun z => decide (z ∈ ms)
theorem isW_meet {a b : W} (h : IsW a) : IsW (meet a b) := ⟨fun x hx => h.names x (List.mem_filter.mp hx).1, h.up.sublist List.filter_sublist, Nat.le_trans (List.length_filter_le _ _) h.few⟩
theorem nodup_snoc {α : Type} {L : List α} {p : α} (n : L.Nodup) (h : p ∉ L) : (L ++ [p]).Nodup := List.nodup_append.mpr ⟨n, by simp, fun a ha b hb e => by
  rw [List.mem_singleton] at hb
  subst hb
  exact h (e ▸ ha)⟩
def Bar (p : Addr) (H H' : Hp) : Prop := ∀ b u, b ≠ p → H b = some u → H' b = some u
theorem Bar.same {p : Addr} {H H' : Hp} (h : Same H H') : Bar p H H' := fun b u _ e => h b u e
theorem Bar.trans {p : Addr} {H H1 H2 : Hp} (a : Bar p H H1) (b : Bar p H1 H2) : Bar p H H2 := fun c u n e => b c u n (a c u n e)
theorem Bar.draw {p : Addr} {H : Hp} {o : HO} : Bar p H (upd H p o) := fun b u n e => by
  rw [upd_ne n]
  exact e
theorem Bar.put {p l : Addr} {H H' : Hp} (h : Bar p H H') (n : H l = none) {o : HO} : Bar p H (upd H' l o) := fun b u nb e => by
  rw [upd_ne (ne_of_none e n)]
  exact h b u nb e
theorem Pur.mut {H : Hp} {p : Addr} {c : Int} (h : Pur H p c) : Mut (H p) := by
  obtain ⟨a, b, e, h, _⟩ := h
  rw [h]
  exact True.intro
theorem Pur.some {H : Hp} {p : Addr} {c : Int} (h : Pur H p c) {q : Addr} (n : H q = none) : q ≠ p := fun e => by
  obtain ⟨a, b, e', h, _⟩ := h
  rw [e, h] at n
  cases n
theorem Pur.same {H H' : Hp} {p : Addr} {c : Int} (h : Pur H p c) (e : Same H H') : Pur H' p c := by
  obtain ⟨a, b, e', h, g⟩ := h
  exact ⟨a, b, e', e _ _ h, g⟩
theorem Pur.put {H : Hp} {p l : Addr} {c : Int} (h : Pur H p c) (n : l ≠ p) {o : HO} : Pur (upd H l o) p c := by
  obtain ⟨a, b, e', h, g⟩ := h
  refine ⟨a, b, e', ?_, g⟩
  rw [upd_ne n.symm]
  exact h
theorem Pur.le {H : Hp} {p : Addr} {c d : Int} (h : Pur H p c) (l : c ≤ d) : Pur H p d := by
  obtain ⟨a, b, e', h, g1, g2, g3, g4, g5⟩ := h
  exact ⟨a, b, e', h, g1, g2, g3, g4, Int.le_trans g5 l⟩
theorem Bar.stay {p : Addr} {H H' : Hp} (h : Bar p H H') (m : Mut (H p)) : Stay H H' := fun b xs r => by
  have ne : b ≠ p := fun z => by
    subst z
    rcases r with r | ⟨u, r⟩
    · rw [r] at m; exact m
    · rw [r] at m; exact m
  rcases r with r | ⟨o, r⟩
  · exact .inl (h _ _ ne r)
  · exact .inr ⟨o, h _ _ ne r⟩
theorem idx_new' {α : Type} {ds : List α} (hn : ds.Nodup) {i : Nat} {d : α} (h : ds[i]? = some d) : d ∉ ds.take i := fun hm => by
  have z := take_snoc h
  have nd : (ds.take (i + 1)).Nodup := List.Nodup.sublist (List.take_sublist _ _) hn
  rw [z] at nd
  obtain ⟨_, _, h3⟩ := List.nodup_append.mp nd
  exact h3 d hm d (List.mem_singleton.mpr rfl) rfl
theorem evalArgs_kw0 {M : Model} {A : Around} {E : Value → Shared → Prop} {s : Shared} {f : Value} {kwl : List (Option Str × Sem Value)} {Q : Args → Shared → Prop} (hall : (kwl.all fun x => x.1.isSome) = true)
    (h : wpAny M A (evalAll (kwl.map fun x => x.2)) (fun ks s₂ => Q { pos := [], kw := (kwl.filterMap fun x => x.1).zip ks } s₂) E s) : wpAny M A (evalArgs f true [] kwl) Q E s := by
  unfold evalArgs
  refine wpAny_bind (Calls.spliced_nil ?_)
  refine wpAny_bind (wpAny_pure ?_)
  refine wpAny_holding ?_
  rw [if_pos hall]
  refine wpAny_bind (wpAny_mono h (fun ks s2 q => ?_) fun _ _ e => e)
  exact wpAny_bind (wpAny_pure (wpAny_pure q))
theorem pe_callK0 {X : Cx} {CX : CXT} {k : Nat} {f : Addr} {fd : FuncData} {ps ks : List Str} {sp : Sp} {E : XK} {x : Str} {p pos : Pos} {kws : List Keyword} {tk : TA} {g : List Value → List Value → List Value} {gV : List V → List V → List V}
    (F : FnOk X.prog X.w X.K X.mg X.base CX k f fd ps sp) (hr : Room k X.A) (hg : Gl X x) (hm : X.mg x = some (.ref f)) (hk : PySem.W.keepIn X.K (.ref f) = true) (hb : KBn X.K fd ps 0 ks g gV) (hx : Passes CX X E) (hkw : PK X kws tk)
    (hall : ((backToKw pos (keywordEach kws X.env)).all fun x => x.1.isSome) = true) (hks : (backToKw pos (keywordEach kws X.env)).filterMap (fun x => x.1) = ks) (hdb : (x == ("__debug__" : Str)) = false)
    (hpl : ((([] : List (Bool × Sem Value)).any fun x => x.1) || (backToKw pos (keywordEach kws X.env)).any fun x => x.1.isNone) = false) (hst : backTo pos (starEach [] X.env) = []) :
    PE X (.Call (.Name x p) [] kws pos) (fun σ H Q => tk σ H fun zs H1 => zs.length = ks.length ∧ sp (gV [] zs) H1 Q E) := by
  refine ⟨fun pins s σ H Q I h => wpAny_Call_Name_kw (ld_glob I hg hm ?_ hdb)⟩
  rw [hst]
  refine PySem.W.callWith_of hpl (PySem.W.keeps_K hk) (evalArgs_kw0 hall (thn (hkw.run pos pins s σ H (fun zs H1 => zs.length = ks.length ∧ sp (gV [] zs) H1 Q E) I h) fun ws s2 ⟨zs, H2, I2, rz, l2, q2⟩ => ⟨Inv.kIn I2, ?_⟩))
  rw [hks]
  exact run_fnN F hr hb hx I2 .nil rz rfl l2 q2
def tMid (t u : TS) : TS := fun D σ H => ∃ I : L2.St → Hp → Prop, t { nx := I, rt := D.rt, bk := D.bk, ct := D.ct } σ H ∧ ∀ σ' H', I σ' H' → u D σ' H'
/-- the first statement up to a mark of one's own, then the rest from it -/
theorem pss_mid {X : Cx} {st : Stmt} {rest : List Stmt} {t u : TS} (h1 : PS X st t) (h2 : PSs X rest u) : PSs X (st :: rest) (tMid t u) := by
  refine ⟨fun pins s σ H D I ⟨J, a, b⟩ => ?_⟩
  refine wpAny_execs_cons (thn (h1.run pins s σ H _ I a) fun f s1 q => ?_)
  cases f with
  | next =>
    obtain ⟨σ', H', I', q⟩ := q
    exact h2.run pins s1 σ' H' D I' (b σ' H' q)
  | brk => exact q
  | cont => exact q
  | ret v => exact q
/-- a def with defaults, called by names -/
theorem kbn_def {K : PySem.W.Frag} {x qual : Str} {params : Arguments} {body : List Stmt} {scope : Scope} {dvs : List V} {kws : List (Str × V)} {f : Addr} {fd : FuncData} {ps : List Str} (F : FunD K x qual params body scope dvs kws f fd) (hd : dvs ≠ []) (n : Nat) (ks : List Str) (g : List Value → List Value → List Value → List Value) (gV : List V → List V → List V)
    (h : ∀ (T : Addr) (kV doc pm : Value) (an : Option Addr) (cdv ct : Value) (us its ws : List Value), us.length = n → its.length = dvs.length → ws.length = ks.length → ∃ k, bindArgs (PySem.W.fnOf x qual params body scope (.ref T) kV doc pm an cdv ct) { pos := us, kw := ks.zip ws } = seqItems? (.ref T) >>= k ∧ k (some its.toArray) = pure (ps.zip (g us its ws)))
    (rel : ∀ {vs : List V} {us its : List Value} {zs : List V} {ws : List Value}, Vals vs us → Vals dvs its → Vals zs ws → Vals (gV vs zs) (g us its ws)) : ∃ its, Vals dvs its ∧ KBn K fd ps n ks (fun us ws => g us its ws) gV := by
  obtain ⟨oc, od, dV, kV, doc, pm, an, cdv, ct, osl, rfl, lk, hcd, hD, hK⟩ := F.ex
  rcases hD with ⟨e, _⟩ | ⟨_, T, o, its, m, rfl, lT, oT, rT⟩
  · exact absurd e hd
  · refine ⟨its, rT, ⟨fun s us ws X l1 l2 => ?_, fun a b => rel a rT b⟩⟩
    intro M A E Q q
    obtain ⟨k, e1, e2⟩ := h T kV doc pm an cdv ct us its ws l1 rT.length.symm l2
    rw [e1]
    refine wpAny_bind (wpAny_seqItems (X T o lT) oT ?_)
    rw [e2]
    exact wpAny_pure q
theorem shaped_of {d : PyData} (h : d.canLay0 = true) (n : d.depth ≤ 64) : SeqAt.shaped d = true := by
  unfold SeqAt.shaped
  rw [h, decide_eq_true n]
  rfl
theorem eqv_self {d : PyData} (h : SeqAt.shaped d = true) : PyData.eqv d d = true := by
  unfold SeqAt.shaped at h
  rw [Bool.and_eq_true] at h
  exact SeqAt.eqv_refl d h.1
theorem dpAll_drop {K : PySem.W.Frag} {H : Hp} : ∀ {xs : List V} {ds : List PyData} (n : Nat), DpAll K H xs ds → DpAll K H (xs.drop n) (ds.drop n)
  | _, _, 0, h => h
  | _, _, _ + 1, .nil => .nil
  | _, _, n + 1, .cons _ t => dpAll_drop n t
theorem dpAll_take {K : PySem.W.Frag} {H : Hp} : ∀ {xs : List V} {ds : List PyData} (n : Nat), DpAll K H xs ds → DpAll K H (xs.take n) (ds.take n)
  | _, _, 0, _ => by
    rw [List.take_zero, List.take_zero]
    exact .nil
  | _, _, _ + 1, .nil => .nil
  | _, _, n + 1, .cons h t => .cons h (dpAll_take n t)
theorem dpAll_rev {K : PySem.W.Frag} {H : Hp} : ∀ {xs : List V} {ds : List PyData}, DpAll K H xs ds → DpAll K H xs.reverse ds.reverse
  | _, _, .nil => .nil
  | _, _, .cons h t => by
    rw [List.reverse_cons, List.reverse_cons]
    exact dpAll_app (dpAll_rev t) (.cons h .nil)
theorem dpAll_erase {K : PySem.W.Frag} {H : Hp} : ∀ {xs : List V} {ds : List PyData} (n : Nat), DpAll K H xs ds → DpAll K H (xs.eraseIdx n) (ds.eraseIdx n)
  | _, _, 0, .cons _ t => t
  | _, _, _ + 1, .cons h t => .cons h (dpAll_erase _ t)
  | _, _, _, .nil => .nil
theorem map_erase {α β : Type} (f : α → β) : ∀ (l : List α) (n : Nat), (l.map f).eraseIdx n = (l.eraseIdx n).map f
  | [], _ => rfl
  | _ :: _, 0 => rfl
  | a :: l, n + 1 => congrArg (f a :: ·) (map_erase f l n)
theorem none_bar {p l : Addr} {H H' : Hp} {c : Int} (b : Bar p H H') (pu : Pur H' p c) (n : H' l = none) : H l = none := by
  have ne := pu.some n
  cases e : H l with
  | none => rfl
  | some u =>
    rw [b l u ne e] at n
    cases n
theorem vals_app : ∀ {xs ys : List V} {us ws : List Value}, Vals xs us → Vals ys ws → Vals (xs ++ ys) (us ++ ws)
  | _, _, _, _, .nil, h => h
  | _, _, _, _, .cons r t, h => .cons r (vals_app t h)
theorem fun_of {K : PySem.W.Frag} {x qual : Str} {st : Stmt} {f : Addr} {fd : FuncData} (F : FunD K x qual (defArgs st) (defBody st) (defScope st) [] [] f fd) : Fun K x qual st f fd := by
  obtain ⟨oc, od, dV, kV, doc, pm, an, cdv, ct, osl, e, lk, hcd, hD, hK⟩ := F.ex
  rcases hD with ⟨_, rfl⟩ | ⟨h, _⟩
  · exact ⟨⟨oc, od, kV, doc, pm, an, cdv, ct, osl, e, lk, hcd⟩, F.kp⟩
  · exact absurd rfl h
end Rw
namespace Rw
open PySem PySem.Spec PyProof.Rows L2
/-! ### enumerate of a tuple -/
theorem meets_enumT (l : Addr) (items : Array Value) : Meets (Builtin.«enumerate.__new__» { pos := [Value.type "enumerate", Value.ref l] }) fun _ R s =>
    s.heap.IsTuple l items ∧ R (Except.ok (Flow.ret (Value.ref (s.heap.push { cls := Value.type "tuple_iterator", data := Data.fields #[Value.ref l, Value.int 0 0] }).objs.size)))
        { heap := (s.heap.push { cls := Value.type "tuple_iterator", data := Data.fields #[Value.ref l, Value.int 0 0] }).push
              { cls := Value.type "enumerate", data := Data.fields #[Value.none, Value.bool false, Value.ref s.heap.objs.size, rawInt 0, Value.none, Value.none] },
          gens := s.gens, drawn := s.drawn, toks := s.toks, os := s.os } := by
  refine Meets.of_wp fun prog w A R s h => ?_
  obtain ⟨hl, h⟩ := h
  have hsub := sub_enumerate
  unfold Builtin.«enumerate.__new__»
  refine wpAny_bind ?_
  unfold Builtin.SmallTypes.newClass
  refine wpAny_bind (wpAny_pure (wpAny_ite_false rfl (wpAny_bind (wpAny_of_eq hsub (wpAny_ite_false rfl (wpAny_pure (wpAny_ite_true rfl (wpAny_bind ?_))))))))
  unfold Builtin.SmallTypes.calledThroughType
  refine wpAny_bind (wpAny_stack_any fun st => wpAny_pure ?_)
  have fin : wpAny (model prog w) A.in1 (do
      let it ← pyIter (.ref l)
      let r ← Builtin.SmallTypes.newRecord (.type "enumerate") (Builtin.SmallTypes.ownedTupleFields ++ [it, rawInt 0, Value.none, Value.none])
      ret r) (fun fin s' => ∃ v, fin = Fin.done (Flow.ret v) ∧ R (Except.ok (Flow.ret v)) s') (fun e s' => R (Except.error e) s') s := by
    refine wpAny_bind (wpAny_pyIter_tuple hl ?_)
    refine wpAny_bind ?_
    unfold Builtin.SmallTypes.newRecord
    refine wpAny_bind (wpAny_alloc ?_)
    refine wpAny_pure ?_
    exact wpAny_pure ⟨_, rfl, h⟩
  split
  · generalize (_ == Value.type "enumerate") = b
    cases b
    · refine wpAny_ite_false rfl (wpAny_bind (wpAny_of_eq (a := (Value.ref l, none)) rfl fin))
    · refine wpAny_ite_true rfl (wpAny_bind (wpAny_of_eq (a := (Value.ref l, none)) rfl fin))
  · refine wpAny_ite_false rfl (wpAny_bind (wpAny_of_eq (a := (Value.ref l, none)) rfl fin))
theorem call_enumT {prog : Program} {w : World} {A : Around} {E : Value → Shared → Prop} {s : Shared} {l : Addr} {items : Array Value} {Q : Value → Shared → Prop} (hT : s.heap.IsTuple l items)
    (h : ∀ h' : Heap, IsEnum h' (s.heap.objs.size + 1) s.heap.objs.size 0 Value.none → h'.IsTupleIter s.heap.objs.size l 0 → h'.objs.size = s.heap.objs.size + 2 → (∀ (b : Addr) (o : Obj), s.heap.get? b = some o → h'.get? b = some o) →
      Q (.ref (s.heap.objs.size + 1)) { heap := h', gens := s.gens, drawn := s.drawn, toks := s.toks, os := s.os }) : wpAny (model prog w) A (call (.type "enumerate") [.ref l]) Q E s := by
  refine callType_new F.called_enumerate (by decide) (F.typeCall_enumerate_1 (.ref l)) (F.newCall_enumerate_1 (.ref l)) (fun obj => F.args_object_init_2 obj (.ref l)) F.entry_enumerate_new (meets_enumT l items) ⟨hT, ?_⟩
  have hz := Heap.size_push s.heap { cls := .type "tuple_iterator", data := .fields #[.ref l, .int 0 0] }
  show _ ∧ _
  rw [hz]
  have he := Heap.get?_push_size (s.heap.push { cls := .type "tuple_iterator", data := .fields #[.ref l, .int 0 0] }) (o := { cls := .type "enumerate", data := .fields #[.none, .bool false, .ref s.heap.objs.size, rawInt 0, .none, .none] }) rfl
  rw [hz] at he
  refine ⟨⟨_, he, rfl⟩, h _ he ⟨_, Heap.get?_push_of_some _ (Heap.get?_push_size s.heap rfl), rfl, rfl⟩ ?_ fun b o e => Heap.get?_push_of_some _ (Heap.get?_push_of_some _ e)⟩
  rw [Heap.size_push, hz]
/-- enumerate of a tuple: what it gives -/
def Ietup (K : PySem.W.Frag) (a : Addr) : It where
  go := fun i H => ∃ xs x, SqT K H a xs ∧ xs[i]? = some x
  yld := fun i H v H' => ∃ T x, v = .ref T ∧ H T = none ∧ H' = upd H T (.tup [.int (i : Int), x]) ∧ ∀ xs, SqT K H a xs → xs[i]? = some x
  stop := fun i H => ∃ xs, SqT K H a xs ∧ xs.length = i
theorem tup_enum_ne {h : Heap} {a e it : Addr} {items : Array Value} {i : Int} {old : Value} (ht : h.IsTuple a items) (he : IsEnum h e it i old) : e ≠ a := fun z => by
  obtain ⟨o, h1, h2, _⟩ := ht
  rw [← z, he] at h1
  cases h1
  exact absurd (show Value.type "enumerate" = Value.type "tuple" from h2) (by decide)
theorem tup_iter_ne {h : Heap} {a it l : Addr} {items : Array Value} {i : Nat} (ht : h.IsTuple a items) (he : h.IsTupleIter it l i) : a ≠ it := fun z => by
  obtain ⟨o, h1, h2, _⟩ := ht
  obtain ⟨o', h3, h4, _⟩ := he
  rw [z, h3] at h1
  cases h1
  rw [h4] at h2
  exact absurd h2 (by decide)
theorem turn_enumT {P : Program} {w : World} {K : PySem.W.Frag} {elts : List Expr} {kk : Nat} {tpos : Pos} (a e it : Addr) : Turn P w K (.Tuple elts kk tpos) (Ietup K a) [e, it] e (fun i h => (∃ old, IsEnum h e it (i : Int) old) ∧ h.IsTupleIter it a i ∧ e ≠ it) := by
  refine ⟨by simp, fun i h st b hb => ?_, fun i h h' st k => ?_, fun X hP hw hK hc i pins s σ H E I hf st hg => ?_, fun X hP hw hK hc i pins s σ H E I hf st hg => ?_, fun A i s Q E st h => ?_⟩
  · obtain ⟨⟨old, he⟩, ⟨o, ho, hcl, hd⟩, _⟩ := st
    rcases List.mem_cons.mp hb with z | hb
    · subst z
      exact ⟨_, he, fun v q => nomatch q⟩
    · rw [List.mem_singleton.mp hb]
      refine ⟨o, ho, fun v q => ?_⟩
      rw [hd] at q
      cases q
  · obtain ⟨⟨old, he⟩, hi, hne⟩ := st
    exact ⟨⟨old, k e (by simp) _ he⟩, hi.at fun o q => k it (by simp) o q, hne⟩
  · subst hP hw hK
    obtain ⟨⟨old, he⟩, hit, hne⟩ := st
    obtain ⟨xs, x, hq, hx⟩ := hg
    obtain ⟨its, rv, p, hz⟩ := I.tuple hq
    have ht : s.heap.IsTuple a its.toArray := p
    have ea := tup_enum_ne ht he
    have ai := tup_iter_ne ht hit
    have hl := rv.length
    have hin : i < its.toArray.size := by
      rw [List.size_toArray, ← hl]
      exact (List.getElem?_eq_some_iff.mp hx).1
    refine wpAny_pyNext_enum_itemD (Draws.tuple (A := X.A.in1) (I.ok.hd hc) it a ai its.toArray) he ⟨hit, ht⟩ hin hne (by simp [hne, ea]) fun u h' tk hu ho st' hT hsz hk => ⟨.ref s.heap.objs.size, rfl, ?_⟩
    refine wpAny_letOwnedTupleGo_enum ho fun h'' he' sb => ?_
    have hel : e < s.heap.objs.size := Heap.lt_size he
    have hil : it < s.heap.objs.size := by
      obtain ⟨o, ho, _⟩ := hit
      exact Heap.lt_size ho
    have hT2 : h''.get? s.heap.objs.size = _ := (sb.2 s.heap.objs.size (Nat.ne_of_gt hel)).trans hT
    have hu' : its[i]? = some u := by simpa using hu
    obtain ⟨x', hx', ru⟩ := vals_at rv hu'
    have exx : x' = x := Option.some.inj (hx'.symm.trans hx)
    subst exx
    have new : ObjOk X.prog X.w (upd H s.heap.objs.size (.tup [.int (i : Int), x'])) h'' s.heap.objs.size (.tup [.int (i : Int), x']) :=
      ⟨by show 2 ≤ sizeLine; decide, [.int (i : Int) tk, u], .cons ⟨tk, rfl⟩ (.cons ru .nil), ⟨_, hT2, rfl, 0, rfl⟩⟩
    have kept : ∀ (b : Addr) (o : Obj), b ∉ [e, it] → s.heap.get? b = some o → h''.get? b = some o := fun b o hb q => by
      have n1 : b ≠ e := fun z => hb (by simp [z])
      have n2 : b ≠ it := fun z => hb (by simp [z])
      exact (sb.2 b n1).trans (hk b o n1 n2 q)
    have I1 := I.turnedNew (t' := tk + 1) kept hf (Nat.le_refl _) new
    refine ⟨.ref s.heap.objs.size, _, I1, rfl, ⟨s.heap.objs.size, x', rfl, I.hok.fresh (Nat.le_refl _), rfl, fun ys hy => ?_⟩, ⟨⟨u, ?_⟩, st'.1.at fun o q => (sb.2 it hne.symm).trans q, hne⟩, fun b hb => ?_⟩
    · obtain ⟨its2, rv2, p2, _⟩ := I.tuple hy
      have ht2 : s.heap.IsTuple a its2.toArray := p2
      have ei : its2.toArray = its.toArray := by
        obtain ⟨o, a1, a2, n, a3⟩ := ht
        obtain ⟨o', b1, b2, n', b3⟩ := ht2
        rw [a1] at b1
        cases b1
        rw [a3] at b3
        cases b3
        rfl
      have ei' : its2 = its := by
        have := congrArg Array.toList ei
        simpa using this
      subst ei'
      obtain ⟨y, hy1, ry⟩ := vals_at rv2 hu'
      rw [RelV.inj ru ry]
      exact hy1
    · have e1 : ((i : Int) + 1) = ((i + 1 : Nat) : Int) := rfl
      rw [← e1]
      exact he'
    · have hb' : b < s.heap.objs.size := by
        rcases List.mem_cons.mp hb with z | hb
        · rw [z]
          exact hel
        · rw [List.mem_singleton.mp hb]
          exact hil
      rw [upd_ne (Nat.ne_of_lt hb')]
      exact (hf b hb).1
  · subst hP hw hK
    obtain ⟨⟨old, he⟩, hit, hne⟩ := st
    obtain ⟨xs, hq, hx⟩ := hg
    obtain ⟨its, rv, p, hz⟩ := I.tuple hq
    have ht : s.heap.IsTuple a its.toArray := p
    have ai := tup_iter_ne ht hit
    obtain ⟨f0, f1, f2, f3, f4, f5⟩ := hf it (by simp)
    have sz : its.toArray.size = i := by rw [List.size_toArray, ← rv.length, hx]
    refine wpAny_pyNext_enum_endD (Draws.tuple (A := X.A.in1) (I.ok.hd hc) it a ai its.toArray) he ⟨by rw [sz]; exact hit, ht⟩ fun h' eb => ⟨rfl, I.turned (fun b o hb q => eb b o hb q) f0 f1 f3 f4 f5⟩
  · obtain ⟨⟨_, he⟩, _⟩ := st
    exact wpAny_pyIter_enum he h
def iEnumT (K : PySem.W.Frag) (ta : TA) : TI := fun σ H R => ta σ H fun vs H1 => ∃ a xs, vs = [.ref a] ∧ SqT K H1 a xs ∧ R (Ietup K a) H1
theorem pi_enumT {X : Cx} {e : Expr} {ta : TA} {p pos tpos : Pos} {elts : List Expr} {kk : Nat} (hg : Gl X "enumerate") (hm : X.mg "enumerate" = none) (ha : PA X [e] ta) (hs : starEach [e] X.env = [(false, eval e X.env)] := by rfl) : PI X (.Tuple elts kk tpos) (.Call (.Name "enumerate" p) [e] [] pos) (iEnumT X.K ta) := by
  refine ⟨fun pins s σ H R I h => Call_ (ld_blt I hg hm boot_enumerate (PyProof.Rows.callWith_type1 (thn (ha.run pos pins s σ H _ I h) fun us s1 ⟨vs, H1, I1, r1, a, xs, ex, hq, q⟩ => ?_) hs rfl) (by decide) (by decide)) rfl⟩
  subst ex
  rw [Vals.ref1 r1]
  obtain ⟨its, rv, p', hz⟩ := I1.tuple hq
  refine call_enumT p' fun h' he hit hsz hk => ?_
  refine wpAny_pyIter_enum he ?_
  have I2 := I1.kept (t' := s1.toks) hk
  refine ⟨s1.heap.objs.size + 1, [s1.heap.objs.size + 1, s1.heap.objs.size], _, Ietup X.K a, H1, rfl, I2, turn_enumT a (s1.heap.objs.size + 1) s1.heap.objs.size, ⟨⟨_, he⟩, hit, Nat.succ_ne_self _⟩, fun b hb => ?_, q⟩
  rcases List.mem_cons.mp hb with z | hb
  · subst z
    exact I1.fpOk (Nat.le_succ _) (I1.hok.fresh (Nat.le_succ _))
  · rw [List.mem_singleton.mp hb]
    exact I1.fpOk (Nat.le_refl _) (I1.hok.fresh (Nat.le_refl _))
end Rw
namespace Rw
open PySem PySem.Spec PyProof.Rows L2
/-! ### walks over enumerate(tuple); instances made of starred arguments -/
theorem for_enumT {K : PySem.W.Frag} {a : Addr} {xs : List V} {g : TG} {tb : TS} {D : Ends} {σ : L2.St} {H : Hp} (Pv : Nat → L2.St → Hp → Prop) (h0 : Pv 0 σ H) (hl : ∀ i σ H, i ≤ xs.length → Pv i σ H → SqT K H a xs)
    (hs : ∀ i x σ H T, xs[i]? = some x → Pv i σ H → H T = none → g (.ref T) σ (upd H T (.tup [.int (i : Int), x])) fun σ2 H2 => tb { nx := Pv (i + 1), rt := D.rt, bk := D.nx, ct := Pv (i + 1) } σ2 H2) (hd : ∀ σ H, Pv xs.length σ H → D.nx σ H) :
    ∃ W : Nat → Nat → L2.St → Hp → Prop, (∃ m, W 0 m σ H) ∧ ∀ i m σ H, W i m σ H → ((Ietup K a).stop i H ∧ D.nx σ H) ∨ ((Ietup K a).go i H ∧ ∃ N : L2.St → Hp → Prop, (∀ σ' H', N σ' H' → ∃ m', m' < m ∧ W (i + 1) m' σ' H') ∧
      ∀ x H', (Ietup K a).yld i H x H' → g x σ H' fun σ2 H2 => tb { nx := N, rt := D.rt, bk := D.nx, ct := N } σ2 H2) := by
  refine ⟨fun i m σ H => m = xs.length - i ∧ i ≤ xs.length ∧ Pv i σ H, ⟨xs.length, by simp, Nat.zero_le _, h0⟩, ?_⟩
  rintro i m σ H ⟨rfl, hi, p⟩
  have hS := hl i σ H hi p
  by_cases hlt : i < xs.length
  · refine .inr ⟨⟨xs, xs[i], hS, List.getElem?_eq_getElem hlt⟩, Pv (i + 1), fun σ' H' p' => ⟨xs.length - (i + 1), by omega, rfl, hlt, p'⟩, fun y H' yy => ?_⟩
    obtain ⟨T, x, rfl, hT, rfl, hx⟩ := yy
    exact hs i x σ H T (hx xs hS) p hT
  · have e : i = xs.length := by omega
    subst e
    exact .inl ⟨⟨xs, hS, rfl⟩, hd σ H p⟩
def tMakeS (K : PySem.W.Frag) (C : Addr) (sp : Sp) (E : XK) (te : TE) : TE := fun σ H Q => te σ H fun y H1 => ∃ a xs, y = V.ref a ∧ (SqT K H1 a xs ∨ SqL K H1 a xs) ∧ ∀ x dx, H1 x = none → H1 dx = none → dx ≠ x → sp (V.ref x :: xs) (upd (upd H1 dx (.own x)) x (.ins C dx [])) (fun v H2 => v = .non ∧ Q (.ref x) H2) E
/-- C(*e), C a class of the module -/
theorem pe_makeS {X : Cx} {CX : CXT} {k : Nat} {f C : Addr} {sp : Sp} {E : XK} {x : Str} {e : Expr} {te : TE} {p sp_ pos : Pos} (M : Mk X.K C f) (F : FnR X.prog X.w X.K X.mg X.base CX k f sp) (hr : Room (k + 1) X.A) (hg : Gl X x) (hm : X.mg x = some (.ref C)) (hx : Passes CX X E) (he : PE X e te)
    (hd : (x == ("__debug__" : Str)) = false := by rfl) (hst : starEach [e.Starred sp_] X.env = [(true, eval e X.env)] := by rfl) : PE X (.Call (.Name x p) [.Starred e sp_] [] pos) (tMakeS X.K C sp E te) :=
  ⟨fun pins s σ H Q I h => wpAny_Call_Name_kw (ld_glob I hg hm (PySem.W.callWith_S I.ok.mod.kin M.kp (thn (he.run pins s σ H _ I h) fun v s1 ⟨y, H1, I1, ry, a, xs, ey, hxs, q⟩ => by
    subst ey
    obtain rfl : v = Value.ref a := ry
    exact StX.star_any I1 hxs fun us s2 I2 rv => ⟨Inv.kIn I2, StX.run_makeR M F hr hx I2 rv q⟩) hst) hd)⟩
/-- cls(*e), cls a local name that holds the class -/
theorem pe_makeSL {X : Cx} {CX : CXT} {k i : Nat} {f C : Addr} {sp : Sp} {E : XK} {x : Str} {e : Expr} {te : TE} {p sp_ pos : Pos} (M : Mk X.K C f) (F : FnR X.prog X.w X.K X.mg X.base CX k f sp) (hr : Room (k + 1) X.A) (hN : X.N[i]? = some x) (hv : Vis X.env.scope x) (hx : Passes CX X E) (he : PE X e te)
    (hd : (x == ("__debug__" : Str)) = false := by rfl) (hcd : (x == ("__classdict__" : Str)) = false := by rfl) (hst : starEach [e.Starred sp_] X.env = [(true, eval e X.env)] := by rfl) :
    PE X (.Call (.Name x p) [.Starred e sp_] [] pos) (fun σ H Q => σ[i]? = some (some (.ref C)) ∧ tMakeS X.K C sp E te σ H Q) := by
  refine ⟨fun pins s σ H Q I ⟨hs, h⟩ => wpAny_Call_Name_kw (thn ((pe_var hN hv hd hcd).run pins s σ H (fun v H1 => v = V.ref C ∧ H1 = H) I ⟨.ref C, hs, rfl, rfl⟩) fun u s1 ⟨v, H0, I1, r1, ev, eH⟩ => ?_)⟩
  subst ev eH
  obtain rfl : u = Value.ref C := r1
  exact PySem.W.callWith_S I1.ok.mod.kin M.kp (thn (he.run pins s1 σ _ _ I1 h) fun v s1 ⟨y, H1, I1, ry, a, xs, ey, hxs, q⟩ => by
    subst ey
    obtain rfl : v = Value.ref a := ry
    exact StX.star_any I1 hxs fun us s2 I2 rv => ⟨Inv.kIn I2, StX.run_makeR M F hr hx I2 rv q⟩) hst
theorem fnr_of {P : Program} {w : World} {K : PySem.W.Frag} {mg : Str → Option Value} {base : Heap} {CX : CXT} {k : Nat} {f : Addr} {fd : FuncData} {ps : List Str} {sp : Sp} (F : FnOk P w K mg base CX k f fd ps sp) (b : Binds K fd ps []) : FnR P w K mg base CX k f sp := fun A outer s H us vs Q E hr e0 r h => by
  have hl := F.len vs H Q E h
  have ul : us.length = ps.length := by rw [← r.length, hl]
  have z := b s us (PySem.W.Frag.In.keeps e0.mod.kin fun b o e => (e0.bs b o e).1) (by rw [List.append_nil]; exact ul)
  rw [List.append_nil] at z
  exact F.run A outer s H _ us vs Q E hr e0 z r h
end Rw
namespace Rw
open PySem PySem.Spec PyProof.Rows L2
/-! ### rules: heads, denied, needs, bars -/
abbrev Rl := W × W × W × W
def parts (r : Rl) : List W := [r.1, r.2.1, r.2.2.1, r.2.2.2]
def rd (r : Rl) : PyData := .tuple ((parts r).map wd)
structure IsR (r : Rl) : Prop where
  h : IsW r.1
  d : IsW r.2.1
  n : IsW r.2.2.1
  b : IsW r.2.2.2
theorem IsR.all {r : Rl} (h : IsR r) : ∀ t ∈ parts r, IsW t := fun t ht => by
  unfold parts at ht
  simp only [List.mem_cons, List.mem_nil_iff, or_false] at ht
  rcases ht with e | e | e | e <;> subst e
  · exact h.h
  · exact h.d
  · exact h.n
  · exact h.b
theorem wds_inj : ∀ {a b : List W}, a.map wd = b.map wd → a = b
  | [], [], _ => rfl
  | [], _ :: _, h => by simp at h
  | _ :: _, [], h => by simp at h
  | x :: a, y :: b, h => by
    simp only [List.map_cons, List.cons.injEq] at h
    rw [wd_inj h.1, wds_inj h.2]
theorem rd_inj {p q : Rl} (h : rd p = rd q) : p = q := by
  unfold rd at h
  injection h with h
  have z := wds_inj h
  unfold parts at z
  simp only [List.cons.injEq, and_true] at z
  obtain ⟨h1, h2, h3, h4⟩ := z
  exact Prod.ext h1 (Prod.ext h2 (Prod.ext h3 h4))
theorem ok_rd (r : Rl) : okD (rd r) = true := by
  unfold rd
  rw [okD]
  exact okDs_wd _
theorem depthAll_wd : ∀ L : List W, PyData.depthAll (L.map wd) ≤ 1
  | [] => by simp [PyData.depthAll]
  | x :: L => by
    have := depthAll_wd L
    rw [List.map_cons, PyData.depthAll, depth_wd]
    omega
theorem depth_rd (r : Rl) : (rd r).depth ≤ 2 := by
  have := depthAll_wd (parts r)
  unfold rd
  rw [PyData.depth]
  omega
theorem good_rd (r : Rl) : Good (rd r) := ⟨ok_rd r, Nat.le_trans (depth_rd r) (by decide), ⟨_, rfl⟩⟩
theorem lay_wds : ∀ {L : List W}, (∀ t ∈ L, IsW t) → PyData.canLayAll0 (L.map wd) = true
  | [], _ => by simp [PyData.canLayAll0]
  | t :: L, h => by
    rw [List.map_cons, PyData.canLayAll0, lay_wds fun y hy => h y (List.mem_cons_of_mem _ hy), lay_wd (h t List.mem_cons_self).names]
    rfl
theorem lay_rd {r : Rl} (h : IsR r) : (rd r).canLay0 = true := by
  unfold rd
  rw [PyData.canLay0]
  exact lay_wds h.all
theorem shaped_rd {r : Rl} (h : IsR r) : SeqAt.shaped (rd r) = true := shaped_of (lay_rd h) (Nat.le_trans (depth_rd r) (by decide))
theorem alike_wds : ∀ a b : List W, PySem.W.alikeAll (a.map wd) (b.map wd) = true
  | [], _ => by simp [PySem.W.alikeAll]
  | _ :: _, [] => by simp [PySem.W.alikeAll]
  | x :: a, y :: b => by
    rw [List.map_cons, List.map_cons, PySem.W.alikeAll, alike_wds a b, alike_wd]
    rfl
theorem alike_rd (p q : Rl) : PySem.W.alike (rd p) (rd q) = true := by
  unfold rd
  rw [PySem.W.alike]
  exact alike_wds _ _
theorem eqv_wds : ∀ a b : List W, PyData.eqvAll (a.map wd) (b.map wd) = decide (a = b)
  | [], [] => by simp [PyData.eqvAll]
  | [], _ :: _ => by simp [PyData.eqvAll]
  | _ :: _, [] => by simp [PyData.eqvAll]
  | x :: a, y :: b => by
    rw [List.map_cons, List.map_cons, PyData.eqvAll, eqv_wds a b, eqv_wd]
    by_cases h : x = y
    · subst h
      by_cases h2 : a = b <;> simp [h2]
    · simp [h]
theorem eqv_rd (p q : Rl) : PyData.eqv (rd p) (rd q) = decide (p = q) := by
  have e : (p = q) ↔ (parts p = parts q) := ⟨fun h => by rw [h], fun h => rd_inj (by unfold rd; rw [h])⟩
  unfold rd
  rw [PyData.eqv, eqv_wds]
  by_cases h : parts p = parts q
  · rw [decide_eq_true h, decide_eq_true (e.mpr h)]
  · rw [decide_eq_false h, decide_eq_false fun z => h (e.mp z)]
theorem rules_one {R R' : List Rl} (r1 : Rising (R.map rd)) (r2 : Rising (R'.map rd)) (n1 : R.Nodup) (n2 : R'.Nodup) (h : ∀ p, p ∈ R ↔ p ∈ R') : R = R' :=
  rising_one alike_rd (fun p q e => by rw [eqv_rd] at e; exact of_decide_eq_true e) r1 r2 n1 n2 h
theorem okDs_rd (R : List Rl) : okDs (R.map rd) = true := okDs_all fun d hd => by
  obtain ⟨p, _, rfl⟩ := List.mem_map.mp hd
  exact ok_rd p
theorem all_rd : ∀ {ds : List PyData}, (∀ d ∈ ds, ∃ p, d = rd p) → ∃ R : List Rl, ds = R.map rd
  | [], _ => ⟨[], rfl⟩
  | d :: ds, h => by
    obtain ⟨p, rfl⟩ := h d List.mem_cons_self
    obtain ⟨R, rfl⟩ := all_rd fun e he => h e (List.mem_cons_of_mem _ he)
    exact ⟨p :: R, rfl⟩
theorem rd_mem {R : List Rl} {p : Rl} : rd p ∈ R.map rd ↔ p ∈ R :=
  ⟨fun h => by obtain ⟨q, hq, e⟩ := List.mem_map.mp h; rw [← rd_inj e]; exact hq, fun h => List.mem_map.mpr ⟨p, h, rfl⟩⟩
theorem Stay.rd {K : PySem.W.Frag} {H H' : Hp} {x : V} {r : Rl} (e : Stay H H') (h : Dp K H x (Rw.rd r)) : Dp K H' x (Rw.rd r) := e.dp _ _ (ok_rd r) h
theorem of_rd {K : PySem.W.Frag} {H : Hp} {x : V} {r : Rl} (h : Dp K H x (rd r)) : ∃ a v1 v2 v3 v4, x = .ref a ∧ SqT K H a [v1, v2, v3, v4] ∧ Dp K H v1 (wd r.1) ∧ Dp K H v2 (wd r.2.1) ∧ Dp K H v3 (wd r.2.2.1) ∧ Dp K H v4 (wd r.2.2.2) := by
  unfold rd parts at h
  cases h with
  | tup h1 h2 =>
    cases h2 with
    | cons a1 t =>
      cases t with
      | cons a2 t =>
        cases t with
        | cons a3 t =>
          cases t with
          | cons a4 t =>
            cases t
            exact ⟨_, _, _, _, _, rfl, h1, a1, a2, a3, a4⟩
theorem to_rd {K : PySem.W.Frag} {H : Hp} {a : Addr} {v1 v2 v3 v4 : V} {r : Rl} (h : SqT K H a [v1, v2, v3, v4]) (h1 : Dp K H v1 (wd r.1)) (h2 : Dp K H v2 (wd r.2.1)) (h3 : Dp K H v3 (wd r.2.2.1)) (h4 : Dp K H v4 (wd r.2.2.2)) : Dp K H (.ref a) (rd r) :=
  .tup h (.cons h1 (.cons h2 (.cons h3 (.cons h4 .nil))))
/-- a sorted list without repetition -/
structure Srt (S L : List Rl) : Prop where
  nd : S.Nodup
  ris : Rising (S.map rd)
  mem : ∀ p, p ∈ S ↔ p ∈ L
theorem Srt.one {S S' L L' : List Rl} (a : Srt S L) (b : Srt S' L') (h : ∀ p, p ∈ L ↔ p ∈ L') : S = S' := rules_one a.ris b.ris a.nd b.nd fun p => (a.mem p).trans ((h p).trans (b.mem p).symm)
/-! ### sorted(set(xs)) of rules -/
section
variable {X : Cx}
/-- set(xs), xs a list or a tuple of rules -/
def rSetR (K : PySem.W.Frag) (w : World) : List V → Hp → VK → Prop := fun vs H Q => ∃ (l : Addr) (xs : List V) (L : List Rl), vs = [.ref l] ∧ (SqL K H l xs ∨ SqT K H l xs) ∧ DpAll K H xs (L.map rd) ∧ L.length < 76 ∧
  ∀ a M, H a = none → (∀ p ∈ M, Good p.2 ∧ Dp K H (.ref p.1) p.2) → (∀ p ∈ M, ∃ r ∈ L, p.2 = rd r) → (∀ r ∈ L, rd r ∈ M.map (·.2)) → Q (.ref a) (upd H a (TSetO w a M))
theorem cr_setR (hc : X.calm = true) (hu : X.A.units + 64 < cLine) : CallR X (.type "set") (rSetR X.K X.w) := fun pins s σ H vs us Q I r ⟨l, xs, L, e, hl, hd, few, q⟩ =>
  cr_setT hc hu pins s σ H vs us Q I r ⟨l, xs, L.map rd, e, hl, hd, (fun d hd => by obtain ⟨p, _, rfl⟩ := List.mem_map.mp hd; exact good_rd p), by rw [List.length_map]; exact few, fun a M ha hM hall => by
    have isP : ∀ e ∈ M, ∃ p ∈ L, e.2 = rd p := fun e he => by
      obtain ⟨p, hp, ep⟩ := List.mem_map.mp (hM e he).1
      exact ⟨p, hp, ep.symm⟩
    refine q a M ha (fun e he => ?_) isP fun r hr => hall _ (List.mem_map.mpr ⟨r, hr, rfl⟩)
    obtain ⟨p, _, ep⟩ := isP e he
    exact ⟨by rw [ep]; exact good_rd p, (hM e he).2⟩⟩
/-- sorted(a set of rules) -/
def rSortR (K : PySem.W.Frag) (w : World) : List V → Hp → VK → Prop := fun vs H Q => ∃ (a : Addr) (M : List (Addr × PyData)) (L : List Rl), vs = [.ref a] ∧ H a = some (TSetO w a M) ∧ (∀ p ∈ M, Good p.2 ∧ Dp K H (.ref p.1) p.2) ∧ (∀ p ∈ M, ∃ r ∈ L, p.2 = rd r) ∧ (∀ r ∈ L, rd r ∈ M.map (·.2)) ∧
  ∀ (ys : List V) (S : List Rl) (p : Addr), Srt S L → S.length < 76 → DpAll K H ys (S.map rd) → H p = none → Q (.ref p) (upd H p (.lst ys))
theorem cr_sortR (hc : X.calm = true) (hu : X.A.units + 64 < cLine) : CallR X (.builtin "sorted") (rSortR X.K X.w) := fun pins s σ H vs us Q I r ⟨a, M, L, e, ha, hM, isP, hall, q⟩ =>
  cr_sortT hc hu pins s σ H vs us Q I r ⟨a, M, e, ha, hM, (fun d hd d' hd' => by
    obtain ⟨e, he, rfl⟩ := List.mem_map.mp hd
    obtain ⟨e', he', rfl⟩ := List.mem_map.mp hd'
    obtain ⟨p, _, ep⟩ := isP e he
    obtain ⟨p', _, ep'⟩ := isP e' he'
    rw [ep, ep']
    exact alike_rd p p'), fun ys ds p perm nd lt ris hys hp' => by
    obtain ⟨S, rfl⟩ := all_rd (ds := ds) fun d hd => by
      obtain ⟨e, he, rfl⟩ := List.mem_map.mp (perm.mem_iff.mp hd)
      obtain ⟨p, _, ep⟩ := isP e he
      exact ⟨p, ep⟩
    rw [List.length_map] at lt
    refine q ys S p ⟨nodup_of_map nd, ris, fun p => ?_⟩ lt hys hp'
    rw [← rd_mem, perm.mem_iff]
    constructor
    · intro hm
      obtain ⟨e, he, ee⟩ := List.mem_map.mp hm
      obtain ⟨p', hp', ep⟩ := isP e he
      rw [← rd_inj (ep.symm.trans ee)]
      exact hp'
    · intro hm
      exact hall _ hm⟩
end
end Rw
namespace Rw
open PySem PySem.Spec PyProof.Rows L2
/-! ### == and != of instances by their class's own __eq__ -/
section
variable {X : Cx}
def rEqP (C : Addr) (sp : Sp) (E : XK) : R2 := fun x y H Q => ∃ a dx fs b dy gs, x = .ref a ∧ y = .ref b ∧ H a = some (.ins C dx fs) ∧ H b = some (.ins C dy gs) ∧ sp [x, y] H Q E
theorem op_eqP {CX : CXT} {C g : Addr} {n : Nat} {sp : Sp} {E : XK} (hs : PySem.W.findIn X.K (.ref C) "__eq__" = some (some (.ref g))) (hf : PySem.W.isFn X.K (.ref g) = true) (F : FnR X.prog X.w X.K X.mg X.base CX n g sp) (hr : Room n X.A) (hx : Passes CX X E) : OpR X (compareOp .Eq) (rEqP C sp E) := by
  intro pins s σ H x y v u Q I rx ry h
  obtain ⟨a, dx, fs, b, dy, gs, rfl, rfl, ha, hb, q⟩ := h
  obtain rfl : v = Value.ref a := rx
  obtain rfl : u = Value.ref b := ry
  obtain ⟨mA, J, _⟩ := ins_get I.hok ha
  obtain ⟨mB, J', _⟩ := ins_get I.hok hb
  obtain ⟨od, J, _⟩ := J.look
  obtain ⟨od', J', _⟩ := J'.look
  obtain ⟨m, hF⟩ := I.fr
  show wpAny _ _ (richCompare .Eq (.ref a) (.ref b)) _ _ _
  refine PySem.W.cmp_K hr.units0 hF I.ok.mod.kin J J'.type (by simp [PySem.W.notFirst]) hs hf ?_
  refine wpAny_mono (wpAny_call (run_fnR F hr hx I (vs := [.ref a, .ref b]) (.cons rfl (.cons rfl .nil)) q)) (fun r s' h => ?_) fun e s' h => h
  obtain ⟨z, H', I', r, q⟩ := h
  exact SlX.cmpback r ⟨z, H', I', r, q⟩
/-- what the class is, for != -/
structure NeC (K : PySem.W.Frag) (C g : Addr) : Prop where
  cls : ∃ nm q N bs hd sn sub ab col dd k0 k1 k2 k3 k5 nid oN es ep, K.lookup C = some (excClassObj nm q C N bs [.type "object"] hd sn sub ab col dd k0 k1 k2 k3 k5 nid) ∧ K.lookup N = some oN ∧ oN.data = .dict es ep ∧ StrKeys es ∧ nsFind es "__eq__" = some (.ref g) ∧ nsFind es "__ne__" = none
  fn : ∃ og, K.lookup g = some og ∧ og.cls = .type "function"
def rNeP (C : Addr) (sp : Sp) (E : XK) : R2 := fun x y H Q => ∃ a dx fs b dy gs, x = .ref a ∧ y = .ref b ∧ H a = some (.ins C dx fs) ∧ H b = some (.ins C dy gs) ∧ sp [x, y] H (fun v H' => ∃ t, v = .bl t ∧ Q (.bl (!t)) H') E
theorem op_neP {CX : CXT} {C g : Addr} {n : Nat} {sp : Sp} {E : XK} (N : NeC X.K C g) (F : FnR X.prog X.w X.K X.mg X.base CX n g sp) (hr : Room (n + 1) X.A) (hx : Passes CX X E) : OpR X (compareOp .NotEq) (rNeP C sp E) := by
  intro pins s σ H x y v u Q I rx ry h
  obtain ⟨a, dx, fs, b, dy, gs, rfl, rfl, ha, hb, q⟩ := h
  obtain rfl : v = Value.ref a := rx
  obtain rfl : u = Value.ref b := ry
  obtain ⟨mA, J, _⟩ := ins_get I.hok ha
  obtain ⟨mB, J', _⟩ := ins_get I.hok hb
  obtain ⟨od, J, _⟩ := J.look
  obtain ⟨od', J', _⟩ := J'.look
  obtain ⟨nm, q1, NN, bs, hd, sn, sub, ab, col, dd, k0, k1, k2, k3, k5, nid, oN, es, ep, c1, c2, c3, c4, c5, c6⟩ := N.cls
  obtain ⟨og, g1, g2⟩ := N.fn
  have kin := I.kIn
  have own : s.heap.OwnEqNoNe a C g "object" [.type "object"] := ⟨_, og, nm, q1, NN, bs, hd, sn, sub, ab, col, dd, k0, k1, k2, k3, k5, nid, _, _, J.at_, J.cls, kin _ _ c1, ⟨oN, es, ep, kin _ _ c2, c3, c4, fun _ => rfl⟩, c5, kin _ _ g1, g2, PySem.F.cmp_object.mro, PySem.F.cmp_object.eq.lookup, c6⟩
  have un := hr.un
  refine compareOp_ne_ownEq PySem.F.cmp_object own J'.at_ J'.cls (by omega) ?_
  have e0 := I.env0
  have e1 : Env0 X.prog X.w X.K X.mg X.base X.A.in1 X.stack s H := ⟨e0.frames, e0.mod, e0.bs, e0.bsz, e0.funs, e0.frf, e0.hok, e0.bare⟩
  refine wpAny_call (codeAny_mono (F X.A.in1 X.stack s H [.ref a, .ref b] [.ref a, .ref b] _ E hr.in1 e1 (.cons rfl (.cons rfl .nil)) q) fun r s' h => ?_)
  cases r with
  | error e => exact hx pins σ H s e s' I h
  | ok f =>
    cases f with
    | ret v =>
      obtain ⟨z, H', I', r, t, rfl, q⟩ := I.after h
      obtain rfl : v = Value.bool t := r
      exact ⟨t, rfl, .bl (!t), H', I', rfl, q⟩
    | _ => exact h.elim
end
end Rw
namespace Rw
open PySem PySem.Spec PyProof.Rows L2
/-! ### an error that was caught and kept -/
/-- an error of the class cls at a, whose own dict is d -/
def ExH (cls : Value) (d : Option Addr) (a : Addr) : HO := .ext fun h => ∃ oe vs, h.get? a = some oe ∧ Zc cls d oe ∧ oe.data = .fields vs
def wKeep (K : PySem.W.Frag) (c : Value) (i j : Nat) (D : Ends) : WX := fun cls d σ H => PySem.W.exmOne K cls c = some true ∧ ∀ a, H a = none → D.nx (((σ.set i (some (.ref a))).set j (some (.ref a))).set i none) (upd H a (ExH cls d a))
/-- an error's object is tracked from now on -/
theorem keep_inv {X : Cx} {pins : List (Addr × Obj)} {σ : L2.St} {H : Hp} {s : Shared} {a : Addr} {oe : Obj} {cls : Value} {d : Option Addr} {vs : Array Value} (I : Inv X pins σ H s) (he : s.heap.get? a = some oe) (hz : Zc cls d oe) (hd : oe.data = .fields vs) (hH : H a = none) (nL : a ≠ X.env.locals)
    (h0 : X.s_0.heap.get? a = none) (hp : ∀ p ∈ X.pn ++ pins, p.1 ≠ a) : Inv X pins σ (upd H a (ExH cls d a)) s := by
  have cell : ∀ x c, X.env.cells.lookup x = some c → c ≠ a := fun x c e z => by
    obtain ⟨v, o, h1, h2⟩ := I.cell x c e
    rw [z, he] at h1
    cases h1
    rw [hd] at h2
    cases h2
  refine ⟨I.ok, I.os, I.bare, ?_, I.loc, I.cell, ?_, fun x c e => ?_, fun p hpm => ?_, fun b o hb => ?_, I.len⟩
  · have u := I.base
    refine ⟨u.keep, u.slot, fun b o e1 e2 e3 => ?_, u.there, fun b xs e => ?_, fun b o w' e => ?_, fun b ps e => ?_⟩
    · have nb : b ≠ a := fun z => by
        rw [z, h0] at e1
        cases e1
      rw [upd_ne nb]
      exact u.free b o e1 e2 e3
    · have z := u.tups b xs e
      rw [upd_ne (ne_of_none z hH)]
      exact z
    · have z := u.frzs b o w' e
      rw [upd_ne (ne_of_none z hH)]
      exact z
    · obtain ⟨more, z⟩ := u.tbls b ps e
      refine ⟨more, ?_⟩
      rw [upd_ne (ne_of_none z hH)]
      exact z
  · rw [upd_ne nL.symm]
    exact I.free
  · rw [upd_ne (cell x c e)]
    exact I.freeC x c e
  · obtain ⟨p1, p2, p3⟩ := I.pin p hpm
    refine ⟨p1, ?_, p3⟩
    rw [upd_ne (hp p hpm)]
    exact p2
  · have new : ObjOk X.prog X.w (upd H a (ExH cls d a)) s.heap a (ExH cls d a) := ⟨⟨oe, vs, he, hz, hd⟩, ⟨oe, he⟩, fun h1 h2 ⟨oe', vs', e1, e2⟩ kk => ⟨oe', vs', kk oe' e1, e2⟩⟩
    by_cases e : b = a
    · subst e
      rw [upd_same] at hb
      cases hb
      exact new
    · rw [upd_ne e] at hb
      have same : ∀ (b' : Addr) (u : HO), H b' = some u → (upd H a (ExH cls d a)) b' = some u := fun b' u h => by
        rw [upd_ne (ne_of_none h hH)]
        exact h
      exact (I.hok b o hb).stay (fun _ _ _ e => e) (fun b' h => same b' _ h) fun b' xs h => same b' _ h
/-- try: body except x as n: y = n (every error of the body is an x) -/
theorem ps_try_keep {X : Cx} {x n y : Str} {c : Value} {i j : Nat} {body : List Stmt} {np pos pos' p1 p2 p3 : Pos} {tb : WX → TS} (hs : X.stack = X.env :: X.outer) (hf : X.env.frame = some X.env.locals) (hN : X.N.Nodup) (hi : X.N[i]? = some n) (hln : X.env.kindOf n = some .local) (hc : Names X x c)
    (hj : X.N[j]? = some y) (hyl : X.env.scope.names.lookup y = some .local) (hnl : X.env.scope.names.lookup n = some .local) (hex : X.ex = []) (hdb : (n == ("__debug__" : Str)) = false) (hcd : (n == ("__classdict__" : Str)) = false) (hsw : swapsWith (.Name n p2) (some (.Name y p1)) p3.line X.env = pure false)
    (hb : ∀ (W : WX) (pn : List (Addr × Obj)) (xe : Value → Shared → Prop), Takes (X.tr pn xe) W → PassesOwn (model X.prog X.w) X.A X.env xe → PSs (X.tr pn xe) body (tb W)) :
    PS X (.Try body [.ExceptHandler (some (.Name x np)) (some n) [.Assign [.Name y p1] (.Name n p2) p3] pos'] [] [] pos) (fun D σ H => tb (wKeep X.K c i j D) D σ H) := by
  refine ⟨fun pins s σ H D I h => ?_⟩
  have ok := I.ok
  have hfr : X.A.frames = some (X.env :: X.outer) := by rw [ok.frames, hs]
  have hloc : L2.Loc X.env.scope n := Or.inl hln
  refine wpAny_Try_except (wpAny_mono ((hb (wKeep X.K c i j D) (X.pn ++ pins) (fun e s₁ => wpAny (model X.prog X.w) X.A (noteFrame e X.env) (fun _ s₂ => wpAny (model X.prog X.w) X.A (setFlight e none) (fun _ s₃ => wpAny (model X.prog X.w) X.A (handleBy e X.env [.ExceptHandler (some (.Name x np)) (some n) [.Assign [.Name y p1] (.Name n p2) p3] pos']) (SP X pins D) X.xe s₃) X.xe s₂) X.xe s₁) ?_ PassesOwn.looking).run [] s σ H D (I.toTry _) h) ?_ fun e s1 he => he)
  · rintro u s' ⟨a, B, sI, pins', σ', H', cls, d, rfl, J', nb, up, sky, na, os, ag, hb1, hyes⟩
    have J := J'.ofTry ok
    have sky' : Sky B (X.env :: X.outer) a (Zc cls d) X.env.locals s'.heap := by
      rw [← hs]
      exact sky
    refine Sky.land Zc.steady hfr hf sky' fun h3 fl3 up3 => ?_
    have J3 := J.landed (s' := { heap := h3, gens := s'.gens, drawn := s'.drawn, toks := s'.toks, os := s'.os }) nb fl3.left (up.trans up3) os ag
    obtain ⟨oe3, vs3, he3, hz3, hd3⟩ := fl3.there
    have notFr : ∀ {h : Heap} {o : Obj} {vs : Array Value}, h.FunFrames B (X.env :: X.outer) → h.get? a = some o → o.data = .fields vs → a ∉ frs (X.env :: X.outer) := fun ff e dd hm => by
      obtain ⟨_, o', e', hnf⟩ := ff.mem hm
      rw [e] at e'
      cases e'
      exact hnf _ dd
    have nfr := notFr fl3.2.2.1 he3 hd3
    have nL : a ≠ X.env.locals := fun z => nfr (List.mem_filterMap.mpr ⟨X.env, List.mem_cons_self, by rw [hf, z]⟩)
    have nF : a ∉ X.fs := fun hm => by
      obtain ⟨e, he, q⟩ := List.mem_filterMap.mp hm
      exact nfr (List.mem_filterMap.mpr ⟨e, List.mem_cons_of_mem _ he, q⟩)
    have Ba : B.get? a = none := fl3.2.1
    have nfr' : a ∉ frs X.stack := by
      rw [hs]
      exact nfr
    have sIa : sI.heap.get? a = none := by
      cases e : sI.heap.get? a with
      | none => rfl
      | some o =>
        rw [nb a o e nfr'] at Ba
        cases Ba
    have h0 : X.s_0.heap.get? a = none := by
      cases e : X.s_0.heap.get? a with
      | none => rfl
      | some o =>
        obtain ⟨o', e'⟩ := J.base.there a o e (by rw [hex]; exact List.not_mem_nil)
        rw [sIa] at e'
        cases e'
    have hp : ∀ p ∈ X.pn ++ pins, p.1 ≠ a := fun p hpm z => by
      have := (J.pin p hpm).1
      rw [z, sIa] at this
      cases this
    have S3 := J3.suite he3 hd3 na nL nF
    have LT : ∀ (A : Around) (Q : Value → Shared → Prop) (E : Value → Shared → Prop) (s : Shared), (∀ b o, h3.get? b = some o → s.heap.get? b = some o) → Q cls s → wpAny (model X.prog X.w) A (typeOf (.ref a)) Q E s := fun A Q E s k q => wpAny_typeOf_ref (k a oe3 he3) (by rw [hz3.1]; exact q)
    refine wpAny_handleBy_cons (codeAny_handlers_test ?_) (by intro z; cases z)
    have LM := PySem.W.exm_one J3.kIn LT hb1
    have test : ∀ {Q : Value → Shared → Prop} {E : Value → Shared → Prop}, Q c { heap := h3, gens := s'.gens, drawn := s'.drawn, toks := s'.toks, os := s'.os } → wpAny (model X.prog X.w) (X.A.mark (some (.ref a))) (eval (.Name x np) X.env) Q E { heap := h3, gens := s'.gens, drawn := s'.drawn, toks := s'.toks, os := s'.os } := fun {Q E} q => by
      obtain ⟨hg, hdbg, hm | ⟨hm, hv, hnn⟩⟩ := hc
      · exact ld_glob (X := X.suite a ((a, oe3) :: (X.pn ++ pins))) S3 hg hm q hdbg
      · exact ld_blt (X := X.suite a ((a, oe3) :: (X.pn ++ pins))) S3 hg hm hv q hnn hdbg
    refine test (PySem.W.Looks.here LM ?_)
    refine codeAny_handlers_suite_as (HandSPX.lands_againZ fl3 fun h4 fl4 up4 => ?_)
    have J4 := J.landed (s' := { heap := h4, gens := s'.gens, drawn := s'.drawn, toks := s'.toks, os := s'.os }) nb fl4.left ((up.trans up3).trans up4) os ag
    obtain ⟨oe4, vs4, he4, hz4, hd4⟩ := fl4.there
    have S4 := J4.suite he4 hd4 na nL nF
    refine store_ok (X := X.suite a ((a, oe4) :: (X.pn ++ pins))) (v := .ref a) S4 hN hi hloc rfl (fun s5 S5 => ?_) (.inr hnl)
    have suite : PSs (X.suite a ((a, oe4) :: (X.pn ++ pins))) [.Assign [.Name y p1] (.Name n p2) p3] _ := pss_one (ps_asg (pe_var (i := i) hi (.inl hnl) hdb hcd) (pg_name (i := j) hN hj (.inl hyl) (.inr hyl)) hsw)
    have il : i < σ'.length := by
      rw [J.len]
      exact (List.getElem?_eq_some_iff.mp hi).1
    refine wpAny_mono (suite.run [] s5 (σ'.set i (some (.ref a))) H' { nx := fun σ6 H6 => σ6 = (σ'.set i (some (.ref a))).set j (some (.ref a)) ∧ H6 = H', rt := fun _ _ => False } S5 ⟨.ref a, by rw [List.getElem?_set_self il], rfl, rfl⟩) (fun f s6 hsp => ?_) fun e s' z => z.elim
    cases f with
    | next =>
      obtain ⟨σ6, H6, S6, rfl, rfl⟩ := hsp
      have he6 := (S6.pin (a, oe4) (List.mem_append_left _ List.mem_cons_self)).1
      have K6 := keep_inv (Inv.unsuite S6 ok) he6 hz4 hd4 na nL h0 hp
      exact gone_ok K6 hN hi hln fun s7 J7 => ⟨_, _, J7, hyes a na⟩
    | brk =>
      obtain ⟨_, _, _, z⟩ := hsp
      exact z.elim
    | cont =>
      obtain ⟨_, _, _, z⟩ := hsp
      exact z.elim
    | ret v =>
      obtain ⟨_, _, _, _, _, z⟩ := hsp
      exact z.elim
  · intro f s1 hsp
    cases f with
    | next =>
      obtain ⟨σ', H', J', q⟩ := hsp
      exact wpAny_execs_nil ⟨σ', H', J'.ofTry ok, q⟩
    | brk =>
      obtain ⟨σ', H', J', q⟩ := hsp
      exact ⟨σ', H', J'.ofTry ok, q⟩
    | cont =>
      obtain ⟨σ', H', J', q⟩ := hsp
      exact ⟨σ', H', J'.ofTry ok, q⟩
    | ret v =>
      obtain ⟨v', σ', H', J', r, q⟩ := hsp
      exact ⟨v', σ', H', J'.ofTry ok, r, q⟩
end Rw
namespace Rw
open PySem PySem.Spec PyProof.Rows L2
/-! ### what is asked of a kept error -/
open PySem.W in
theorem kin_classD {prog : Program} {w : World} {A : Around} {E : Value → Shared → Prop} {s : Shared} {K : PySem.W.Frag} {x D : Addr} {ox od : Obj} {Q : Option Value → Shared → Prop} (hga : PySem.W.findIn K (.ref D) "__getattribute__" = some (some (.builtin "BaseException.__getattribute__"))) (hgt : PySem.W.findIn K (.ref D) "__getattr__" = some none)
    (hsub : PySem.W.subIn K (.ref D) (.type "BaseException") = some true) (hdct : PySem.W.hasDictIn K D = true) (ha : PySem.W.findIn K (.ref D) "__class__" = some (some (.builtin "object.__class__"))) (hn : PySem.W.specialIn K (.builtin "object.__class__") "__get__" = some (some (.builtin "getset_descriptor.__get__"))) (htk : PySem.W.takesIn K (.builtin "object.__class__") = some true) (hm : PySem.W.mroIn K D (.type "object") = some true)
    (X : K.In s.heap) (I : PySem.W.InstAt s.heap x ox D (some od)) (h : Q (some (.ref D)) { heap := s.heap, gens := s.gens, drawn := s.drawn, toks := s.toks + 1, os := s.os }) : wpAny (model prog w) A (getAttr? (.ref x) "__class__") Q E s := by
  have hf := PySem.W.findObj_data (K := K) (C := D) (od := od) (by obtain ⟨cd, hc, _⟩ := PySem.W.any_some hdct; rw [hc]; rfl) ha hn htk
  obtain ⟨hp, g, d, t, os⟩ := s
  have L0 := PySem.W.InstAt.type (M := model prog w) I
  have L1 := PySem.W.looks_findIn (M := model prog w) X hga
  have L2 := PySem.W.looks_findIn (M := model prog w) X hgt
  have L3 := PySem.W.looks_find (M := model prog w) X I hf
  have sub : PySem.W.Looks (model prog w) hp (typeOf (.ref x) >>= fun t => isSubtype t (.type "BaseException")) true := PySem.W.Looks.andThen L0 (PySem.W.looks_subIn X hsub)
  unfold getAttr?
  refine wpAny_bind (wpAny_mkText (wpAny_bind (wpAny_attempt (wpAny_holding ?_))))
  refine wpAny_bind (PySem.W.Looks.at L0 (wpAny_bind (PySem.W.Looks.at L1 ?_)))
  have c1 : (onTheHeap (Value.ref D) && (Value.builtin "BaseException.__getattribute__" == Value.builtin "object.__getattribute__")) = false := by
    rw [show (Value.builtin "BaseException.__getattribute__" == Value.builtin "object.__getattribute__") = false by decide]
    rfl
  show wpAny _ _ (if (onTheHeap (Value.ref D) && (Value.builtin "BaseException.__getattribute__" == Value.builtin "object.__getattribute__")) = true then _ else _) _ _ _
  rw [c1, if_neg Bool.false_ne_true]
  unfold getAttrByItsOwn
  refine wpAny_bind ?_
  unfold hookBefore
  rw [if_pos (show onTheHeap (Value.ref D) = true from rfl)]
  refine PySem.W.Looks.at L2 (wpAny_bind (wpAny_attempt (wpAny_holding ?_)))
  unfold callGetattribute
  rw [if_neg (show ¬ ((false && onTheHeap (Value.builtin "BaseException.__getattribute__")) = true) from Bool.false_ne_true)]
  unfold boundAndCalled
  rw [F.excAttr_ValueError.ga.bind (Value.ref x)]
  refine wpAny_bind (wpAny_pure ?_)
  show wpAny _ _ (call (Value.builtin "BaseException.__getattribute__") [.ref x, .str "__class__" t]) _ _ _
  refine wpAny_call ?_
  refine codeAny_call_builtin (id := "BaseException.__getattribute__") (b := Builtin.«object.__getattribute__») F.excAttr_ValueError.ga.plain F.entry_bexc_ga ?_
  refine PySem.W.check_slot (i := "BaseException.__getattribute__") (owner := "BaseException") (n := "__getattribute__") (self := .ref x) (rest := [.str "__class__" t]) (kw := []) PySem.W.kin_classE._proof_2 PySem.W.kin_classE._proof_3 sub (F.args_bexc_ga (.ref x) (.str "__class__" t)) ?_
  unfold Builtin.«object.__getattribute__»
  refine wpAny_bind ?_
  refine wpAny_of_eq (a := (Value.ref x, [Value.str "__class__" t])) rfl ?_
  refine wpAny_bind (wpAny_pure (wpAny_bind (PySem.W.Looks.at L0 (wpAny_bind (PySem.W.Looks.at L3 ?_)))))
  unfold Builtin.ObjectAttr.bindTo
  refine wpAny_bind (wpAny_holding (wpAny_call (PySem.W.class_get X I hm (wpAny_pure ?_))))
  show wpAny (model prog w) A (handedOut (.ref D)) _ _ _
  rw [PySem.W.handedOut_of rfl]
  exact wpAny_pure (wpAny_pure h)
theorem cls_at {K : PySem.W.Frag} {D : Addr} (h : PySem.W.hasDictIn K D = true) : ∃ o cd, K.lookup D = some o ∧ o.data = .cls cd := by
  obtain ⟨cd, hc, _⟩ := PySem.W.any_some h
  unfold PySem.W.clsIn at hc
  split at hc
  · rename_i heq
    exact ⟨_, _, heq, rfl⟩
  · cases hc
theorem kitx_excD {K : PySem.W.Frag} {x D : Addr} {ox od : Obj} (C : ExcC K D) : PySem.W.KitX K (.ref x) (.ref D) (fun h => PySem.W.InstAt h x ox D (some od)) := by
  obtain ⟨⟨cl, dc, da, sl⟩, cd, ho, hd⟩ := cls_at C.hd
  refine ⟨fun M h X I => PySem.W.InstAt.type I, fun M h X _ => ?_, fun h tp dd its n sl' X htp => ?_, fun X I k => kin_classD C.hg C.hk C.hs C.hd C.ha C.hn C.ht C.hm X I k⟩
  · subst hd
    intro A' Q' E' s' k q
    exact wpAny_bind (wpAny_loadPart (k D _ (X D _ ho)) (wpAny_pure q))
  · refine Bool.eq_false_iff.mpr fun q => ?_
    have e := Value.ref.inj (beq_iff_eq.mp q)
    subst e
    have z := (X D _ ho).symm.trans htp
    cases z
    cases hd
/-- isinstance(caught, C): None, or a kept error -/
def rIsH (K : PySem.W.Frag) : List V → Hp → VK → Prop := fun xs H Q => ∃ (x c : V) (u : Value), xs = [x, c] ∧ (∀ v, RelV c v → v = u) ∧
  ((x = .non ∧ ∃ b, PySem.W.kitOne K (.type "NoneType") u = some b ∧ Q (.bl b) H) ∨
   (∃ (a D dd : Addr) (fs : List (Str × V)) (b : Bool), x = .ref a ∧ H a = some (ExH (.ref D) (some dd) a) ∧ H dd = some (.xd fs) ∧ ExcC K D ∧ PySem.W.kitOne K (.ref D) u = some b ∧ Q (.bl b) H))
theorem call_isH {X : Cx} : CallR X (.builtin "isinstance") (rIsH X.K) := by
  intro pins s σ H xs us Q I r h
  obtain ⟨x, c, u, rfl, hu, h⟩ := h
  cases r with
  | cons r1 r2 =>
    cases r2 with
    | cons r2 r3 =>
      cases r3
      obtain rfl := hu _ r2
      rcases h with ⟨rfl, b, hk, q⟩ | ⟨a, D, dd, fs, b, rfl, ha, hd, C, hk, q⟩
      · cases r1
        exact PySem.W.kia_one PySem.W.kitx_none I.kIn trivial hk (fun z => nomatch z) fun tk => ⟨.bl b, H, I.tok _, rfl, q⟩
      · obtain ⟨oe, vs, hget, hz, hdat⟩ := (I.hok a _ ha).1
        obtain ⟨mA, hns, hr⟩ := I.hok dd _ hd
        obtain ⟨od, ho, hl⟩ := lookIn_ns hns
        have J : PySem.W.InstAt s.heap a oe D (some od) := ⟨hget, hz.1, by unfold PySem.W.notCls; rw [hdat] <;> rfl, by rw [hz.2]; exact ho⟩
        rw [show _ = Value.ref a from r1]
        exact PySem.W.kia_one (kitx_excD C) I.kIn J hk (fun z => nomatch z) fun tk => ⟨.bl b, H, I.tok _, rfl, q⟩
/-- caught.n -/
def tFldH (C : Addr) (n : Str) (te : TE) : TE := fun σ H Q => te σ H fun x H1 => ∃ (a dd : Addr) (fs : List (Str × V)) (v : V), x = .ref a ∧ H1 a = some (ExH (.ref C) (some dd) a) ∧ H1 dd = some (.xd fs) ∧ fs.lookup n = some v ∧ Q v H1
theorem pe_fldH {X : Cx} {C : Addr} {e : Expr} {te : TE} {pos : Pos} {n : Str} (T : XfC X.K C) (hno : PySem.W.findIn X.K (.ref C) n = some none) (he : PE X e te) (hb : attributeBase e n X.env (eval e X.env) = eval e X.env := by rfl) : PE X (.Attribute e n pos) (tFldH C n te) := by
  refine ⟨fun pins s σ H Q I h => attr_of hb (thn (he.run pins s σ H _ I h) fun u s1 ⟨x, H1, I1, rx, a, dd, fs, v, ex, ha, hdd, l, q⟩ => ?_)⟩
  subst ex
  obtain rfl : u = Value.ref a := rx
  obtain ⟨oe, vs, hget, hz, hdat⟩ := (I1.hok a _ ha).1
  obtain ⟨mA, hns, hr⟩ := I1.hok dd _ hdd
  obtain ⟨od, ho, hl⟩ := lookIn_ns hns
  obtain ⟨u, hu, ru⟩ := RelO.some_of (v := v) (o := mA n) (by rw [← l]; exact hr n)
  have J : PySem.W.InstAt s1.heap a oe C (some od) := ⟨hget, hz.1, by unfold PySem.W.notCls; rw [hdat] <;> rfl, by rw [hz.2]; exact ho⟩
  exact HandSPX.exc_get I1.kIn J T.ga T.gg T.exC (PySem.W.findObj_own T.hdC hno rfl (by rw [hl, hu])) (handed_of ru) ⟨v, H1, I1.tok _, ru, q⟩
end Rw
namespace Rw
open PySem PySem.Spec PyProof.Rows L2
/-! ### own errors with one field -/
/-- __init__(self, n): self.n = n -/
def spErr (C : Addr) (n : Str) : Sp := fun vs H Q _ => ∃ (a : Addr) (v : V), vs = [.ref a, v] ∧ H a = some (exo a C none) ∧ ∀ dx, H dx = none → dx ≠ a → Q .non (upd (upd H dx (exd dx [(n, v)])) a (exo a C (some dx)))
/-- C(v) made: what its making asks -/
theorem err_made {C : Addr} {n : Str} {v : V} {H1 : Hp} {Q : XK} (h : ∀ d, H1 d = none → Q (.ref C) (some d) (upd H1 d (.xd [(n, v)]))) : [v].length ≤ 1000 ∧ ∀ a : Addr, H1 a = none → spErr C n (.ref a :: ([v] ++ [])) (upd H1 a (exo a C none))
    (fun u H2 => u = .non ∧ ∃ d fs, H2 a = some (exo a C (some d)) ∧ H2 d = some (exd d fs) ∧ H1 d = none ∧ Q (.ref C) (some d) (upd (del H2 a) d (.xd fs))) (fun _ _ _ => False) := by
  refine ⟨by simp, fun a ha => ⟨a, v, rfl, upd_same, fun dx hdx ne => ?_⟩⟩
  have hd1 : H1 dx = none := by
    rw [upd_ne ne] at hdx
    exact hdx
  refine ⟨rfl, dx, [(n, v)], upd_same, ?_, hd1, ?_⟩
  · rw [upd_ne ne, upd_same]
  · have e : upd (del (upd (upd (upd H1 a (exo a C none)) dx (exd dx [(n, v)])) a (exo a C (some dx))) a) dx (.xd [(n, v)]) = upd H1 dx (.xd [(n, v)]) := by
      funext b
      by_cases h1 : b = dx
      · subst h1
        rw [upd_same, upd_same]
      · rw [upd_ne h1, upd_ne h1]
        by_cases h2 : b = a
        · subst h2
          unfold del
          rw [ha]
          simp
        · unfold del
          rw [if_neg h2, upd_ne h2, upd_ne h1, upd_ne h2]
    rw [e]
    exact h dx hd1
end Rw
namespace Rw
open PySem PySem.Spec PyProof.Rows L2
/-! ### a head that tells of defs anywhere, and more -/
/-! ### what a class is, as a test -/
theorem clsB_ok {K : PySem.W.Frag} {C : Addr} {f : List Value → Addr → Bool → Bool} {nid : String} (h : clsB K C f nid = true) : ∃ nm q N bs bm hd sn sub ab col dd k0 k1 k2 k3 k5, K.lookup C = some (excClassObj nm q C N bs bm hd sn sub ab col dd k0 k1 k2 k3 k5 nid) ∧ f bm N hd = true := by
  unfold clsB at h
  split at h
  · rename_i t dd cd sl e
    rw [Bool.and_eq_true, Bool.and_eq_true, Bool.and_eq_true] at h
    obtain ⟨h1, h2, h3, h4⟩ := h
    obtain ⟨h1, h0⟩ := of_decide_eq_true h1
    have h2 := of_decide_eq_true h2
    split at h4
    · rename_i k0 k1 k2 k3 i k5
      have h4 := of_decide_eq_true h4
      subst h1 h4
      obtain ⟨nm, bs, mro, ns, q, hd, sn, sub, ab, col, del⟩ := cd
      refine ⟨nm, q, ns, bs, mro.tail, hd, sn, sub, ab, col, dd, k0, k1, k2, k3, k5, ?_, h3⟩
      rw [e]
      have h2' : mro = .ref C :: mro.tail := h2
      have h0' : del = false := h0
      subst h0'
      unfold excClassObj
      rw [← h2']
    · exact nomatch h4
  · exact nomatch h
def strKeysB (es : Array DictEntry) : Bool := es.toList.all fun e => match e.key with | .str _ _ => true | _ => false
theorem strKeysB_ok {es : Array DictEntry} (h : strKeysB es = true) : StrKeys es := fun e he => by
  have z := List.all_eq_true.mp h e (Array.mem_toList_iff.mpr he)
  split at z
  · exact ⟨_, _, by assumption⟩
  · exact nomatch z
def nsB (K : PySem.W.Frag) (N g : Addr) : Bool :=
  match K.lookup N with
  | some ⟨_, _, .dict es _, _⟩ => strKeysB es && (decide (nsFind es "__eq__" = some (.ref g)) && decide (nsFind es "__ne__" = none))
  | _ => false
def fnB (K : PySem.W.Frag) (g : Addr) : Bool :=
  match K.lookup g with
  | some o => decide (o.cls = .type "function")
  | none => false
theorem neC_of {K : PySem.W.Frag} {C g : Addr} (h1 : clsB K C (fun bm N _ => decide (bm = [.type "object"]) && nsB K N g) "object.__new__" = true) (h2 : fnB K g = true) : NeC K C g := by
  obtain ⟨nm, q, N, bs, bm, hd, sn, sub, ab, col, dd, k0, k1, k2, k3, k5, e, hf⟩ := clsB_ok h1
  rw [Bool.and_eq_true] at hf
  obtain ⟨f1, f2⟩ := hf
  have f1 := of_decide_eq_true f1
  subst f1
  constructor
  · unfold nsB at f2
    split at f2
    · rename_i oc od es ep os eN
      rw [Bool.and_eq_true, Bool.and_eq_true] at f2
      obtain ⟨g1, g2, g3⟩ := f2
      exact ⟨nm, q, N, bs, hd, sn, sub, ab, col, dd, k0, k1, k2, k3, k5, "object.__new__", _, es, ep, e, eN, rfl, strKeysB_ok g1, of_decide_eq_true g2, of_decide_eq_true g3⟩
    · exact nomatch f2
  · unfold fnB at h2
    split at h2
    · exact ⟨_, by assumption, of_decide_eq_true h2⟩
    · exact nomatch h2
/-- an own error class, by tests -/
theorem oexB_ok {K : PySem.W.Frag} {C : Addr} (h : oexB K C = true) : OexC K C := by
  unfold oexB at h
  rw [Bool.and_eq_true, Bool.and_eq_true, Bool.and_eq_true, Bool.and_eq_true] at h
  obtain ⟨h1, h2, h3, h4, h5⟩ := h
  obtain ⟨nm, q, N, bs, bm, hd, sn, sub, ab, col, dd, k0, k1, k2, k3, k5, e, hf⟩ := clsB_ok h1
  rw [Bool.and_eq_true] at hf
  obtain ⟨f1, f2⟩ := hf
  subst f1
  exact ⟨⟨nm, q, N, bs, bm, sn, sub, ab, col, dd, k0, k1, k2, k3, k5, e, f2⟩, of_decide_eq_true h2, of_decide_eq_true h3, of_decide_eq_true h4, h5⟩
theorem excP_ok {K : PySem.W.Frag} {D : Addr} (h : excP K D) : ExcC K D := by
  obtain ⟨h1, h2, h3, h4, h5, h6, h7, h8⟩ := h
  exact ⟨h1, h2, h3, h4, h5, h6, h7, h8⟩
theorem propP_ok {K : PySem.W.Frag} {C : Addr} {f : Str} (h : propP K C f) (r : recB K (He.ma K C f) "property" = true) : PropOf K C f (He.ma K C f) (He5.wf K C "property" f) := by
  obtain ⟨h1, h2, h3⟩ := h
  refine ⟨h1, h2, h3, ?_⟩
  unfold recB at r
  unfold He5.wf
  split at r
  · rename_i a l e
    rw [e]
    exact ⟨_, rfl⟩
  · exact nomatch r
end Rw
namespace Rw
open PySem PySem.Spec PyProof.Rows L2
/-! ### the text -/
theorem scIsName : FnScope ["thing", "letter"] ["thing"] (defScope sIsName) := ⟨rfl, rfl, rfl, by decide +kernel, rfl, by decide +kernel, by decide +kernel⟩
theorem scIsWorld : FnScope ["thing"] ["thing"] (defScope sIsWorld) := ⟨rfl, rfl, rfl, by decide +kernel, rfl, by decide +kernel, by decide +kernel⟩
theorem scIsRule : FnScope ["thing", "part"] ["thing"] (defScope sIsRule) := ⟨rfl, rfl, rfl, by decide +kernel, rfl, by decide +kernel, by decide +kernel⟩
theorem scAreNames : FnScope ["thing", "item"] ["thing"] (defScope sAreNames) := ⟨rfl, rfl, rfl, by decide +kernel, rfl, by decide +kernel, by decide +kernel⟩
theorem scSetOf : FnScope ["names"] ["names"] (defScope sSetOf) := ⟨rfl, rfl, rfl, by decide +kernel, rfl, by decide +kernel, by decide +kernel⟩
theorem scInit : FnScope ["self", "rules", "place", "row"] ["self", "rules"] (defScope sInit) := ⟨rfl, rfl, rfl, by decide +kernel, rfl, by decide +kernel, by decide +kernel⟩
theorem scOf : FnScope ["cls", "rules"] ["cls", "rules"] (defScope sOf) := ⟨rfl, rfl, rfl, by decide +kernel, rfl, by decide +kernel, by decide +kernel⟩
theorem scRules : FnScope ["self"] ["self"] (defScope sRules) := ⟨rfl, rfl, rfl, by decide +kernel, rfl, by decide +kernel, by decide +kernel⟩
/-- the built-in names that the text does not bind -/
structure Bl (mg : Str → Option Value) : Prop where
  len : mg "len" = none
  isi : mg "isinstance" = none
  all : mg "all" = none
  any : mg "any" = none
  tuple : mg "tuple" = none
  list : mg "list" = none
  sorted : mg "sorted" = none
  set : mg "set" = none
  str : mg "str" = none
  int : mg "int" = none
  max : mg "max" = none
  min : mg "min" = none
  range : mg "range" = none
  enum : mg "enumerate" = none
/-! ### odd values -/
def nameD : PyData → Bool
  | .str x => nameB x
  | _ => false
def oddN : PyData → Prop
  | .str x => x.cps.size ≤ 10000
  | .bool _ => False
  | .dict _ => False
  | _ => True
def tyName : PyData → String
  | .none => "NoneType"
  | .bool _ => "bool"
  | .int _ => "int"
  | .str _ => "str"
  | .list _ => "list"
  | .tuple _ => "tuple"
  | .dict _ => "dict"
theorem tyx_dp {K : PySem.W.Frag} {H : Hp} {x : V} {d : PyData} (h : Dp K H x d) : TyX K H x (.type (tyName d)) := by
  cases h with
  | non => exact .base .non
  | bl b => exact .base (.bl b)
  | int i => exact .base (.int i)
  | str x => exact .base (.str x)
  | lst h1 _ =>
    rcases h1 with (h | ⟨o, h⟩) | ⟨o, its, n, h1, h2, _⟩
    · exact .base (.lst h)
    · exact .base (.frz h)
    · exact .kList h1 h2
  | tup h1 _ => exact tyx_tup h1
section
variable {K : PySem.W.Frag} {H H' : Hp}
mutual
theorem dp_same (e : Same H H') : ∀ (d : PyData) (x : V), Dp K H x d → Dp K H' x d
  | .none, _, h => by cases h; exact .non
  | .bool _, _, h => by cases h; exact .bl _
  | .int _, _, h => by cases h; exact .int _
  | .str _, _, h => by cases h; exact .str _
  | .list ds, _, h => by
    cases h with
    | lst h1 h2 => exact .lst (e.seq h1) (dpAll_same e ds _ h2)
  | .tuple ds, _, h => by
    cases h with
    | tup h1 h2 => exact .tup (same_tup e h1) (dpAll_same e ds _ h2)
  | .dict _, _, h => by cases h
theorem dpAll_same (e : Same H H') : ∀ (ds : List PyData) (xs : List V), DpAll K H xs ds → DpAll K H' xs ds
  | [], _, h => by cases h; exact .nil
  | d :: ds, _, h => by
    cases h with
    | cons h1 h2 => exact .cons (dp_same e d _ h1) (dpAll_same e ds _ h2)
end
end
theorem letter_in {c : Nat} : decide (c ∈ lettersS.cps.toList) = letter c := by
  cases h : letter c with
  | true => exact decide_eq_true (in_letters h)
  | false =>
    refine decide_eq_false fun m => ?_
    have all : (lettersS.cps.toList.all letter) = true := by decide +kernel
    rw [List.all_eq_true.mp all c m] at h
    exact nomatch h
section
variable {P : Program} {w : World} {K : PySem.W.Frag} {mg : Str → Option Value} {base : Heap} {f : Addr} {fd : FuncData} {k : Nat}
/-! ### is_name -/
def spIsName (K : PySem.W.Frag) : Sp := fun vs H Q _ => ∃ (x : V) (d : PyData), vs = [x] ∧ Dp K H x d ∧ oddN d ∧ ∀ H', Same H H' → Q (.bl (nameD d)) H'
theorem ok_isName (F : Fun K "is_name" "is_name" sIsName f fd) (T : Bl mg) (mL : ∃ t, mg "LETTERS" = some (.str lettersS t)) : FnOk P w K mg base CX0 (k + 1) f fd ["thing"] (spIsName K) := by
  refine F.ok scIsName (fun vs H Q E h => ?_) (fun cdv A outer s H vs Q E hr h => ?_)
  · obtain ⟨x, d, rfl, _⟩ := h
    rfl
  obtain ⟨x, d, rfl, hd, odd, q⟩ := h
  obtain ⟨tl, mL⟩ := mL
  refine ⟨_, pss_cons (ps_if (PW.pt (pw_or (pt_not (pt_val (pe_callB call_isi (by rfl) T.isi PyProof.Rows.boot_isinstance (pa_cons (pv 0) (pa_cons (pe_bltn (v := .ty "str") (by rfl) T.str (by decide +kernel) rfl) pa_nil)))))
      (pw_or1 (pt_cmpR op_eq (pv 0) pe_str (nomark _))))) (pss_one (ps_ret pe_bl)) pss_nil)
    (pss_one (ps_ret (pe_and (pe_chain op_le op_le pe_int (pe_callB call_len_str (by rfl) T.len PySem.boot_len (pa_cons (pv 0) pa_nil)) pe_int)
      (pe_one (pe_callB (cr_all rfl) (by rfl) T.all (by decide +kernel) (pa_cons (pe_lc (own := [("letter", 1)]) (g := gName 1) (by rfl) scIsName.nd (pi_str (pv 0)) (blkOk_by (N := ["thing", "letter"]) (sc := defScope sIsName) (by decide +kernel))
        (fun _ _ _ _ _ => pg_name (i := 1) scIsName.nd rfl (Or.inl rfl)) (fun _ _ _ _ _ => pts_nil) (fun _ _ _ _ _ => pe_cmpR op_in_sign (pv 1) (pe_glob (v := .str lettersS) (by rfl) mL ⟨_, rfl⟩) (by rfl))) pa_nil)))))), ?_⟩
  have cases' : (∃ t : String, TyX K H x (.type t) ∧ PySem.W.kitOne K (.type t) (.type "str") = some false ∧ nameD d = false) ∨ ∃ z, d = .str z := by
    have ty := tyx_dp hd
    cases d with
    | none => exact .inl ⟨"NoneType", ty, kit_ty (by decide +kernel), rfl⟩
    | bool _ => exact absurd odd id
    | dict _ => exact absurd odd id
    | int i => exact .inl ⟨"int", ty, kit_ty (by decide +kernel), rfl⟩
    | list ds => exact .inl ⟨"list", ty, kit_ty (by decide +kernel), rfl⟩
    | tuple ds => exact .inl ⟨"tuple", ty, kit_ty (by decide +kernel), rfl⟩
    | str z => exact .inr ⟨z, rfl⟩
  rcases cases' with ⟨t, h1, h2, h3⟩ | ⟨z, rfl⟩
  · refine ⟨x, rfl, x, .ty "str", .type t, .type "str", false, rfl, .ty "str", h1, h2, false, rfl, iteT ?_⟩
    have := q H fun _ _ e => e
    rw [h3] at this
    exact this
  · cases hd
    have few : z.cps.size ≤ 10000 := odd
    refine ⟨.str z, rfl, .str z, .ty "str", .type "str", .type "str", true, rfl, .ty "str", .base (.str z), kit_ty (by decide +kernel), true, rfl, ?_⟩
    refine ⟨.str z, rfl, rfl, _, rfl, ?_⟩
    refine ite2 (fun e => ?_) (fun e => ?_)
    · have ez : z = notS := V.str.inj (of_decide_eq_true e)
      have en : nameB z = false := by
        rw [ez]
        decide +kernel
      have := q H fun _ _ e => e
      rw [show nameD (.str z) = nameB z from rfl, en] at this
      exact this
    · have nz : z ≠ notS := fun h => e (decide_eq_true (by rw [h]; rfl))
      have val : nameB z = (decide (1 ≤ z.cps.size) && (decide (z.cps.size ≤ 8) && z.cps.toList.all letter)) := by
        unfold nameB
        rw [decide_eq_false nz]
        cases z.cps.toList.all letter <;> cases decide (1 ≤ z.cps.size) <;> cases decide (z.cps.size ≤ 8) <;> rfl
      have q' : ∀ H', Same H H' → Q (.bl (decide (1 ≤ z.cps.size) && (decide (z.cps.size ≤ 8) && z.cps.toList.all letter))) H' := fun H' s => by
        have := q H' s
        rw [show nameD (.str z) = nameB z from rfl, val] at this
        exact this
      refine ⟨.str z, rfl, z, rfl, small_line few, 1, z.length, rfl, rfl, decide ((1 : Int) ≤ (z.length : Int)), rfl, ite2 (fun e1 => ?_) (fun e1 => ?_)⟩
      · have h1 : decide (1 ≤ z.cps.size) = true := by
          have := of_decide_eq_true e1
          exact decide_eq_true (by have : (1 : Int) ≤ (z.cps.size : Int) := this; omega)
        rw [h1] at q'
        refine ⟨z.length, 8, rfl, rfl, decide ((z.length : Int) ≤ 8), rfl, ite2 (fun e2 => ?_) (fun e2 => ?_)⟩
        · have h2 : decide (z.cps.size ≤ 8) = true := by
            have := of_decide_eq_true e2
            exact decide_eq_true (by have : (z.cps.size : Int) ≤ 8 := this; omega)
          rw [h2] at q'
          refine ⟨.str z, rfl, z, rfl, fun D hD => ?_⟩
          have s1 : Same H (upd H D (.lst [])) := same_new hD _
          refine lc_sgn (x := z) (fun i H1 => Same H H1 ∧ H1 D = some (.lst ((z.cps.toList.take i).map fun c => V.bl (letter c)))) ⟨s1, upd_same⟩ (fun i c H1 hc hI => ?_) (fun H1 hI => ?_)
          · obtain ⟨sm, hd⟩ := hI
            have hc' : z.cps.toList[i]? = some c := by rw [Array.getElem?_toList]; exact hc
            have il : i < z.cps.size := (Array.getElem?_eq_some_iff.mp hc).1
            refine ⟨rfl, .str ⟨#[c]⟩, rfl, c, lettersS, rfl, rfl, ?_⟩
            rw [letter_in]
            refine ⟨_, hd, small_line' (by rw [List.length_map, List.length_take, Array.length_toList]; omega), same_put sm hD, ?_⟩
            rw [upd_same, take_snoc hc', List.map_append]
            rfl
          · obtain ⟨sm, hd⟩ := hI
            rw [show z.cps.size = z.cps.toList.length by rw [Array.length_toList], List.take_length] at hd
            refine ⟨D, z.cps.toList.map letter, rfl, SqL.of (by rw [List.map_map]; exact hd), ?_⟩
            have eq : (z.cps.toList.map letter).all id = z.cps.toList.all letter := by
              rw [List.all_map]
              rfl
            rw [eq]
            exact q' H1 sm
        · have h2 : decide (z.cps.size ≤ 8) = false := decide_eq_false fun h => e2 (decide_eq_true (by show (z.cps.size : Int) ≤ 8; omega))
          rw [h2] at q'
          exact q' H fun _ _ e => e
      · have h1 : decide (1 ≤ z.cps.size) = false := decide_eq_false fun h => e1 (decide_eq_true (by show (1 : Int) ≤ (z.cps.size : Int); omega))
        rw [h1] at q'
        exact ⟨false, rfl, iteF (q' H fun _ _ e => e)⟩
end
end Rw
namespace Rw
open PySem PySem.Spec PyProof.Rows L2
/-! ### worlds of odd values -/
def strOf : PyData → Str
  | .str x => x
  | _ => notS
theorem strs_of : ∀ {ds : List PyData}, ds.all nameD = true → ds = (ds.map strOf).map PyData.str ∧ ∀ x ∈ ds.map strOf, nameB x = true
  | [], _ => ⟨rfl, fun x hx => nomatch hx⟩
  | d :: ds, h => by
    rw [List.all_cons, Bool.and_eq_true] at h
    obtain ⟨h1, h2⟩ := h
    obtain ⟨e, hn⟩ := strs_of h2
    cases d with
    | str x =>
      refine ⟨by rw [List.map_cons, List.map_cons, ← e]; rfl, fun y hy => ?_⟩
      rw [List.map_cons] at hy
      rcases List.mem_cons.mp hy with z | hy
      · rw [z]
        exact h1
      · exact hn y hy
    | _ => exact absurd h1 (by simp [nameD])
instance (ns : W) : Decidable (UpX ns) := inferInstanceAs (Decidable (ns.Pairwise fun a b => a.cps.toList < b.cps.toList))
def worldD : PyData → Bool
  | .tuple ds => ds.all nameD && decide (UpX (ds.map strOf))
  | _ => false
def oddW : PyData → Prop
  | .tuple ds => (∀ d ∈ ds, oddN d) ∧ ds.length ≤ 40
  | .bool _ => False
  | .dict _ => False
  | _ => True
theorem worldD_wd {ns : W} (h : IsW ns) : worldD (wd ns) = true := by
  unfold worldD wd
  have e1 : ((ns.map PyData.str).all nameD) = true := by
    rw [List.all_map, List.all_eq_true]
    exact fun x hx => h.names x hx
  have e2 : (ns.map PyData.str).map strOf = ns := by
    rw [List.map_map]
    exact List.map_id' ns
  show ((ns.map PyData.str).all nameD && decide (UpX ((ns.map PyData.str).map strOf))) = true
  rw [e1, e2, decide_eq_true h.up]
  rfl
theorem worldD_of {d : PyData} (o : oddW d) (h : worldD d = true) : ∃ ns, IsW ns ∧ d = wd ns := by
  cases d with
  | tuple ds =>
    have h' : (ds.all nameD && decide (UpX (ds.map strOf))) = true := h
    rw [Bool.and_eq_true] at h'
    obtain ⟨h1, h2⟩ := h'
    obtain ⟨e, hn⟩ := strs_of h1
    refine ⟨ds.map strOf, ⟨hn, of_decide_eq_true h2, by rw [List.length_map]; exact o.2⟩, ?_⟩
    unfold wd
    rw [← e]
  | _ => exact nomatch h
theorem oddN_name {x : Str} (h : nameB x = true) : oddN (.str x) := by
  obtain ⟨_, _, h3, _⟩ := nameB_iff.mp h
  show x.cps.size ≤ 10000
  omega
theorem oddW_wd {ns : W} (h : IsW ns) : oddW (wd ns) := ⟨fun d hd => by
  obtain ⟨x, hx, rfl⟩ := List.mem_map.mp hd
  exact oddN_name (h.names x hx), by rw [List.length_map]; exact h.few⟩
theorem shaped_names {ns : W} (h : ∀ x ∈ ns, nameB x = true) : SeqAt.shaped (wd ns) = true := shaped_of (lay_wd h) (by rw [depth_wd]; decide)
section
variable {P : Program} {w : World} {K : PySem.W.Frag} {mg : Str → Option Value} {base : Heap} {f : Addr} {fd : FuncData} {k : Nat}
def spAreNames (K : PySem.W.Frag) : Sp := fun vs H Q _ => ∃ (a : Addr) (xs : List V) (ds : List PyData), vs = [.ref a] ∧ SqT K H a xs ∧ DpAll K H xs ds ∧ (∀ d ∈ ds, oddN d) ∧ ds.length ≤ 1000 ∧ ∀ H', Same H H' → Q (.bl (ds.all nameD)) H'
theorem ok_areNames {f1 : Addr} {fd1 : FuncData} (F : Fun K "_are_names" "_are_names" sAreNames f fd) (T : Bl mg) (G : FnOk P w K mg base CX0 k f1 fd1 ["thing"] (spIsName K)) (b1 : Binds K fd1 ["thing"] []) (k1 : PySem.W.keepIn K (.ref f1) = true) (m1 : mg "is_name" = some (.ref f1)) :
    FnOk P w K mg base CX0 (k + 1) f fd ["thing"] (spAreNames K) := by
  refine F.ok scAreNames (fun vs H Q E h => ?_) (fun cdv A outer s H vs Q E hr h => ?_)
  · obtain ⟨a, xs, ds, rfl, _⟩ := h
    rfl
  obtain ⟨a, xs, ds, rfl, hS, hx, odd, few, q⟩ := h
  have xl := dpAll_len hx
  refine ⟨_, pss_one (ps_ret (pe_and (pe_isiTL (pv 0) (by rfl) T.isi (pa_cons (pe_bltn (v := .ty "tuple") (by rfl) T.tuple (by decide +kernel) rfl) (pa_cons (pe_bltn (v := .ty "list") (by rfl) T.list (by decide +kernel) rfl) pa_nil)))
      (pe_one (pe_callB (cr_all rfl) (by rfl) T.all (by decide +kernel) (pa_cons (pe_lc (own := [("item", 1)]) (g := gName 1) (by rfl) scAreNames.nd (pi_tup (pv 0)) (blkOk_by (N := ["thing", "item"]) (sc := defScope sAreNames) (by decide +kernel))
        (fun _ _ _ _ _ => pg_name (i := 1) scAreNames.nd rfl (Or.inl rfl)) (fun _ _ _ _ _ => pts_nil) (fun _ _ _ _ _ => pe_call G hr (by rfl) m1 k1 b1 .nil pass0 (pa_cons (pv 1) pa_nil))) pa_nil))))), ?_⟩
  refine ⟨.ref a, rfl, ⟨a, _, rfl, hS⟩, fun T0 hT => ⟨true, rfl, iteT ?_⟩⟩
  have s0 : Same H (upd H T0 (.tup [.ty "tuple", .ty "list"])) := same_new hT _
  generalize upd H T0 (.tup [.ty "tuple", .ty "list"]) = H0 at s0 ⊢
  refine ⟨.ref a, rfl, a, rfl, ⟨_, same_tup s0 hS⟩, fun D hD => ?_⟩
  have s1 : Same H0 (upd H0 D (.lst [])) := same_new hD _
  refine lc_tup (xs := xs) (fun i H1 => Same H0 H1 ∧ H1 D = some (.lst ((ds.take i).map fun d => V.bl (nameD d)))) ⟨s1, upd_same⟩ (fun i H1 _ hI => same_tup (s0.trans hI.1) hS) (fun i x H1 hxi hI => ?_) (fun H1 hI => ?_)
  · obtain ⟨sm, hd⟩ := hI
    obtain ⟨d, hdi, hxd⟩ := dpAll_at' hx hxi
    have il : i < ds.length := (List.getElem?_eq_some_iff.mp hdi).1
    refine ⟨rfl, x, rfl, x, d, rfl, dp_same (s0.trans sm) _ _ hxd, odd d (List.mem_of_getElem? hdi), fun H2 sm2 => ⟨_, sm2 _ _ hd, small_line' (by rw [List.length_map, List.length_take]; omega), same_put (sm.trans sm2) hD, ?_⟩⟩
    rw [upd_same, take_snoc hdi, List.map_append]
    rfl
  · obtain ⟨sm, hd⟩ := hI
    rw [xl, List.take_length] at hd
    refine ⟨D, ds.map nameD, rfl, SqL.of (by rw [List.map_map]; exact hd), ?_⟩
    have z : (ds.map nameD).all id = ds.all nameD := by
      rw [List.all_map]
      rfl
    rw [z]
    exact q H1 (s0.trans sm)
/-! ### _set_of -/
def spSetOf (K : PySem.W.Frag) : Sp := fun vs H Q _ => ∃ (a : Addr) (ns : W), vs = [.ref a] ∧ (SqL K H a (ns.map V.str) ∨ SqT K H a (ns.map V.str)) ∧ ns.length < 1000 ∧ ∀ (H' : Hp) (p : Addr) (zs : W), Same H H' → H' p = some (.tup (zs.map V.str)) → UpX zs → (∀ z, z ∈ zs ↔ z ∈ ns) → Q (.ref p) H'
theorem ok_setOf (F : Fun K "_set_of" "_set_of" sSetOf f fd) (T : Bl mg) : FnOk P w K mg base CX0 (k + 1) f fd ["names"] (spSetOf K) := by
  refine F.ok scSetOf (fun vs H Q E h => ?_) (fun cdv A outer s H vs Q E hr h => ?_)
  · obtain ⟨a, ns, rfl, _⟩ := h
    rfl
  obtain ⟨a, ns, rfl, hS, few, q⟩ := h
  refine ⟨_, pss_one (ps_ret (pe_callTy call_tuple_of (by rfl) T.tuple (by decide +kernel) (pa_cons (pe_callB (cr_sortX rfl hr.units) (by rfl) T.sorted (by decide +kernel) (pa_cons (pe_callTy (cr_setX rfl hr.units) (by rfl) T.set (by decide +kernel) (pa_cons (pv 0) pa_nil)) pa_nil)) pa_nil))), ?_⟩
  refine ⟨.ref a, rfl, a, ns, rfl, hS, few, fun b ms hb nd hm hl => ?_⟩
  refine ⟨b, ms, rfl, upd_same, by omega, fun zs p hz nz hlz rz hp => ?_⟩
  refine ⟨p, zs.map V.str, rfl, .inl ⟨SqL.of upd_same, fun l hl2 => ?_⟩⟩
  exact q _ l zs ((same_new hb _).trans ((same_new hp _).trans (same_new hl2 _))) upd_same (upX_of rz nz) fun z => (hz z).trans (hm z)
/-! ### is_world -/
def spIsWorld (K : PySem.W.Frag) : Sp := fun vs H Q _ => ∃ (x : V) (d : PyData), vs = [x] ∧ Dp K H x d ∧ oddW d ∧ ∀ H', Same H H' → Q (.bl (worldD d)) H'
theorem ok_isWorld {f1 f2 : Addr} {fd1 fd2 : FuncData} (F : Fun K "is_world" "is_world" sIsWorld f fd) (T : Bl mg) (G1 : FnOk P w K mg base CX0 k f1 fd1 ["thing"] (spAreNames K)) (b1 : Binds K fd1 ["thing"] []) (k1 : PySem.W.keepIn K (.ref f1) = true) (m1 : mg "_are_names" = some (.ref f1))
    (G2 : FnOk P w K mg base CX0 k f2 fd2 ["names"] (spSetOf K)) (b2 : Binds K fd2 ["names"] []) (k2 : PySem.W.keepIn K (.ref f2) = true) (m2 : mg "_set_of" = some (.ref f2)) : FnOk P w K mg base CX0 (k + 1) f fd ["thing"] (spIsWorld K) := by
  refine F.ok scIsWorld (fun vs H Q E h => ?_) (fun cdv A outer s H vs Q E hr h => ?_)
  · obtain ⟨x, d, rfl, _⟩ := h
    rfl
  obtain ⟨x, d, rfl, hx, odd, q⟩ := h
  refine ⟨_, pss_one (ps_ret (pe_and (pe_callB call_isi (by rfl) T.isi PyProof.Rows.boot_isinstance (pa_cons (pv 0) (pa_cons (pe_bltn (v := .ty "tuple") (by rfl) T.tuple (by decide +kernel) rfl) pa_nil)))
    (pe_and (pe_call G1 hr (by rfl) m1 k1 b1 .nil pass0 (pa_cons (pv 0) pa_nil)) (pe_one (pe_cmpR (op_eqD hr.units) (pv 0) (pe_call G2 hr (by rfl) m2 k2 b2 .nil pass0 (pa_cons (pv 0) pa_nil)) (nomark _)))))), ?_⟩
  have cases' : (∃ t : String, TyX K H x (.type t) ∧ PySem.W.kitOne K (.type t) (.type "tuple") = some false ∧ worldD d = false) ∨ ∃ ds, d = .tuple ds := by
    have ty := tyx_dp hx
    cases d with
    | none => exact .inl ⟨"NoneType", ty, kit_ty (by decide +kernel), rfl⟩
    | bool _ => exact absurd odd id
    | dict _ => exact absurd odd id
    | int i => exact .inl ⟨"int", ty, kit_ty (by decide +kernel), rfl⟩
    | list ds => exact .inl ⟨"list", ty, kit_ty (by decide +kernel), rfl⟩
    | str z => exact .inl ⟨"str", ty, kit_ty (by decide +kernel), rfl⟩
    | tuple ds => exact .inr ⟨ds, rfl⟩
  rcases cases' with ⟨t, h1, h2, h3⟩ | ⟨ds, rfl⟩
  · refine ⟨x, rfl, x, .ty "tuple", .type t, .type "tuple", false, rfl, .ty "tuple", h1, h2, false, rfl, iteF ?_⟩
    have := q H fun _ _ e => e
    rw [h3] at this
    exact this
  obtain ⟨o1, o2⟩ := odd
  cases hx with
  | @tup a xs _ hS hxs =>
    refine ⟨.ref a, rfl, .ref a, .ty "tuple", .type "tuple", .type "tuple", true, rfl, .ty "tuple", tyx_tup hS, kit_ty (by decide +kernel), true, rfl, iteT ?_⟩
    refine ⟨.ref a, rfl, a, xs, ds, rfl, hS, hxs, o1, by omega, fun H1 s1 => ⟨_, rfl, ?_⟩⟩
    have val : ∀ b, ds.all nameD = b → worldD (.tuple ds) = (b && decide (UpX (ds.map strOf))) := fun b e => by
      rw [← e]
      rfl
    refine ite2 (fun c => ?_) (fun c => ?_)
    · rw [val _ c] at q
      obtain ⟨e, hn⟩ := strs_of c
      have ex : xs = (ds.map strOf).map V.str := dps_str (K := K) (H := H) (by rw [← e]; exact hxs)
      rw [ex] at hS
      refine ⟨.ref a, rfl, .ref a, rfl, a, ds.map strOf, rfl, .inr (same_tup s1 hS), by rw [List.length_map]; omega, fun H2 p zs s2 hp hu hm => ?_⟩
      have hz : ∀ x ∈ zs, nameB x = true := fun x hx => hn x ((hm x).mp hx)
      refine ⟨wd (ds.map strOf), wd zs, to_wd (same_tup (s1.trans s2) hS), to_wd (SqT.of hp), shaped_names hn, shaped_names hz, ?_⟩
      rw [eqv_wd]
      have ed : decide (ds.map strOf = zs) = decide (UpX (ds.map strOf)) := by
        by_cases u : UpX (ds.map strOf)
        · rw [decide_eq_true u, decide_eq_true (upX_one u hu fun z => (hm z).symm)]
        · rw [decide_eq_false u, decide_eq_false fun z => u (by rw [z]; exact hu)]
      rw [ed]
      exact q H2 (s1.trans s2)
    · rw [val false (by simpa using c)] at q
      exact q H1 s1
/-! ### is_rule -/
def spIsRule (K : PySem.W.Frag) : Sp := fun vs H Q _ => ∃ (x : V) (r : Rl), vs = [x] ∧ Dp K H x (rd r) ∧ IsR r ∧ ∀ H', Same H H' → Q (.bl true) H'
theorem ok_isRule {f1 : Addr} {fd1 : FuncData} (F : Fun K "is_rule" "is_rule" sIsRule f fd) (T : Bl mg) (G1 : FnOk P w K mg base CX0 k f1 fd1 ["thing"] (spIsWorld K)) (b1 : Binds K fd1 ["thing"] []) (k1 : PySem.W.keepIn K (.ref f1) = true) (m1 : mg "is_world" = some (.ref f1)) :
    FnOk P w K mg base CX0 (k + 1) f fd ["thing"] (spIsRule K) := by
  refine F.ok scIsRule (fun vs H Q E h => ?_) (fun cdv A outer s H vs Q E hr h => ?_)
  · obtain ⟨x, r, rfl, _⟩ := h
    rfl
  obtain ⟨x, r, rfl, hx, hr', q⟩ := h
  refine ⟨_, pss_one (ps_ret (pe_and (pe_callB call_isi (by rfl) T.isi PyProof.Rows.boot_isinstance (pa_cons (pv 0) (pa_cons (pe_bltn (v := .ty "tuple") (by rfl) T.tuple (by decide +kernel) rfl) pa_nil)))
    (pe_and (pe_cmpR op_eq (pe_callB call_len_seq (by rfl) T.len PySem.boot_len (pa_cons (pv 0) pa_nil)) pe_int (nomark _)) (pe_one (pe_callB (cr_all rfl) (by rfl) T.all (by decide +kernel) (pa_cons (pe_lc (own := [("part", 1)]) (g := gName 1) (by rfl) scIsRule.nd (pi_tup (pv 0)) (blkOk_by (N := ["thing", "part"]) (sc := defScope sIsRule) (by decide +kernel))
        (fun _ _ _ _ _ => pg_name (i := 1) scIsRule.nd rfl (Or.inl rfl)) (fun _ _ _ _ _ => pts_nil) (fun _ _ _ _ _ => pe_call G1 hr (by rfl) m1 k1 b1 .nil pass0 (pa_cons (pv 1) pa_nil))) pa_nil)))))), ?_⟩
  unfold rd at hx
  cases hx with
  | @tup a xs _ hS hxs =>
    have xl : xs.length = 4 := by
      rw [dpAll_len hxs, List.length_map]
      rfl
    refine ⟨.ref a, rfl, .ref a, .ty "tuple", .type "tuple", .type "tuple", true, rfl, .ty "tuple", tyx_tup hS, kit_ty (by decide +kernel), true, rfl, iteT ?_⟩
    refine ⟨.ref a, rfl, a, xs, rfl, .inr hS, rfl, true, congrArg V.bl (decide_eq_true (by rw [xl]; rfl)), iteT ?_⟩
    refine ⟨.ref a, rfl, a, rfl, ⟨_, hS⟩, fun D hD => ?_⟩
    refine lc_tup (xs := xs) (fun i H1 => Same H H1 ∧ H1 D = some (.lst (List.replicate i (V.bl true)))) ⟨same_new hD _, upd_same⟩ (fun i H1 _ hI => same_tup hI.1 hS) (fun i x H1 hxi hI => ?_) (fun H1 hI => ?_)
    · obtain ⟨sm, hd⟩ := hI
      obtain ⟨d, hdi, hxd⟩ := dpAll_at' hxs hxi
      obtain ⟨t, ht, rfl⟩ := map_at hdi
      have wt := hr'.all t (List.mem_of_getElem? ht)
      have il : i < (parts r).length := (List.getElem?_eq_some_iff.mp ht).1
      have il' : i < 4 := il
      refine ⟨rfl, x, rfl, x, wd t, rfl, (Stay.same sm).wd hxd, oddW_wd wt, fun H2 sm2 => ?_⟩
      rw [worldD_wd wt]
      refine ⟨_, sm2 _ _ hd, small_line' (by rw [List.length_replicate]; omega), same_put (sm.trans sm2) hD, ?_⟩
      rw [upd_same, show List.replicate (i + 1) (V.bl true) = List.replicate i (V.bl true) ++ [V.bl true] from List.replicate_succ']
    · obtain ⟨sm, hd⟩ := hI
      refine ⟨D, List.replicate xs.length true, rfl, SqL.of (by rw [List.map_replicate]; exact hd), ?_⟩
      have z : (List.replicate xs.length true).all id = true := by simp
      rw [z]
      exact q H1 sm
end
end Rw
namespace Rw
open PySem PySem.Spec PyProof.Rows L2
/-! ### programs -/
/-- an instance of the class at C whose rules are S -/
def PgAt (K : PySem.W.Frag) (C : Addr) (H : Hp) (v : V) (S : List Rl) : Prop := ∃ a dx t ys, v = .ref a ∧ H a = some (.ins C dx [(("_rules" : Str), .ref t)]) ∧ SqT K H t ys ∧ DpAll K H ys (S.map rd)
theorem PgAt.same {K : PySem.W.Frag} {C : Addr} {H H' : Hp} {v : V} {S : List Rl} (h : PgAt K C H v S) (e : Same H H') : PgAt K C H' v S := by
  obtain ⟨a, dx, t, ys, h1, h2, h3, h4⟩ := h
  exact ⟨a, dx, t, ys, h1, e _ _ h2, same_tup e h3, dpAll_same e _ _ h4⟩
theorem mut_ins {H : Hp} {p C dx : Addr} {fs : List (Str × V)} (h : H p = some (.ins C dx fs)) : Mut (H p) := by
  rw [h]
  exact True.intro
section
variable {P : Program} {w : World} {K : PySem.W.Frag} {mg : Str → Option Value} {base : Heap} {f : Addr} {fd : FuncData} {k : Nat}
/-- Program.__init__(self, *rules) -/
def spInit (K : PySem.W.Frag) (C : Addr) : Sp := fun vs H Q _ => ∃ (x dx : Addr) (xs : List V) (L : List Rl), vs = .ref x :: xs ∧ H x = some (.ins C dx []) ∧ DpAll K H xs (L.map rd) ∧ (∀ r ∈ L, IsR r) ∧ L.length < 76 ∧
  ∀ H' S, (∀ b u, b ≠ x → H b = some u → H' b = some u) → Srt S L → S.length < 76 → PgAt K C H' (.ref x) S → Q .non H'
theorem ok_init {C f1 : Addr} {fd1 : FuncData} {name qual : Str} {kV doc pm cdv ct oc : Value} {an od : Option Addr} {osl : Array (Option Value)}
    (lk : K.lookup f = some ⟨oc, od, .func (PySem.W.fnOf name qual (defArgs sInit) (defBody sInit) (defScope sInit) .none kV doc pm an cdv ct), osl⟩) (hcd : PySem.W.codeIn K cdv qual = true) (T : Bl mg) (c : Cls K C) (n : NoAttr K C "_rules")
    (G1 : FnOk P w K mg base CX0 k f1 fd1 ["thing"] (spIsRule K)) (b1 : Binds K fd1 ["thing"] []) (k1 : PySem.W.keepIn K (.ref f1) = true) (m1 : mg "is_rule" = some (.ref f1)) : FnR P w K mg base CX0 (k + 1) f (spInit K C) := by
  have main := StX.fn_star (CX := CX0) (P := P) (w := w) (mg := mg) (base := base) (k := k) (N := ["self", "rules", "place", "row"]) (ps := ["self"]) (pv := "rules") (sp := fun vs H Q E => ∃ (x p dx : Addr) (xs : List V) (L : List Rl), vs = [.ref x, .ref p] ∧ H x = some (.ins C dx []) ∧ SqT K H p xs ∧ DpAll K H xs (L.map rd) ∧ (∀ r ∈ L, IsR r) ∧ L.length < 76 ∧
      ∀ H' S, (∀ b u, b ≠ x → H b = some u → H' b = some u) → Srt S L → S.length < 76 → PgAt K C H' (.ref x) S → Q .non H') lk hcd scInit StX.cxUp_none (StX.bind_star1 (p1 := "self") (pv := "rules") (B := fun vs => bindArgs (PySem.W.fnOf name qual (defArgs sInit) (defBody sInit) (defScope sInit) .none kV doc pm an cdv ct) { pos := vs }) (fun _ => by first | rfl | with_unfolding_all rfl) (fun _ _ _ => by first | rfl | with_unfolding_all rfl)) (fun A outer s H vs Q E hr h => ?_)
  · intro A outer s H us vs Q E hr e0 r h
    refine main A outer s H us vs Q E hr e0 r ?_
    obtain ⟨x, dx, xs, L, rfl, hx, hxs, hL, few, q⟩ := h
    refine ⟨[.ref x], xs, rfl, rfl, small_line (by rw [dpAll_len hxs, List.length_map]; omega), fun p hp => ?_⟩
    have sp := same_new hp (.tup xs)
    exact ⟨x, p, dx, xs, L, rfl, sp _ _ hx, SqT.of upd_same, dpAll_same sp _ _ hxs, hL, few, fun H' S hb hs hl hg => q H' S (fun b u nb e => hb b u nb (sp _ _ e)) hs hl hg⟩
  obtain ⟨x, p, dx, xs, L, rfl, hx, hp, hxs, hL, few, q⟩ := h
  have xl : xs.length = L.length := by rw [dpAll_len hxs, List.length_map]
  refine ⟨_, PSs.nox (pss_cons (ps_for PassesOwn.never rfl (pi_enumT (by rfl) T.enum (pa_cons (pv 1) pa_nil)) (pg_tup (by rfl) (pgs_cons (pg_name (i := 2) scInit.nd rfl (.inl rfl)) (pgs_cons (pg_name (i := 3) scInit.nd rfl (.inl rfl)) pgs_nil)))
      (pss_one (ps_if (pt_not (pt_val (pe_call G1 hr (by rfl) m1 k1 b1 .nil pass0 (pa_cons (pv 3) pa_nil)))) pss_never pss_nil)))
    (pss_one (ps_fld (pv 0) (pe_callTy call_tuple_of (by rfl) T.tuple (by decide +kernel) (pa_cons (pe_callB (cr_sortR rfl hr.units) (by rfl) T.sorted (by decide +kernel) (pa_cons (pe_callTy (cr_setR rfl hr.units) (by rfl) T.set (by decide +kernel) (pa_cons (pv 1) pa_nil)) pa_nil)) pa_nil)) rfl))), ?_⟩
  refine ⟨.ref p, rfl, p, xs, rfl, hp, for_enumT (xs := xs) (fun i σ H1 => (∃ y2 y3, σ = [some (.ref x), some (.ref p), y2, y3]) ∧ Same H H1) ⟨⟨none, none, rfl⟩, fun _ _ e => e⟩ (fun i σ H1 _ hI => same_tup hI.2 hp) (fun i v σ H1 T0 hv hI hT => ?_) (fun σ H1 hI => ?_)⟩
  · obtain ⟨⟨y2, y3, rfl⟩, sm⟩ := hI
    obtain ⟨d, hd, hvd⟩ := dpAll_at' hxs hv
    obtain ⟨r, hr', rfl⟩ := map_at hd
    have st := same_new hT (.tup [.int (i : Int), v])
    refine ⟨T0, [.int (i : Int), v], rfl, SqT.of upd_same, rfl, .int (i : Int), [v], rfl, v, [], rfl, rfl, ?_⟩
    refine ⟨v, rfl, v, r, rfl, dp_same (sm.trans st) _ _ hvd, hL r (List.mem_of_getElem? hr'), fun H2 s2 => ⟨true, rfl, iteF ⟨⟨_, _, rfl⟩, sm.trans (st.trans s2)⟩⟩⟩
  · obtain ⟨⟨y2, y3, rfl⟩, sm⟩ := hI
    refine ⟨.ref p, rfl, p, xs, L, rfl, .inr (same_tup sm hp), dpAll_same sm _ _ hxs, few, fun a M ha hM isP hall => ?_⟩
    have sa := same_new ha (TSetO w a M)
    refine ⟨a, M, L, rfl, upd_same, (fun e he => ⟨(hM e he).1, (Stay.same sa).dp _ _ (hM e he).1.ok (hM e he).2⟩), isP, hall, fun ys S l hS hSl hys hl => ?_⟩
    have sl := same_new hl (.lst ys)
    refine ⟨l, ys, rfl, .inl ⟨SqL.of upd_same, fun t ht => ?_⟩⟩
    have st := same_new ht (.tup ys)
    have all := sm.trans (sa.trans (sl.trans st))
    refine ⟨.ref x, rfl, x, C, dx, _, rfl, all _ _ hx, c, n, by show 0 < 1000; decide, ?_⟩
    have hx' := all _ _ hx
    have stp := Stay.put (mut_ins hx') (.ins C dx [(("_rules" : Str), .ref t)])
    refine q _ S (fun b u nb e => ?_) hS hSl ⟨x, dx, t, ys, rfl, upd_same, stp.seq (SqT.of upd_same), (Stay.same st |>.trans stp).dpAll _ _ (okDs_rd S) ((Stay.same sl).dpAll _ _ (okDs_rd S) hys)⟩
    rw [upd_ne nb]
    exact all _ _ e
/-- a program made: where the class is called with the rules L -/
theorem made_ok {C : Addr} {H : Hp} {xs : List V} {L : List Rl} {Q : VK} {E : XK} (hx : DpAll K H xs (L.map rd)) (hL : ∀ r ∈ L, IsR r) (few : L.length < 76) (q : ∀ H' v S, Same H H' → Srt S L → S.length < 76 → PgAt K C H' v S → Q v H') :
    ∀ x dx, H x = none → H dx = none → dx ≠ x → spInit K C (.ref x :: xs) (upd (upd H dx (.own x)) x (.ins C dx [])) (fun v H2 => v = .non ∧ Q (.ref x) H2) E := fun x dx hx0 hd0 ne => by
  have s1 := same_new hd0 (.own x)
  have hx1 : (upd H dx (.own x)) x = none := by
    rw [upd_ne ne.symm]
    exact hx0
  have s2 := s1.trans (same_new hx1 (.ins C dx []))
  refine ⟨x, dx, xs, L, rfl, upd_same, (Stay.same s2).dpAll _ _ (okDs_rd L) hx, hL, few, fun H' S hb hS hl hg => ⟨rfl, q H' _ S (fun b u e => ?_) hS hl hg⟩⟩
  exact hb b u (ne_of_none e hx0) (s2 _ _ e)
/-- Program.of(cls, rules) -/
def spOf (K : PySem.W.Frag) (C : Addr) : Sp := fun vs H Q _ => ∃ (l : Addr) (xs : List V) (L : List Rl), vs = [.ref C, .ref l] ∧ (SqT K H l xs ∨ SqL K H l xs) ∧ DpAll K H xs (L.map rd) ∧ (∀ r ∈ L, IsR r) ∧ L.length < 76 ∧ ∀ H' v S, Same H H' → Srt S L → S.length < 76 → PgAt K C H' v S → Q v H'
theorem ok_of {C f1 : Addr} (F : Fun K "of" "Program.of" sOf f fd) (M : Mk K C f1) (G : FnR P w K mg base CX0 k f1 (spInit K C)) : FnOk P w K mg base CX0 (k + 2) f fd ["cls", "rules"] (spOf K C) := by
  refine F.ok scOf (fun vs H Q E h => ?_) (fun cdv A outer s H vs Q E hr h => ?_)
  · obtain ⟨l, xs, L, rfl, _⟩ := h
    rfl
  obtain ⟨l, xs, L, rfl, hS, hx, hL, few, q⟩ := h
  refine ⟨_, pss_one (ps_ret (pe_makeSL (i := 0) M G hr rfl (.inl rfl) pass0 (pv 1))), ?_⟩
  exact ⟨rfl, .ref l, rfl, l, xs, rfl, hS, made_ok hx hL few q⟩
/-- program.rules -/
def spRules (K : PySem.W.Frag) (C : Addr) : Sp := fun vs H Q _ => ∃ (v : V) (S : List Rl), vs = [v] ∧ PgAt K C H v S ∧ ∀ t ys, SqT K H t ys → DpAll K H ys (S.map rd) → Q (.ref t) H
theorem ok_rules {C : Addr} (F : Fun K "rules" "Program.rules" sRules f fd) (c : Cls K C) (n : NoAttr K C "_rules") : FnOk P w K mg base CX0 (k + 1) f fd ["self"] (spRules K C) := by
  refine F.ok scRules (fun vs H Q E h => ?_) (fun cdv A outer s H vs Q E hr h => ?_)
  · obtain ⟨v, S, rfl, _⟩ := h
    rfl
  obtain ⟨v, S, rfl, ⟨a, dx, t, ys, rfl, h1, h2, h3⟩, q⟩ := h
  refine ⟨_, pss_one (ps_ret (pe_fld (pv 0) rfl)), ?_⟩
  exact ⟨.ref a, rfl, a, C, dx, _, .ref t, rfl, h1, c, n, rfl, q t ys h2 h3⟩
end
end Rw
namespace Rw
open PySem PySem.Spec PyProof.Rows L2 PySem.Froz
/-! ### comprehensions of any depth: one level of their loops -/
def turnOf (tg : Expr) (ifs : List Expr) (pos : Pos) (it : Value) (env : Env) (bk : Sem PySem.Fin) (c : Code) : Sem PySem.Fin := do
  standAt pos
  let r ← pyNext it
  match r with
  | none => pure (PySem.Fin.done Flow.next)
  | some v => do
    letOwnedTupleGo tg it v
    assign tg env v
    let ok ← forIn ifs true fun c r => if r = true then do let ok ← PySem.isTrue c env (eval c env); pure (ForInStep.yield ok) else pure (ForInStep.yield r)
    if ok = true then bk else again c
def Le (σ σ' : L2.St) : Prop := σ.length = σ'.length ∧ ∀ (i : Nat) (v : V), σ[i]? = some (some v) → σ'[i]? = some (some v)
theorem Le.refl (σ : L2.St) : Le σ σ := ⟨rfl, fun _ _ e => e⟩
theorem Le.trans {a b c : L2.St} (h : Le a b) (g : Le b c) : Le a c := ⟨h.1.trans g.1, fun i v e => g.2 i v (h.2 i v e)⟩
theorem Le.wipe (σ : L2.St) (vs : List Nat) : Le (wipe σ vs) σ := ⟨wipe_length σ vs, fun i v e => (wipe_some e).1⟩
theorem Le.wipes {σ : L2.St} {vs vs1 : List Nat} (h : ∀ i ∈ vs1, i ∈ vs) : Le (L2.wipe σ vs) (L2.wipe σ vs1) := ⟨(wipe_length σ vs).trans (wipe_length σ vs1).symm, fun i v e => by
  obtain ⟨h1, h2⟩ := wipe_some e
  rw [wipe_out fun z => h2 (h i z)]
  exact h1⟩
theorem loop_lvl {Y : Cx} {elt : Expr} {gens : List Comprehension} {scope : Scope} {ep : Pos} {d : Nat} {tg : Expr} {ifs : List Expr} {pos : Pos} {it : Addr} {acc : Value} {bk : Sem PySem.Fin} {fp : List Addr} {tn : Nat → Heap → Prop} {J : It} {pins : List (Addr × Obj)} {σ0 : L2.St} {g : TG} {tt : TT} {B : L2.St → Hp → (Hp → Prop) → Prop} {C : L2.St → Prop} {R : Result → Shared → Prop} {N : Hp → Prop} {W : Nat → Nat → Hp → Prop}
    (hc : Y.calm = true) (hxe : ∀ e s, ¬ Y.xe e s) (hT : compTurn (.SetComp elt gens scope ep) d (.ref it) acc Y.env = turnOf tg ifs pos (.ref it) Y.env bk (.compLoop (.SetComp elt gens scope ep) d (.ref it) acc Y.env)) (T : Turn Y.prog Y.w Y.K tg J fp it tn) (hg : PG Y tg g) (ht : PTs Y ifs tt)
    (hb : ∀ pl s σ H (Nx : Hp → Prop) (Q : PySem.Fin → Shared → Prop) (E : Value → Shared → Prop), L2.Inv Y (pins ++ pl) σ H s → C σ → B σ H Nx → (∀ σ' H' s', L2.Inv Y (pins ++ pl) σ' H' s' → Le σ0 σ' → Nx H' → Q (.again (.compLoop (.SetComp elt gens scope ep) d (.ref it) acc Y.env)) s') → wpAny (model Y.prog Y.w) Y.A bk Q E s)
    (hC : ∀ σ, C σ → Le σ0 σ)
    (turn : ∀ i m H, W i m H → (J.stop i H ∧ N H) ∨ (J.go i H ∧ ∃ Nx : Hp → Prop, (∀ H', Nx H' → ∃ m', m' < m ∧ W (i + 1) m' H') ∧ ∀ x H', J.yld i H x H' → g x σ0 H' fun σ2 H2 => C σ2 ∧ tt σ2 H2 fun b H3 => if b = true then B σ2 H3 Nx else Nx H3))
    (hR : ∀ s' H', L2.Inv Y pins σ0 H' s' → N H' → R (.ok .next) s') :
    ∀ (n i : Nat) (H : Hp) (s : Shared), L2.Inv Y pins σ0 H s → tn i s.heap → (∀ b ∈ fp, FpOk Y pins H b) → W i n H → codeAny (model Y.prog Y.w) Y.A (.compLoop (.SetComp elt gens scope ep) d (.ref it) acc Y.env) R s := by
  intro n i H s I0 t0 f0 w0
  refine codeAny_loop (c := .compLoop (.SetComp elt gens scope ep) d (.ref it) acc Y.env) rfl (fun n s' => ∃ i H', L2.Inv Y pins σ0 H' s' ∧ tn i s'.heap ∧ (∀ b ∈ fp, FpOk Y pins H' b) ∧ W i n H') (fun n s5 ⟨i, H5, I5, st5, n5, w5⟩ => ?_) n ⟨i, H, I0, t0, f0, w0⟩
  show wpAny (model Y.prog Y.w) Y.A (Sem.onRaise (compTurn (.SetComp elt gens scope ep) d (.ref it) acc Y.env) fun x => do noteFrame x Y.env; theTreesLotGoes x) _ _ s5
  refine wpAny_noted ?_
  rw [hT]
  unfold turnOf
  refine wpAny_bind (wpAny_standAt (wpAny_bind ?_))
  rcases turn i n H5 w5 with ⟨stop, qq⟩ | ⟨go, Nx, hNx, step⟩
  · refine thnF (T.done Y rfl rfl rfl hc i pins s5 σ0 H5 (fun _ _ => False) I5 n5 st5 stop) fun r s6 ⟨hr, I6⟩ => ?_
    subst hr
    exact wpAny_pure (hR s6 H5 I6 qq)
  · refine thnF (T.item Y rfl rfl rfl hc i pins s5 σ0 H5 (fun _ _ => False) I5 n5 st5 go) fun r s6 ⟨u, hr, h6⟩ => ?_
    subst hr
    refine wpAny_bind (thnF h6 fun _ s7 ⟨x, H7, I7, r7, y7, st7, n7⟩ => ?_)
    have fp7 : ∀ b ∈ fp, FpOk Y pins H7 b := fun b hb => ⟨n7 b hb, (n5 b hb).2⟩
    have I7' := Inv.pinned I7 fp7 (T.obj (i + 1) s7.heap st7)
    refine wpAny_bind (wpAny_mono (hg.run (pins ++ pinsAt fp s7.heap) s7 σ0 H7 x u _ I7' r7 (step x H7 y7)) (fun _ s8 ⟨σ8, H8, I8, hw8, q8⟩ => ?_) fun e s z => (hxe e s z).elim)
    have fin : ∀ {s' : Shared} {H' : Hp} {σ' : L2.St}, L2.Inv Y (pins ++ pinsAt fp s7.heap) σ' H' s' → Le σ0 σ' → Nx H' → ∃ m, m < n ∧ ∃ i H', L2.Inv Y pins σ0 H' s' ∧ tn i s'.heap ∧ (∀ b ∈ fp, FpOk Y pins H' b) ∧ W i m H' := fun {s' H' σ'} I' le nx => by
      obtain ⟨m', hm, w'⟩ := hNx H' nx
      have pin' : ∀ b ∈ fp, ∀ o, s7.heap.get? b = some o → s'.heap.get? b = some o ∧ H' b = none := fun b hb o e => by
        have z := I'.pin (b, o) (List.mem_append_right Y.pn (List.mem_append_right pins (mem_pinsAt hb e)))
        exact ⟨z.1, z.2.1⟩
      refine ⟨m', hm, i + 1, H', Inv.weak (Inv.unpinned I') le.1 le.2, T.keep (i + 1) s7.heap s'.heap st7 fun b hb o e => (pin' b hb o e).1, fun b hb => ?_, w'⟩
      obtain ⟨o, e, _⟩ := T.obj (i + 1) s7.heap st7 b hb
      exact ⟨(pin' b hb o e).2, (n5 b hb).2⟩
    refine wpAny_bind (wpAny_mono (ht.run _ s8 σ8 H8 _ I8 q8) (fun b s9 ⟨H9, I9, q9⟩ => ?_) fun e s z => (hxe e s z).elim)
    cases b with
    | false =>
      have q9' : Nx H9 := q9
      exact wpAny_pure ⟨rfl, fin I9 (hC σ8 hw8) q9'⟩
    | true =>
      have q9' : B σ8 H9 Nx := q9
      exact hb (pinsAt fp s7.heap) s9 σ8 H9 Nx _ _ I9 hw8 q9' fun σ' H' s' I' le nx => ⟨rfl, fin I' le nx⟩
/-- the start of a level -/
theorem start_lvl {P : Program} {w : World} {A : Around} {R : Result → Shared → Prop} {s : Shared} {elt : Expr} {gens : List Comprehension} {scope : Scope} {ep : Pos} {d : Nat} {t i : Expr} {ifs : List Expr} {it acc : Value} {env : Env} (hcl : gens[d]? = some ⟨t, i, ifs, 0⟩)
    (h0 : codeAny (model P w) A (.compLoop (.SetComp elt gens scope ep) d it acc env) R s) (h : wpAny (model P w) A (pyIter it) (fun it' s' => codeAny (model P w) A (.compLoop (.SetComp elt gens scope ep) d it' acc env) R s') (notedBy (model P w) A env fun x s' => R (.error x) s') s) :
    codeAny (model P w) A (.compStart (.SetComp elt gens scope ep) d it acc env) R s := by
  refine codeAny_of_tree ?_
  show wpAny (model P w) A (Sem.onRaise (compStart (.SetComp elt gens scope ep) d it acc env) fun x => do noteFrame x env; standAt theWindowsPlace) _ _ s
  refine wpAny_notedAt ?_
  unfold compStart
  rw [show (clausesOf (.SetComp elt gens scope ep))[d]? = some ⟨t, i, ifs, 0⟩ from hcl]
  show wpAny (model P w) A (ask >>= _) _ _ s
  refine wpAny_bind (wpAny_askSetting ?_)
  split
  · exact wpAny_pure ⟨rfl, h0⟩
  · refine wpAny_bind (wpAny_rule ?_)
    refine wpAny_bind (wpAny_standAt (wpAny_bind (wpAny_mono h (fun it' s' h' => wpAny_pure ⟨rfl, h'⟩) fun _ _ z => z)))
/-! ### a set of texts, one more put in -/
theorem addX_ok {X : Cx} {pins : List (Addr × Obj)} {σ : L2.St} {H : Hp} {s : Shared} {E : Value → Shared → Prop} {D : Addr} {ms : List Str} {z : Str} {u : Tok} {Q : Value → Shared → Prop} (I : L2.Inv X pins σ H s) (hD : H D = some (XSetO X.prog X.w D ms)) (room : ms.length + 1 < scanBound)
    (h : ∀ s' ms', ms'.Nodup → (∀ y, y ∈ ms' ↔ y = z ∨ y ∈ ms) → ms'.length ≤ ms.length + 1 → L2.Inv X pins σ (upd H D (XSetO X.prog X.w D ms')) s' → Q .none s') : wpAny (model X.prog X.w) X.A (call (.builtin "set.add") [.ref D, .str z u]) Q E s := by
  obtain ⟨es, ep, t, R⟩ := (I.hok D _ hD).1
  refine wpAny_call_entry PySem.F.slot_set_add ⟨_, R.ob, rfl⟩ PySem.F.entry_set_add ?_ (PySem.F.args_set_add_2 _ _)
  unfold Builtin.«set.add»
  show wpAny _ _ (Builtin.Frozenset.oneOther "add" _ >>= _) _ _ _
  unfold Builtin.Frozenset.oneOther
  refine wpAny_bind (wpAny_bind (wpAny_pure (wpAny_bind (wpAny_pure (wpAny_pure ?_)))))
  unfold setAdd
  refine wpAny_bind (wpAny_holding (wpAny_bind ((strKind X.prog X.w).pyHash (k := z) (is_str _ _) ?_)))
  refine put_text (s := { s with toks := s.toks + 1 }) R room fun b h' ms' es' ep' t' sb R' hm hl' => ?_
  refine wpAny_pure ⟨.none, rfl, h _ ms' R'.nd hm hl' ?_⟩
  exact Inv.write (I.tok (s.toks + 1)) (by rw [hD]; exact True.intro) (Or.inl rfl) (fun b u hb hu => (sb.2 b hb).trans hu) ⟨_, R'.ob⟩ ⟨⟨es', ep', t', R'⟩, ⟨_, R'.ob⟩, fun h1 h2 ⟨a1, a2, a3, a4⟩ kk => ⟨a1, a2, a3, a4.moved kk⟩⟩
/-! ### {e for x in a for y in b for z in c}, of texts -/
def lvlR (wi : TI) (g : TG) (vs : List Nat) (B : L2.St → Hp → (Hp → Prop) → Prop) : L2.St → Hp → (Hp → Prop) → Prop := fun σ H N => wi σ H fun J H1 => ∃ W : Nat → Nat → Hp → Prop, (∃ m, W 0 m H1) ∧
  ∀ i m H, W i m H → (J.stop i H ∧ N H) ∨ (J.go i H ∧ ∃ Nx : Hp → Prop, (∀ H', Nx H' → ∃ m', m' < m ∧ W (i + 1) m' H') ∧ ∀ x H', J.yld i H x H' → g x (wipe σ vs) H' fun σ2 H2 => wipe σ2 vs = wipe σ vs ∧ B σ2 H2 Nx)
def lastR (P : Program) (w : World) (D : Addr) (te : TE) : L2.St → Hp → (Hp → Prop) → Prop := fun σ H N => te σ H fun y H1 => ∃ z ms, y = .str z ∧ H1 D = some (XSetO P w D ms) ∧ ms.length + 1 < scanBound ∧ ∀ ms', ms'.Nodup → (∀ u, u ∈ ms' ↔ u = z ∨ u ∈ ms) → ms'.length ≤ ms.length + 1 → N (upd H1 D (XSetO P w D ms'))
def tSc3 (P : Program) (w : World) (wi0 wi1 wi2 : TI) (g0 g1 g2 : TG) (te : TE) (vs vs1 vs2 : List Nat) : TE := fun σ H Q => wi0 σ H fun J H1 => ∀ D, H1 D = none → ∃ W : Nat → Nat → Hp → Prop, (∃ m, W 0 m (upd H1 D (XSetO P w D []))) ∧
  ∀ i m H, W i m H → (J.stop i H ∧ Q (.ref D) H) ∨ (J.go i H ∧ ∃ Nx : Hp → Prop, (∀ H', Nx H' → ∃ m', m' < m ∧ W (i + 1) m' H') ∧ ∀ x H', J.yld i H x H' → g0 x (wipe σ vs) H' fun σ2 H2 => wipe σ2 vs = wipe σ vs ∧ lvlR wi1 g1 vs1 (lvlR wi2 g2 vs2 (lastR P w D te)) σ2 H2 Nx)
section
variable {elt t0 i0 t1 i1 t2 i2 : Expr} {scope : Scope} {ep : Pos}
abbrev gens3 (t0 i0 t1 i1 t2 i2 : Expr) : List Comprehension := [⟨t0, i0, [], 0⟩, ⟨t1, i1, [], 0⟩, ⟨t2, i2, [], 0⟩]
def bkIn (i1 : Expr) (e : Expr) (d : Nat) (acc : Value) (env : Env) (c : Code) : Sem PySem.Fin := do
  let x ← eval i1 env
  standAt i1.pos
  let x ← foldedSetIterable i1 env x
  let it ← holding [x] (pyIter x)
  let _ ← runOwn (.compStart e (d + 1) it acc env) env
  again c
def bkLast (elt : Expr) (acc : Value) (env : Env) (c : Code) : Sem PySem.Fin := do
  let _ ← (do let v ← eval elt env; standAt elt.pos; let _ ← call (.builtin "set.add") [acc, v]; pure () : Sem Unit)
  again c
theorem turn3_0 (it acc : Value) (env : Env) : compTurn (.SetComp elt (gens3 t0 i0 t1 i1 t2 i2) scope ep) 0 it acc env = turnOf t0 [] i0.pos it env (bkIn i1 (.SetComp elt (gens3 t0 i0 t1 i1 t2 i2) scope ep) 0 acc env (.compLoop (.SetComp elt (gens3 t0 i0 t1 i1 t2 i2) scope ep) 0 it acc env)) (.compLoop (.SetComp elt (gens3 t0 i0 t1 i1 t2 i2) scope ep) 0 it acc env) := rfl
theorem turn3_1 (it acc : Value) (env : Env) : compTurn (.SetComp elt (gens3 t0 i0 t1 i1 t2 i2) scope ep) 1 it acc env = turnOf t1 [] i1.pos it env (bkIn i2 (.SetComp elt (gens3 t0 i0 t1 i1 t2 i2) scope ep) 1 acc env (.compLoop (.SetComp elt (gens3 t0 i0 t1 i1 t2 i2) scope ep) 1 it acc env)) (.compLoop (.SetComp elt (gens3 t0 i0 t1 i1 t2 i2) scope ep) 1 it acc env) := rfl
theorem turn3_2 (it acc : Value) (env : Env) : compTurn (.SetComp elt (gens3 t0 i0 t1 i1 t2 i2) scope ep) 2 it acc env = turnOf t2 [] i2.pos it env (bkLast elt acc env (.compLoop (.SetComp elt (gens3 t0 i0 t1 i1 t2 i2) scope ep) 2 it acc env)) (.compLoop (.SetComp elt (gens3 t0 i0 t1 i1 t2 i2) scope ep) 2 it acc env) := rfl
theorem bk_step {Y : Cx} {elt : Expr} {gens : List Comprehension} {scope : Scope} {ep : Pos} {d : Nat} {tg iter : Expr} {acc : Value} {wi : TI} {g : TG} {vs : List Nat} {B : L2.St → Hp → (Hp → Prop) → Prop} {bkf : Value → Sem PySem.Fin} {D : L2.St → L2.St → Prop}
    (hc : Y.calm = true) (hxe : ∀ e s, ¬ Y.xe e s) (hgen : gens[d + 1]? = some ⟨tg, iter, [], 0⟩) (hs : ∀ x, foldedSetIterable iter Y.env x = pure x) (hi : PI Y tg iter wi) (hg : PG Y tg g)
    (hT : ∀ it, compTurn (.SetComp elt gens scope ep) (d + 1) it acc Y.env = turnOf tg [] iter.pos it Y.env (bkf it) (.compLoop (.SetComp elt gens scope ep) (d + 1) it acc Y.env))
    (hb : ∀ it pl s σ H (Nx : Hp → Prop) (Q : PySem.Fin → Shared → Prop) (E : Value → Shared → Prop), L2.Inv Y pl σ H s → B σ H Nx → (∀ σ' H' s', L2.Inv Y pl σ' H' s' → D σ σ' → Nx H' → Q (.again (.compLoop (.SetComp elt gens scope ep) (d + 1) it acc Y.env)) s') → wpAny (model Y.prog Y.w) Y.A (bkf it) Q E s)
    (hD : ∀ σ σ2 σ', wipe σ2 vs = wipe σ vs → D σ2 σ' → Le (wipe σ vs) σ') :
    ∀ pl s σ H (Nx : Hp → Prop) (Q : PySem.Fin → Shared → Prop) (E : Value → Shared → Prop) (c : Code), L2.Inv Y pl σ H s → lvlR wi g vs B σ H Nx → (∀ H' s', L2.Inv Y pl (wipe σ vs) H' s' → Nx H' → Q (.again c) s') → wpAny (model Y.prog Y.w) Y.A (bkIn iter (.SetComp elt gens scope ep) d acc Y.env c) Q E s := by
  intro pl s σ H Nx Q E c I hL hQ
  unfold bkIn
  refine wpAny_bind (wpAny_mono (hi.run pl s σ H _ I hL) (fun v s1 h1 => ?_) (fun e s z => (hxe e s z).elim))
  refine wpAny_bind (wpAny_standAt ?_)
  rw [hs v]
  refine wpAny_bind (wpAny_pure ?_)
  refine wpAny_bind (wpAny_holding (wpAny_mono h1 (fun itv s2 ⟨it, fp, tn, J, H2, e, I2, T, st2, f2, W, ⟨m, w0⟩, turn⟩ => ?_) (fun e s z => (hxe e s z).elim)))
  subst e
  have I2' : L2.Inv Y pl (wipe σ vs) H2 s2 := Inv.weak I2 (Le.wipe σ vs).1 (Le.wipe σ vs).2
  have loop : ∀ R : Result → Shared → Prop, (∀ s' H', L2.Inv Y pl (wipe σ vs) H' s' → Nx H' → R (.ok .next) s') → codeAny (model Y.prog Y.w) Y.A (.compLoop (.SetComp elt gens scope ep) (d + 1) (.ref it) acc Y.env) R s2 := fun R hR =>
    loop_lvl (Y := Y) (σ0 := wipe σ vs) (C := fun σ2 => wipe σ2 vs = wipe σ vs) (B := B) (tt := tYes) (W := W) (N := Nx) hc hxe (hT (.ref it)) T hg pts_nil
      (fun pl2 s σ2 H Nx2 Q E I hC hB hq => hb (.ref it) (pl ++ pl2) s σ2 H Nx2 Q E I hB fun σ' H' s' I' hd nx => hq σ' H' s' I' (hD σ σ2 σ' hC hd) nx)
      (fun σ2 hC => by have z := Le.wipe σ2 vs; rw [hC] at z; exact z) turn hR m 0 H2 s2 I2' st2 f2 w0
  refine wpAny_bind (wpAny_runOwn (h := none) (start_lvl hgen ?_ ?_))
  · exact loop _ fun s' H' I' nx => wpAny_pure (hQ H' s' I' nx)
  · exact T.self _ 0 s2 _ _ st2 (loop _ fun s' H' I' nx => wpAny_pure (hQ H' s' I' nx))
theorem last_step {Y : Cx} {elt : Expr} {D : Addr} {te : TE} (hxe : ∀ e s, ¬ Y.xe e s) (he : PE Y elt te) :
    ∀ pl s σ H (Nx : Hp → Prop) (Q : PySem.Fin → Shared → Prop) (E : Value → Shared → Prop) (c : Code), L2.Inv Y pl σ H s → lastR Y.prog Y.w D te σ H Nx → (∀ H' s', L2.Inv Y pl σ H' s' → Nx H' → Q (.again c) s') → wpAny (model Y.prog Y.w) Y.A (bkLast elt (.ref D) Y.env c) Q E s := by
  intro pl s σ H Nx Q E c I hL hQ
  unfold bkLast
  refine wpAny_bind (wpAny_bind (wpAny_mono (he.run pl s σ H _ I hL) (fun v s1 ⟨y, H1, I1, ry, z, ms, ey, hD, room, next⟩ => ?_) (fun e s z => (hxe e s z).elim)))
  subst ey
  obtain ⟨u, rfl⟩ := ry
  exact wpAny_bind (wpAny_standAt (wpAny_bind (addX_ok I1 hD room fun s' ms' nd hm hl I' => wpAny_pure (wpAny_pure (hQ _ s' I' (next ms' nd hm hl))))))
/-- a set comprehension of three clauses, of texts -/
theorem pe_sc3 {X : Cx} {own : List (Str × Nat)} {wi0 wi1 wi2 : TI} {g0 g1 g2 : TG} {te : TE} {vs1 vs2 : List Nat} (hc : X.calm = true) (hN : X.N.Nodup) (hi : PI X t0 i0 wi0) (ok : BlkOk X.N X.env.scope scope own) (hv1 : ∀ i ∈ vs1, i ∈ own.map (·.2)) (hv2 : ∀ i ∈ vs2, i ∈ vs1)
    (hg0 : ∀ s H C cl fp, PG (X.blk s H scope (compEnvC scope cl C X.env) fp) t0 g0) (hi1 : ∀ s H C cl fp, PI (X.blk s H scope (compEnvC scope cl C X.env) fp) t1 i1 wi1) (hg1 : ∀ s H C cl fp, PG (X.blk s H scope (compEnvC scope cl C X.env) fp) t1 g1)
    (hi2 : ∀ s H C cl fp, PI (X.blk s H scope (compEnvC scope cl C X.env) fp) t2 i2 wi2) (hg2 : ∀ s H C cl fp, PG (X.blk s H scope (compEnvC scope cl C X.env) fp) t2 g2) (he : ∀ s H C cl fp, PE (X.blk s H scope (compEnvC scope cl C X.env) fp) elt te)
    (hs : ∀ x, foldedSetIterable i0 X.env x = pure x := by intro x; rfl) (hs1 : ∀ env x, foldedSetIterable i1 env x = pure x := by intro env x; rfl) (hs2 : ∀ env x, foldedSetIterable i2 env x = pure x := by intro env x; rfl) :
    PE X (.SetComp elt (gens3 t0 i0 t1 i1 t2 i2) scope ep) (tSc3 X.prog X.w wi0 wi1 wi2 g0 g1 g2 te (own.map (·.2)) vs1 vs2) := by
  refine ⟨fun pins s σ H Q I h => ?_⟩
  rw [PpSet.eval_SetComp]
  have hfree : ∀ y ∈ scope.names, y.2 = NameKind.free → ∃ c, X.env.cells.lookup y.1 = some c := fun y hy e => (ok.free y hy e).elim (fun k => I.ok.has y.1 (.inl k)) fun k => I.ok.has y.1 (.inr k)
  refine wpAny_comprehension_free (g := ⟨t0, i0, [], 0⟩) (gs := [⟨t1, i1, [], 0⟩, ⟨t2, i2, [], 0⟩]) rfl hs (closure_ok hfree) ok.kind (fun y hy e => by rw [ok.uniq y hy, e]) ?_
  refine thn (hi.run pins s σ H _ I h) fun xv s1 hx => thn hx fun itv s2 ⟨it, fp, tn, J, H2, e, I2, T, st2, f2, q⟩ => ?_
  subst e
  refine PpSet.newSet_ok ?_
  refine newEnv_comp ?_
  have hDn := I2.hok.fresh (Nat.le_refl _)
  obtain ⟨W, ⟨m0, w0⟩, turn⟩ := q s2.heap.objs.size hDn
  have ho : (s2.heap.push (newSetObj X.w)).get? s2.heap.objs.size = some (newSetObj X.w) := Heap.get?_push_size s2.heap rfl
  have R0 : XSet X.prog X.w (s2.heap.push (newSetObj X.w)) s2.heap.objs.size [] #[] 0 (.fresh 0 0 (!X.w.params.followText "set-order")) := ⟨ho, TxOk.nil rfl, List.nodup_nil, List.Pairwise.nil, led_new X.w⟩
  have new : ObjOk X.prog X.w (upd H2 s2.heap.objs.size (XSetO X.prog X.w s2.heap.objs.size [])) (s2.heap.push (newSetObj X.w)) s2.heap.objs.size (XSetO X.prog X.w s2.heap.objs.size []) :=
    ⟨⟨_, _, _, R0⟩, ⟨_, ho⟩, fun h1 h2 ⟨a1, a2, a3, a4⟩ kk => ⟨a1, a2, a3, a4.moved kk⟩⟩
  have I3 : L2.Inv X pins σ (upd H2 s2.heap.objs.size (XSetO X.prog X.w s2.heap.objs.size [])) { s2 with heap := s2.heap.push (newSetObj X.w) } := I2.laid (t' := s2.toks) (fun b o e => Heap.get?_push_of_some _ e) (Nat.le_refl _) new
  have sz : ∀ b ∈ fp, b < s2.heap.objs.size := fun b hb => by
    obtain ⟨o, e, _⟩ := T.obj 0 s2.heap st2 b hb
    exact Heap.lt_size e
  have f3 : ∀ b ∈ fp, FpOk X pins (upd H2 s2.heap.objs.size (XSetO X.prog X.w s2.heap.objs.size [])) b ∧ b < (s2.heap.push (newSetObj X.w)).objs.size := fun b hb => by
    have hlt := sz b hb
    refine ⟨⟨?_, (f2 b hb).2⟩, ?_⟩
    · rw [upd_ne (Nat.ne_of_lt hlt)]
      exact (f2 b hb).1
    · rw [Heap.size_push]
      exact Nat.lt_succ_of_lt hlt
  have I4 := block_start I3 ok hN f3
  have st4 : tn 0 (pushCells ((s2.heap.push (newSetObj X.w)).push { cls := .type "dict", data := .dict #[] }) scope.names) := T.keep 0 s2.heap _ st2 fun b hb o e => pushCells_keeps scope.names _ b o (Heap.get?_push_of_some _ (Heap.get?_push_of_some _ e))
  let s3 : Shared := { s2 with heap := s2.heap.push (newSetObj X.w) }
  let H3 : Hp := upd H2 s2.heap.objs.size (XSetO X.prog X.w s2.heap.objs.size [])
  let cl := cellsFrom (s3.heap.objs.size + 1) scope.names (cloFrom X.env.cells scope.names [])
  let Y : Cx := X.blk s3 H3 scope (compEnvC scope cl s3.heap.objs.size X.env) fp
  have hxe : ∀ e s, ¬ Y.xe e s := fun _ _ z => z
  have stat : ∀ {σ' H' s'}, L2.Inv Y [] σ' H' s' → (∀ b ∈ fp, H' b = none) → ∀ b ∈ fp, FpOk Y [] H' b := fun {σ' H' s'} I' hn b hb => ⟨hn b hb, (I'.ok.exf b hb).1, I'.ok.exfs b hb, .inl hb, fun x c e => (I'.ok.exf b hb).2 x c e, fun p hp => by
    have z : p ∈ ([] : List (Addr × Obj)) := hp
    exact nomatch z⟩
  have last := last_step (Y := Y) (D := s2.heap.objs.size) hxe (he s3 H3 s3.heap.objs.size cl fp)
  have mid := bk_step (Y := Y) (scope := scope) (ep := ep) (d := 1) (acc := .ref s2.heap.objs.size) (vs := vs2) (D := fun σ σ' => σ' = σ) hc hxe (gens := gens3 t0 i0 t1 i1 t2 i2) rfl (hs2 _) (hi2 s3 H3 s3.heap.objs.size cl fp) (hg2 s3 H3 s3.heap.objs.size cl fp) (fun it => turn3_2 it _ _)
    (fun it pl s σ H Nx Q E I hB hq => last pl s σ H Nx Q E _ I hB fun H' s' I' nx => hq σ H' s' I' rfl nx) (fun σ σ2 σ' hw hd => by subst hd; rw [← hw]; exact Le.wipe _ _)
  have top := bk_step (Y := Y) (scope := scope) (ep := ep) (d := 0) (acc := .ref s2.heap.objs.size) (vs := vs1) (D := fun σ σ' => σ' = wipe σ vs2) hc hxe (gens := gens3 t0 i0 t1 i1 t2 i2) rfl (hs1 _) (hi1 s3 H3 s3.heap.objs.size cl fp) (hg1 s3 H3 s3.heap.objs.size cl fp) (fun it => turn3_1 it _ _)
    (fun it pl s σ H Nx Q E I hB hq => mid pl s σ H Nx Q E _ I hB fun H' s' I' nx => hq _ H' s' I' rfl nx) (fun σ σ2 σ' hw hd => by subst hd; rw [← hw]; exact Le.wipes hv2)
  have loop : ∀ R : Result → Shared → Prop, (∀ s' H', L2.Inv Y [] (wipe σ (own.map (·.2))) H' s' → Q (.ref s2.heap.objs.size) H' → R (.ok .next) s') → codeAny (model Y.prog Y.w) Y.A (.compLoop (.SetComp elt (gens3 t0 i0 t1 i1 t2 i2) scope ep) 0 (.ref it) (.ref s2.heap.objs.size) Y.env) R _ := fun R hR =>
    loop_lvl (Y := Y) (σ0 := wipe σ (own.map (·.2))) (pins := []) (C := fun σ2 => wipe σ2 (own.map (·.2)) = wipe σ (own.map (·.2))) (B := lvlR wi1 g1 vs1 (lvlR wi2 g2 vs2 (lastR Y.prog Y.w s2.heap.objs.size te))) (tt := tYes) (W := W) (N := fun H' => Q (.ref s2.heap.objs.size) H') hc hxe (turn3_0 _ _ _) T (hg0 s3 H3 s3.heap.objs.size cl fp) pts_nil
      (fun pl2 s σ2 H Nx2 Q E I hC hB hq => top pl2 s σ2 H Nx2 Q E _ I hB fun H' s' I' nx => hq _ H' s' I' (by rw [← hC]; exact Le.wipes hv1) nx)
      (fun σ2 hC => by have z := Le.wipe σ2 (own.map (·.2)); rw [hC] at z; exact z) turn hR m0 0 H3 _ I4 st4 (stat I4 fun b hb => (f3 b hb).1.1) w0
  have fin : ∀ s6 H5, L2.Inv Y [] (wipe σ (own.map (·.2))) H5 s6 → Q (.ref s2.heap.objs.size) H5 → compPost (model X.prog X.w) X.A X.xe none (EP X pins σ Q) (.ref s2.heap.objs.size) s3.heap.objs.size (.ok .next) s6 := fun s6 H5 I6 qq => by
    have I7 : L2.Inv X pins σ H5 s6 := Inv.call' I3 I6.os I6.base I6.hok I6.bare fun b hb => ⟨(f3 b hb).1.2.2.2.1, (f3 b hb).1.2.1, (f3 b hb).1.2.2.2.2.1, (f3 b hb).1.2.2.2.2.2⟩
    have nC : H5 s3.heap.objs.size = none := I6.free
    obtain ⟨m, hn, _⟩ := I6.loc
    obtain ⟨k0, k1, k2, k3, k4, k5⟩ := Inv.fpOk I3 (Nat.le_refl _) nC
    exact ⟨m, hn, fun h'' sb => ⟨.ref s2.heap.objs.size, H5, Inv.turned I7 (fun b o hb e => (sb.2 b hb).trans e) k0 k1 k3 k4 k5, rfl, qq⟩⟩
  refine start_lvl (d := 0) (t := t0) (i := i0) (ifs := []) rfl ?_ ?_
  · exact loop _ fin
  · exact T.self _ 0 _ _ _ st4 (loop _ fin)
end
end Rw
namespace Rw
open PySem PySem.Spec PyProof.Rows L2
/-! ### Program.names -/
theorem scNames : FnScope ["self", "row", "part", "name"] ["self"] (defScope sNames) := ⟨rfl, rfl, rfl, by decide +kernel, rfl, by decide +kernel, by decide +kernel⟩
/-- a walk over a tuple, the heap followed, as one level of a comprehension reads it -/
theorem lvl_tup {K : PySem.W.Frag} {a : Addr} {xs : List V} {H0 : Hp} {Qd : Hp → Prop} {B : V → Hp → (Hp → Prop) → Prop} (Pv : Nat → Hp → Prop) (h0 : Pv 0 H0) (hl : ∀ i H, i ≤ xs.length → Pv i H → SqT K H a xs) (hs : ∀ i x H, xs[i]? = some x → Pv i H → B x H (Pv (i + 1))) (hd : ∀ H, Pv xs.length H → Qd H) :
    ∃ W : Nat → Nat → Hp → Prop, (∃ m, W 0 m H0) ∧ ∀ i m H, W i m H → ((Itt K a).stop i H ∧ Qd H) ∨ ((Itt K a).go i H ∧ ∃ Nx : Hp → Prop, (∀ H', Nx H' → ∃ m', m' < m ∧ W (i + 1) m' H') ∧ ∀ x H', (Itt K a).yld i H x H' → B x H' Nx) := by
  refine ⟨fun i m H => m = xs.length - i ∧ i ≤ xs.length ∧ Pv i H, ⟨xs.length, by simp, Nat.zero_le _, h0⟩, ?_⟩
  rintro i m H ⟨rfl, hi, p⟩
  have hS := hl i H hi p
  by_cases hlt : i < xs.length
  · refine .inr ⟨⟨xs, xs[i], hS, List.getElem?_eq_getElem hlt⟩, Pv (i + 1), fun H' p' => ⟨xs.length - (i + 1), by omega, rfl, hlt, p'⟩, fun y H' yy => ?_⟩
    obtain ⟨rfl, fv⟩ := yy
    exact hs i y _ (fv xs hS) p
  · have e : i = xs.length := by omega
    subst e
    exact .inl ⟨⟨xs, hS, Nat.le_refl _⟩, hd H p⟩
/-- the names of a rule, of rules -/
def ownN (r : Rl) : W := (parts r).flatMap id
def namesL (S : List Rl) : W := S.flatMap ownN
theorem ownN_len {r : Rl} (h : IsR r) : (ownN r).length ≤ 160 := by
  unfold ownN parts
  simp only [List.flatMap_cons, List.flatMap_nil, List.length_append, List.length_nil, id]
  have := h.h.few
  have := h.d.few
  have := h.n.few
  have := h.b.few
  omega
section
variable {P : Program} {w : World} {K : PySem.W.Frag} {mg : Str → Option Value} {base : Heap} {f : Addr} {fd : FuncData} {k : Nat}
/-- the sorted names of a program whose names are among few -/
def spNames (K : PySem.W.Frag) (C : Addr) : Sp := fun vs H Q _ => ∃ (v : V) (S : List Rl) (bd : W), vs = [v] ∧ PgAt K C H v S ∧ (∀ r ∈ S, IsR r) ∧ (∀ z ∈ namesL S, z ∈ bd) ∧ bd.length ≤ 40 ∧ ∀ H' t (ns : W), Same H H' → SqT K H' t (ns.map V.str) → IsW ns → (∀ z, z ∈ ns ↔ z ∈ namesL S) → Q (.ref t) H'
theorem ok_names {C : Addr} (F : Fun K "names" "Program.names" sNames f fd) (T : Bl mg) (c : Cls K C) (n : NoAttr K C "_rules") : FnOk P w K mg base CX0 (k + 1) f fd ["self"] (spNames K C) := by
  refine F.ok scNames (fun vs H Q E h => ?_) (fun cdv A outer s H vs Q E hr h => ?_)
  · obtain ⟨v, S, bd, rfl, _⟩ := h
    rfl
  obtain ⟨v, S, bd, rfl, ⟨a, dx, t, ys, rfl, h1, h2, h3⟩, hI, hbd, b40, q⟩ := h
  refine ⟨_, pss_one (ps_ret (pe_callTy call_tuple_of (by rfl) T.tuple (by decide +kernel) (pa_cons (pe_callB (cr_sortX rfl hr.units) (by rfl) T.sorted (by decide +kernel) (pa_cons
    (pe_sc3 (own := [("row", 1), ("part", 2), ("name", 3)]) (vs1 := [2, 3]) (vs2 := [3]) (g0 := gName 1) (g1 := gName 2) (g2 := gName 3) (wi1 := iTup K (tVar 1)) (wi2 := iTup K (tVar 2)) (te := tVar 3) rfl scNames.nd (pi_tup (pe_fld (pv 0) rfl)) (blkOk_by (N := ["self", "row", "part", "name"]) (sc := defScope sNames) (by decide +kernel)) (by decide) (by decide)
      (fun _ _ _ _ _ => pg_name (i := 1) scNames.nd rfl (Or.inl rfl)) (fun _ _ _ _ _ => pi_tup (pv 1)) (fun _ _ _ _ _ => pg_name (i := 2) scNames.nd rfl (Or.inl rfl)) (fun _ _ _ _ _ => pi_tup (pv 2)) (fun _ _ _ _ _ => pg_name (i := 3) scNames.nd rfl (Or.inl rfl)) (fun _ _ _ _ _ => pv 3)) pa_nil)) pa_nil))), ?_⟩
  have yl : ys.length = S.length := by rw [dpAll_len h3, List.length_map]
  have few : ∀ ms : W, ms.Nodup → (∀ z ∈ ms, z ∈ bd) → ms.length ≤ 40 := fun ms nd h => Nat.le_trans (nodup_len_le nd h) b40
  have sb : scanBound = 4096 := rfl
  refine ⟨.ref a, rfl, a, C, dx, _, .ref t, rfl, h1, c, n, rfl, t, rfl, ⟨_, h2⟩, fun D hD => ?_⟩
  refine lvl_tup (xs := ys) (fun i H1 => Same H H1 ∧ ∃ ms : W, H1 D = some (XSetO P w D ms) ∧ ms.Nodup ∧ ∀ z, z ∈ ms ↔ z ∈ namesL (S.take i)) ⟨same_new hD _, [], upd_same, List.nodup_nil, fun z => Iff.rfl⟩ (fun i H1 _ hI => same_tup hI.1 h2) (fun i x H1 hx hI1 => ?_) (fun H1 hI1 => ?_)
  · obtain ⟨sm, ms, hm, nd, mem⟩ := hI1
    obtain ⟨dd, hdd, hxd⟩ := dpAll_at' h3 hx
    obtain ⟨r, hr0, rfl⟩ := map_at hdd
    have hrS := List.mem_of_getElem? hr0
    have hr' := hI r hrS
    have own_bd : ∀ z ∈ ownN r, z ∈ bd := fun z hz => hbd z (List.mem_flatMap.mpr ⟨r, hrS, hz⟩)
    have top_bd : ∀ z ∈ namesL (S.take i), z ∈ bd := fun z hz => by
      obtain ⟨q, hq, hz⟩ := List.mem_flatMap.mp hz
      exact hbd z (List.mem_flatMap.mpr ⟨q, List.mem_of_mem_take hq, hz⟩)
    have step : namesL (S.take (i + 1)) = namesL (S.take i) ++ ownN r := by
      unfold namesL
      rw [take_snoc hr0, List.flatMap_append]
      simp
    unfold rd at hxd
    cases hxd with
    | @tup b xs _ hT hxs =>
      have xl : xs.length = (parts r).length := by rw [dpAll_len hxs, List.length_map]
      refine ⟨rfl, .ref b, rfl, b, rfl, ⟨_, same_tup sm hT⟩, ?_⟩
      refine lvl_tup (xs := xs) (fun j H2 => Same H H2 ∧ ∃ ms : W, H2 D = some (XSetO P w D ms) ∧ ms.Nodup ∧ ∀ z, z ∈ ms ↔ z ∈ namesL (S.take i) ∨ z ∈ ((parts r).take j).flatMap id) ⟨sm, ms, hm, nd, fun z => by rw [mem z]; simp⟩ (fun j H2 _ hI => same_tup hI.1 hT) (fun j y H2 hy hI2 => ?_) (fun H2 hI2 => ?_)
      · obtain ⟨sm2, ms2, hm2, nd2, mem2⟩ := hI2
        obtain ⟨d, hdi, hyd⟩ := dpAll_at' hxs hy
        obtain ⟨p, hp, rfl⟩ := map_at hdi
        obtain ⟨u, rfl, hU⟩ := of_wd hyd
        have in_own : ∀ z ∈ ((parts r).take j).flatMap id, z ∈ ownN r := fun z hz => by
          obtain ⟨q, hq, hz⟩ := List.mem_flatMap.mp hz
          exact List.mem_flatMap.mpr ⟨q, List.mem_of_mem_take hq, hz⟩
        have p_own : ∀ z ∈ p, z ∈ ownN r := fun z hz => List.mem_flatMap.mpr ⟨p, List.mem_of_getElem? hp, hz⟩
        refine ⟨rfl, .ref u, rfl, u, rfl, ⟨_, same_tup sm2 hU⟩, ?_⟩
        refine lvl_tup (xs := p.map V.str) (fun l H3 => Same H H3 ∧ ∃ ms : W, H3 D = some (XSetO P w D ms) ∧ ms.Nodup ∧ ∀ z, z ∈ ms ↔ (z ∈ namesL (S.take i) ∨ z ∈ ((parts r).take j).flatMap id) ∨ z ∈ p.take l) ⟨sm2, ms2, hm2, nd2, fun z => by rw [mem2 z]; simp⟩ (fun l H3 _ hI => same_tup hI.1 hU) (fun l v H3 hv hI3 => ?_) (fun H3 hI3 => ?_)
        · obtain ⟨sm3, ms3, hm3, nd3, mem3⟩ := hI3
          obtain ⟨z, hz, rfl⟩ := map_at hv
          have f3 := few ms3 nd3 fun z hz => by
            rcases (mem3 z).mp hz with (h | h) | h
            · exact top_bd z h
            · exact own_bd z (in_own z h)
            · exact own_bd z (p_own z (List.mem_of_mem_take h))
          refine ⟨rfl, .str z, rfl, z, ms3, rfl, hm3, by omega, fun ms' nd' hm' _ => ⟨same_put sm3 hD, ms', upd_same, nd', fun u => ?_⟩⟩
          rw [hm' u, mem3 u, take_snoc hz, List.mem_append, List.mem_singleton]
          exact ⟨fun h => h.elim (fun e => .inr (.inr e)) fun h => h.elim .inl fun h => .inr (.inl h), fun h => h.elim (fun h => .inr (.inl h)) fun h => h.elim (fun h => .inr (.inr h)) .inl⟩
        · obtain ⟨sm3, ms3, hm3, nd3, mem3⟩ := hI3
          rw [List.length_map, List.take_length] at mem3
          refine ⟨sm3, ms3, hm3, nd3, fun z => ?_⟩
          rw [mem3 z, take_snoc hp, List.flatMap_append, List.mem_append]
          simp [or_assoc]
      · obtain ⟨sm2, ms2, hm2, nd2, mem2⟩ := hI2
        rw [xl, List.take_length] at mem2
        refine ⟨sm2, ms2, hm2, nd2, fun z => ?_⟩
        rw [mem2 z, step, List.mem_append]
        exact Iff.rfl
  · obtain ⟨sm, ms, hm, nd, mem⟩ := hI1
    rw [yl, List.take_length] at mem
    have f1 := few ms nd fun z hz => hbd z ((mem z).mp hz)
    refine ⟨D, ms, rfl, hm, by omega, fun zs L hz nz hlz rz hL => ?_⟩
    have sL := same_new hL (.lst (zs.map V.str))
    refine ⟨L, _, rfl, .inl ⟨SqL.of upd_same, fun t2 ht2 => ?_⟩⟩
    have s2 := same_new ht2 (.tup (zs.map V.str))
    have nam : ∀ z ∈ namesL S, nameB z = true := fun z hz => by
      obtain ⟨r, hr, hz⟩ := List.mem_flatMap.mp hz
      obtain ⟨p, hp, hz⟩ := List.mem_flatMap.mp hz
      exact ((hI r hr).all p hp).names z hz
    have memz : ∀ z, z ∈ zs ↔ z ∈ namesL S := fun z => (hz z).trans (mem z)
    exact q _ t2 zs (sm.trans (sL.trans s2)) (SqT.of upd_same) ⟨fun z hz => nam z ((memz z).mp hz), upX_of rz nz, by omega⟩ memz
end
end Rw
namespace Rw
open PySem PySem.Spec PyProof.Rows L2
/-! ### names in and out -/
theorem scHasAll : FnScope ["names", "wanted", "name"] ["names", "wanted"] (defScope sHasAll) := ⟨rfl, rfl, rfl, by decide +kernel, rfl, by decide +kernel, by decide +kernel⟩
/-- a list or a tuple of names -/
def Ws (K : PySem.W.Frag) (H : Hp) (v : V) (ns : W) : Prop := ∃ a, v = .ref a ∧ (SqL K H a (ns.map V.str) ∨ SqT K H a (ns.map V.str))
theorem Ws.same {K : PySem.W.Frag} {H H' : Hp} {v : V} {ns : W} (h : Ws K H v ns) (e : Same H H') : Ws K H' v ns := by
  obtain ⟨a, rfl, h⟩ := h
  exact ⟨a, rfl, h.elim (fun z => .inl (e.seq z)) (fun z => .inr (same_tup e z))⟩
theorem Ws.wd {K : PySem.W.Frag} {H : Hp} {v : V} {ns : W} (h : Dp K H v (Rw.wd ns)) : Ws K H v ns := by
  obtain ⟨a, rfl, h'⟩ := of_wd h
  exact ⟨a, rfl, .inr h'⟩
def meets (ns ms : W) : Bool := ns.any fun z => decide (z ∈ ms)
def minus (ns ms : W) : W := ns.filter fun z => !decide (z ∈ ms)
def hasK (kvs : List (Key × V)) (z : Str) : Bool := (valV kvs (.inr z)).isSome
section
variable {P : Program} {w : World} {K : PySem.W.Frag} {mg : Str → Option Value} {base : Heap} {f : Addr} {fd : FuncData} {k : Nat}
def spHasAll (K : PySem.W.Frag) : Sp := fun vs H Q _ => ∃ (x y : V) (ns ms : W), vs = [x, y] ∧ Ws K H x ns ∧ Ws K H y ms ∧ ms.length ≤ 1000 ∧ ∀ H', Same H H' → Q (.bl (sub ms ns)) H'
theorem ok_hasAll (F : Fun K "has_all" "has_all" sHasAll f fd) (T : Bl mg) : FnOk P w K mg base CX0 (k + 1) f fd ["names", "wanted"] (spHasAll K) := by
  refine F.ok scHasAll (fun vs H Q E h => ?_) (fun cdv A outer s H vs Q E hr h => ?_)
  · obtain ⟨x, y, ns, ms, rfl, _⟩ := h
    rfl
  obtain ⟨x, y, ns, ms, rfl, ⟨a, rfl, hS⟩, ⟨b, rfl, hT⟩, few, q⟩ := h
  have turn : ∀ (D : Addr) (i : Nat) (z : Str) (H1 : Hp), ms[i]? = some z → H D = none → Same H H1 ∧ H1 D = some (.lst ((ms.take i).map fun z => V.bl (decide (z ∈ ns)))) → SqL K H1 a (ns.map V.str) ∨ SqT K H1 a (ns.map V.str) := fun D i z H1 _ _ ⟨sm, _⟩ => hS.elim (fun z => .inl (sm.seq z)) (fun z => .inr (same_tup sm z))
  have step : ∀ (D : Addr) (i : Nat) (z : Str) (H1 : Hp), ms[i]? = some z → H D = none → Same H H1 ∧ H1 D = some (.lst ((ms.take i).map fun z => V.bl (decide (z ∈ ns)))) → ∃ acc, H1 D = some (.lst acc) ∧ acc.length < sizeLine ∧ (Same H (upd H1 D (.lst (acc ++ [V.bl (inV (.str z) (ns.map V.str))]))) ∧ (upd H1 D (.lst (acc ++ [V.bl (inV (.str z) (ns.map V.str))]))) D = some (.lst ((ms.take (i + 1)).map fun z => V.bl (decide (z ∈ ns))))) := fun D i z H1 hz hD ⟨sm, hd⟩ => by
    refine ⟨_, hd, small_line' (by rw [List.length_map, List.length_take]; omega), same_put sm hD, ?_⟩
    rw [upd_same, take_snoc hz, List.map_append, inV_str]
    rfl
  have fin : ∀ (D : Addr) (H1 : Hp), Same H H1 → H1 D = some (.lst ((ms.take ms.length).map fun z => V.bl (decide (z ∈ ns)))) → ∃ (a : Addr) (bs : List Bool), [V.ref D] = [V.ref a] ∧ SqL K H1 a (bs.map V.bl) ∧ Q (.bl (bs.all id)) H1 := fun D H1 sm hd => by
    rw [List.take_length] at hd
    refine ⟨D, ms.map fun z => decide (z ∈ ns), rfl, SqL.of (by rw [List.map_map]; exact hd), ?_⟩
    have z : (ms.map fun z => decide (z ∈ ns)).all id = sub ms ns := by
      unfold sub
      rw [List.all_map]
      rfl
    rw [z]
    exact q H1 sm
  rcases hT with hT | hT
  · refine ⟨_, pss_one (ps_ret (pe_callB (cr_all rfl) (by rfl) T.all (by decide +kernel) (pa_cons (pe_lc (own := [("name", 2)]) (g := gName 2) (by rfl) scHasAll.nd (pi_list (pv 1)) (blkOk_by (N := ["names", "wanted", "name"]) (sc := defScope sHasAll) (by decide +kernel))
        (fun _ _ _ _ _ => pg_name (i := 2) scHasAll.nd rfl (Or.inl rfl)) (fun _ _ _ _ _ => pts_nil) (fun _ _ _ _ _ => pe_cmpR (r := rIn K false) op_in_seq (pv 2) (pv 0) (by rfl))) pa_nil))), ?_⟩
    refine ⟨.ref b, rfl, b, rfl, ⟨_, hT⟩, fun D hD => ?_⟩
    refine lc_list (xs := ms.map V.str) (fun i H1 => Same H H1 ∧ H1 D = some (.lst ((ms.take i).map fun z => V.bl (decide (z ∈ ns))))) ⟨same_new hD _, upd_same⟩ (fun i H1 _ hI => hI.1.seq hT) (fun i x H1 hx hI => ?_) (fun H1 hI => ?_)
    · obtain ⟨z, hz, rfl⟩ := map_at hx
      exact ⟨rfl, .str z, rfl, .ref a, rfl, a, ns.map V.str, rfl, turn D i z H1 hz hD hI, rfl, flat_strs ns, step D i z H1 hz hD hI⟩
    · obtain ⟨sm, hd⟩ := hI
      rw [List.length_map] at hd
      exact fin D H1 sm hd
  · refine ⟨_, pss_one (ps_ret (pe_callB (cr_all rfl) (by rfl) T.all (by decide +kernel) (pa_cons (pe_lc (own := [("name", 2)]) (g := gName 2) (by rfl) scHasAll.nd (pi_tup (pv 1)) (blkOk_by (N := ["names", "wanted", "name"]) (sc := defScope sHasAll) (by decide +kernel))
        (fun _ _ _ _ _ => pg_name (i := 2) scHasAll.nd rfl (Or.inl rfl)) (fun _ _ _ _ _ => pts_nil) (fun _ _ _ _ _ => pe_cmpR (r := rIn K false) op_in_seq (pv 2) (pv 0) (by rfl))) pa_nil))), ?_⟩
    refine ⟨.ref b, rfl, b, rfl, ⟨_, hT⟩, fun D hD => ?_⟩
    refine lc_tup (xs := ms.map V.str) (fun i H1 => Same H H1 ∧ H1 D = some (.lst ((ms.take i).map fun z => V.bl (decide (z ∈ ns))))) ⟨same_new hD _, upd_same⟩ (fun i H1 _ hI => same_tup hI.1 hT) (fun i x H1 hx hI => ?_) (fun H1 hI => ?_)
    · obtain ⟨z, hz, rfl⟩ := map_at hx
      exact ⟨rfl, .str z, rfl, .ref a, rfl, a, ns.map V.str, rfl, turn D i z H1 hz hD hI, rfl, flat_strs ns, step D i z H1 hz hD hI⟩
    · obtain ⟨sm, hd⟩ := hI
      rw [List.length_map] at hd
      exact fin D H1 sm hd
end
theorem scENotProg : FnScope ["self", "thing"] ["self", "thing"] (defScope sENotProg) := ⟨rfl, rfl, rfl, by decide +kernel, rfl, by decide +kernel, by decide +kernel⟩
theorem scEWorld : FnScope ["self", "thing"] ["self", "thing"] (defScope sEWorld) := ⟨rfl, rfl, rfl, by decide +kernel, rfl, by decide +kernel, by decide +kernel⟩
section
variable {P : Program} {w : World} {K : PySem.W.Frag} {mg : Str → Option Value} {base : Heap} {f : Addr} {fd : FuncData} {k : Nat}
theorem ok_eNotProg {C : Addr} (F : FunD K "__init__" "NotAProgram.__init__" (defArgs sENotProg) (defBody sENotProg) (defScope sENotProg) [.non] [] f fd) (O : OexC K C) (no : PySem.W.findIn K (.ref C) "thing" = some none) : FnOk P w K mg base CX0 (k + 1) f fd ["self", "thing"] (spErr C "thing") := by
  refine F.ok scENotProg (fun vs H Q E h => ?_) (fun cdv A outer s H vs Q E hr h => ?_)
  · obtain ⟨a, v, rfl, _⟩ := h
    rfl
  obtain ⟨a, v, rfl, ha, q⟩ := h
  exact ⟨_, PSs.nox (pss_one (ps_ost (pv 0) (pv 1))), v, rfl, .ref a, rfl, a, C, rfl, O, no, .inl ⟨ha, fun dx h1 h2 => q dx h1 h2⟩⟩
theorem ok_eWorld {C : Addr} (F : FunD K "__init__" "InvalidWorld.__init__" (defArgs sEWorld) (defBody sEWorld) (defScope sEWorld) [.non] [] f fd) (O : OexC K C) (no : PySem.W.findIn K (.ref C) "thing" = some none) : FnOk P w K mg base CX0 (k + 1) f fd ["self", "thing"] (spErr C "thing") := by
  refine F.ok scEWorld (fun vs H Q E h => ?_) (fun cdv A outer s H vs Q E hr h => ?_)
  · obtain ⟨a, v, rfl, _⟩ := h
    rfl
  obtain ⟨a, v, rfl, ha, q⟩ := h
  exact ⟨_, PSs.nox (pss_one (ps_ost (pv 0) (pv 1))), v, rfl, .ref a, rfl, a, C, rfl, O, no, .inl ⟨ha, fun dx h1 h2 => q dx h1 h2⟩⟩
end
/-! ### refusals -/
theorem scCheckProgram : FnScope ["thing"] ["thing"] (defScope sCheckProgram) := ⟨rfl, rfl, rfl, by decide +kernel, rfl, by decide +kernel, by decide +kernel⟩
/-- what the text's own error class with one field is -/
structure ErrT (P : Program) (w : World) (K : PySem.W.Frag) (mg : Str → Option Value) (base : Heap) (k : Nat) (x : Str) (n : Str) (C : Addr) : Prop where
  oex : OexC K C
  ex : ∃ (fI : Addr) (fd : FuncData), PySem.W.findIn K (.ref C) "__init__" = some (some (.ref fI)) ∧ PySem.W.typeIn K (.ref fI) = some (.type "function") ∧ FnOk P w K mg base CX0 k fI fd ["self", n] (spErr C n) ∧ Binds K fd ["self", n] []
  m : mg x = some (.ref C)
/-- what a program's class says of what is no program -/
structure PgC (K : PySem.W.Frag) (mg : Str → Option Value) (C : Addr) : Prop where
  yes : PySem.W.kitOne K (.ref C) (.ref C) = some true
  non : PySem.W.kitOne K (.type "NoneType") (.ref C) = some false
  bool : PySem.W.kitOne K (.type "bool") (.ref C) = some false
  int : PySem.W.kitOne K (.type "int") (.ref C) = some false
  str : PySem.W.kitOne K (.type "str") (.ref C) = some false
  list : PySem.W.kitOne K (.type "list") (.ref C) = some false
  tuple : PySem.W.kitOne K (.type "tuple") (.ref C) = some false
  dict : PySem.W.kitOne K (.type "dict") (.ref C) = some false
  m : mg "Program" = some (.ref C)
  cls : Cls K C
  cg : PySem.W.findIn K (.ref C) "__class__" = some (some (.builtin "object.__class__"))
  sp : PySem.W.specialIn K (.builtin "object.__class__") "__get__" = some (some (.builtin "getset_descriptor.__get__"))
  tk : PySem.W.takesIn K (.builtin "object.__class__") = some true
  mro : PySem.W.mroIn K C (.type "object") = some true
section
variable {P : Program} {w : World} {K : PySem.W.Frag} {mg : Str → Option Value} {base : Heap} {f : Addr} {fd : FuncData} {k : Nat}
theorem PgC.odd {C : Addr} (T : PgC K mg C) : ∀ d : PyData, PySem.W.kitOne K (.type (tyName d)) (.ref C) = some false
  | .none => T.non
  | .bool _ => T.bool
  | .int _ => T.int
  | .str _ => T.str
  | .list _ => T.list
  | .tuple _ => T.tuple
  | .dict _ => T.dict
def spCheckProgram (K : PySem.W.Frag) (C CE : Addr) : Sp := fun vs H Q E => ∃ v : V, vs = [v] ∧ ((∃ S, PgAt K C H v S ∧ Q .non H) ∨ (∃ d, Dp K H v d ∧ ∀ dx, H dx = none → E (.ref CE) (some dx) (upd H dx (.xd [(("thing" : Str), v)]))))
theorem ok_checkProgram {C CE : Addr} (F : Fun K "check_program" "check_program" sCheckProgram f fd) (T : Bl mg) (G : PgC K mg C) (X : ErrT P w K mg base k "NotAProgram" "thing" CE) : FnOk P w K mg base (L2.CX P w) (k + 2) f fd ["thing"] (spCheckProgram K C CE) := by
  obtain ⟨fI, fdI, i1, i2, i3, i4⟩ := X.ex
  refine F.okX scCheckProgram (fun vs H Q E h => ?_) (fun cdv A outer s H vs Q E hr h => ?_)
  · obtain ⟨v, rfl, _⟩ := h
    rfl
  obtain ⟨v, rfl, h⟩ := h
  refine ⟨_, pss_one (ps_if (pt_not (pt_val (pe_callB call_isi (by rfl) T.isi PyProof.Rows.boot_isinstance (pa_cons (pv 0) (pa_cons (pe_glob (v := .ref C) (by rfl) G.m rfl) pa_nil)))))
    (pss_one (ps_raise rfl (takes_of rfl rfl rfl rfl) (pmk_oex X.oex i1 i2 i3 hr i4 .nil pass0 (by rfl) X.m (pa_cons (pv 0) pa_nil)))) pss_nil), ?_⟩
  rcases h with ⟨S, hS, q⟩ | ⟨d, hd, q⟩
  · obtain ⟨a, dx, t, ys, rfl, h1, h2, h3⟩ := hS
    exact ⟨.ref a, rfl, .ref a, .ref C, .ref C, .ref C, true, rfl, .own C, .base (.ins h1 G.cls G.cg G.sp G.tk G.mro), G.yes, true, rfl, iteF q⟩
  · exact ⟨v, rfl, v, .ref C, .type (tyName d), .ref C, false, rfl, .own C, tyx_dp hd, G.odd d, false, rfl, iteT ⟨v, rfl, err_made q⟩⟩
end
end Rw
namespace Rw
open PySem PySem.Spec PyProof.Rows L2
/-! ### sets of names as numbers -/
def num : W → W → Int
  | [], _ => 0
  | x :: own, w => (if x ∈ w then 1 else 0) + 2 * num own w
def bitOf : W → Str → Int
  | [], _ => 1
  | y :: own, x => if x = y then 1 else 2 * bitOf own x
theorem bitOf_cons (y : Str) (own : W) (x : Str) : bitOf (y :: own) x = if x = y then 1 else 2 * bitOf own x := rfl
theorem num_nn : ∀ own w : W, 0 ≤ num own w
  | [], _ => Int.le_refl 0
  | x :: own, w => by
    have h := num_nn own w
    unfold num
    split <;> omega
theorem num_lt : ∀ own w : W, num own w < 2 ^ own.length
  | [], _ => (by decide : (0 : Int) < 1)
  | x :: own, w => by
    have h := num_lt own w
    unfold num
    rw [List.length_cons, Int.pow_succ]
    split <;> omega
theorem num_cons (x : Str) (own w : W) : num (x :: own) w = (if x ∈ w then 1 else 0) + 2 * num own w := rfl
theorem bit_halves (c d x y : Int) (hc : c = 0 ∨ c = 1) (hd : d = 0 ∨ d = 1) : Builtin.bitAnd (c + 2 * x) (d + 2 * y) = (if c = 1 ∧ d = 1 then 1 else 0) + 2 * Builtin.bitAnd x y := by
  rw [PySem.W.kbt_halves]
  have e1 : (c + 2 * x) / 2 = x := by omega
  have e2 : (d + 2 * y) / 2 = y := by omega
  have e3 : (c + 2 * x) % 2 = c := by omega
  have e4 : (d + 2 * y) % 2 = d := by omega
  rw [e1, e2, e3, e4]
  omega
theorem one01 (p : Prop) [Decidable p] : (if p then (1 : Int) else 0) = 0 ∨ (if p then (1 : Int) else 0) = 1 := by
  split
  · exact .inr rfl
  · exact .inl rfl
theorem num_and : ∀ own a b : W, Builtin.bitAnd (num own a) (num own b) = num own (a.filter fun z => decide (z ∈ b))
  | [], _, _ => (by decide : Builtin.bitAnd 0 0 = 0)
  | x :: own, a, b => by
    rw [num_cons, num_cons, num_cons, bit_halves _ _ _ _ (one01 _) (one01 _), num_and own a b]
    congr 1
    by_cases h1 : x ∈ a <;> by_cases h2 : x ∈ b <;> simp [h1, h2]
theorem num_diff : ∀ own a b : W, Builtin.bitAnd (num own a) (Builtin.bitNot (num own b)) = num own (minus a b)
  | [], _, _ => (by decide : Builtin.bitAnd 0 (Builtin.bitNot 0) = 0)
  | x :: own, a, b => by
    have e : Builtin.bitNot (num (x :: own) b) = (if x ∈ b then (0 : Int) else 1) + 2 * Builtin.bitNot (num own b) := by
      rw [num_cons]
      unfold Builtin.bitNot
      split <;> omega
    rw [e, num_cons, num_cons, bit_halves _ _ _ _ (one01 _) (by split <;> simp), num_diff own a b]
    congr 1
    unfold minus
    by_cases h1 : x ∈ a <;> by_cases h2 : x ∈ b <;> simp [h1, h2]
theorem num_zero : ∀ {own w : W}, num own w = 0 ↔ ∀ x ∈ own, x ∉ w
  | [], w => by simp [num]
  | x :: own, w => by
    have h := num_nn own w
    have ih := @num_zero own w
    rw [num_cons, List.forall_mem_cons, ← ih]
    by_cases e : x ∈ w
    · rw [if_pos e]
      exact ⟨fun z => by omega, fun z => absurd e z.1⟩
    · rw [if_neg e]
      exact ⟨fun z => ⟨e, by omega⟩, fun z => by omega⟩
theorem num_same : ∀ {own a b : W}, num own a = num own b ↔ ∀ x ∈ own, (x ∈ a ↔ x ∈ b)
  | [], a, b => by simp [num]
  | x :: own, a, b => by
    have ih := @num_same own a b
    rw [num_cons, num_cons, List.forall_mem_cons, ← ih]
    by_cases e : x ∈ a <;> by_cases e' : x ∈ b <;> simp [e, e'] <;> omega
/-- the sum of the bits of a set without repetition -/
theorem num_more : ∀ {own : W} {y : Str} {w : W}, own.Nodup → y ∉ w → num own (y :: w) = (if y ∈ own then bitOf own y else 0) + num own w
  | [], y, w, _, _ => by simp [num]
  | x :: own, y, w, nd, hy => by
    obtain ⟨n1, n2⟩ := List.nodup_cons.mp nd
    have ih := num_more n2 hy
    rw [num_cons, num_cons, ih]
    rw [bitOf_cons]
    by_cases e : x = y
    · subst e
      rw [if_neg n1, if_pos List.mem_cons_self, if_pos List.mem_cons_self, if_pos rfl, if_neg hy]
      omega
    · have e1 : (x ∈ y :: w) ↔ x ∈ w := by
        rw [List.mem_cons]
        exact ⟨fun z => z.elim (fun z => absurd z e) id, .inr⟩
      have e2 : (y ∈ x :: own) ↔ y ∈ own := by
        rw [List.mem_cons]
        exact ⟨fun z => z.elim (fun z => absurd z.symm e) id, .inr⟩
      have e3 : ¬ y = x := fun z => e z.symm
      simp only [e1, e2, e3, if_false]
      split <;> split <;> omega
theorem num_nil : ∀ own : W, num own [] = 0
  | [] => rfl
  | x :: own => by
    rw [num_cons, num_nil own]
    simp
theorem num_sum {own : W} (nd : own.Nodup) : ∀ {w : W}, w.Nodup → ((w.filter fun z => decide (z ∈ own)).map (bitOf own)).sum = num own w
  | [], _ => by
    rw [num_nil]
    rfl
  | y :: w, h => by
    obtain ⟨n1, n2⟩ := List.nodup_cons.mp h
    rw [num_more nd n1, ← num_sum nd n2]
    by_cases e : y ∈ own
    · rw [List.filter_cons_of_pos (by simpa using e), List.map_cons, List.sum_cons, if_pos e]
    · rw [List.filter_cons_of_neg (by simpa using e), if_neg e, Int.zero_add]
theorem bit_nn : ∀ (own : W) (x : Str), 0 ≤ bitOf own x
  | [], _ => (by decide : (0 : Int) ≤ 1)
  | y :: own, x => by
    have h := bit_nn own x
    unfold bitOf
    split <;> omega
theorem bit_at' : ∀ {own : W} {i : Nat} {x : Str}, own.Nodup → own[i]? = some x → bitOf own x = 2 ^ i
  | [], i, x, _, h => by simp at h
  | y :: own, 0, x, _, h => by
    rw [List.getElem?_cons_zero, Option.some.injEq] at h
    subst h
    unfold bitOf
    rw [if_pos rfl]
    rfl
  | y :: own, i + 1, x, nd, h => by
    obtain ⟨n1, n2⟩ := List.nodup_cons.mp nd
    rw [List.getElem?_cons_succ] at h
    have ne : ¬ x = y := fun e => n1 (e ▸ List.mem_of_getElem? h)
    unfold bitOf
    rw [if_neg ne, bit_at' n2 h, Int.pow_succ]
    omega
/-! ### the numbers below a number, within it -/
theorem within_step : ∀ (n : Nat) (h t m : Int), h.toNat ≤ n → 0 < h → 0 ≤ m → Builtin.bitAnd h t = h → Builtin.bitAnd m t = m → m < h → m ≤ Builtin.bitAnd (h - 1) t
  | 0, h, t, m, e, h0, _, _, _, _ => by omega
  | n + 1, h, t, m, e, h0, m0, hh, hm, lt => by
    rw [PySem.W.kbt_halves] at hh hm ⊢
    have ih := within_step n (h / 2) (t / 2) (m / 2)
    by_cases odd : h % 2 = 1
    · have e1 : (h - 1) / 2 = h / 2 := by omega
      have e2 : (h - 1) % 2 = 0 := by omega
      rw [e1, e2]
      split at hh <;> split at hm <;> simp <;> omega
    · have e1 : (h - 1) / 2 = h / 2 - 1 := by omega
      have e2 : (h - 1) % 2 = 1 := by omega
      rw [e1, e2]
      have hh2 : Builtin.bitAnd (h / 2) (t / 2) = h / 2 := by
        split at hh
        · omega
        · omega
      have hm2 : Builtin.bitAnd (m / 2) (t / 2) = m / 2 := by
        split at hm <;> omega
      have z := ih (by omega) (by omega) (by omega) hh2 hm2 (by omega)
      split at hm <;> split <;> omega
theorem and_nn {x y : Int} (hx : 0 ≤ x) (hy : 0 ≤ y) : 0 ≤ Builtin.bitAnd x y ∧ Builtin.bitAnd x y ≤ x ∧ Builtin.bitAnd (Builtin.bitAnd x y) y = Builtin.bitAnd x y := by
  rw [bitAnd_pp hx hy]
  have e : (x.toNat &&& y.toNat) ≤ x.toNat := Nat.and_le_left
  refine ⟨Int.natCast_nonneg _, by omega, ?_⟩
  rw [bitAnd_pp (Int.natCast_nonneg _) hy, Int.toNat_natCast, Nat.and_assoc, Nat.and_self]
/-- every number within a set's number is the number of a part -/
theorem num_part : ∀ {own t : W} {m : Int}, own.Nodup → 0 ≤ m → Builtin.bitAnd m (num own t) = m → ∃ h : W, h.Sublist own ∧ (∀ x ∈ h, x ∈ t) ∧ num own h = m
  | [], t, m, _, m0, e => by
    refine ⟨[], List.Sublist.refl _, (fun x h => nomatch h), ?_⟩
    have z := (and_nn (show (0 : Int) ≤ 0 by decide) m0).2.1
    have z2 : Builtin.bitAnd m 0 = Builtin.bitAnd 0 m := bitAnd_comm _ _
    rw [show num [] t = 0 from rfl, z2] at e
    rw [show num [] [] = 0 from rfl]
    omega
  | x :: own, t, m, nd, m0, e => by
    obtain ⟨n1, n2⟩ := List.nodup_cons.mp nd
    rw [num_cons] at e
    have em : m = m % 2 + 2 * (m / 2) := by omega
    rw [em, bit_halves _ _ _ _ (by omega) (one01 _)] at e
    have q : Builtin.bitAnd (m / 2) (num own t) = m / 2 := by
      split at e <;> omega
    obtain ⟨h, s1, s2, s3⟩ := num_part n2 (by omega) q
    have hx : x ∉ h := fun z => n1 (s1.subset z)
    by_cases odd : m % 2 = 1
    · have hxt : x ∈ t := by
        by_cases z : x ∈ t
        · exact z
        · rw [if_neg z] at e
          rw [if_neg (fun z => by omega)] at e
          omega
      refine ⟨x :: h, List.cons_sublist_cons.mpr s1, fun z hz => (List.mem_cons.mp hz).elim (fun e => e ▸ hxt) (s2 z), ?_⟩
      rw [num_cons, if_pos List.mem_cons_self, (num_same (a := x :: h) (b := h)).mpr fun z hz => ?_, s3]
      · omega
      · rw [List.mem_cons]
        exact ⟨fun q => q.elim (fun q => absurd (q ▸ hz) n1) id, .inr⟩
    · refine ⟨h, s1.cons _, s2, ?_⟩
      rw [num_cons, if_neg hx, s3]
      omega
/-! ### all worlds of a row of names, ascending -/
def everyW : W → List W
  | [] => [[]]
  | x :: own => [] :: ((everyW own).map (fun t => x :: t) ++ (everyW own).tail)
theorem every_head : ∀ own : W, ∃ r, everyW own = [] :: r
  | [] => ⟨[], rfl⟩
  | x :: own => ⟨_, rfl⟩
theorem every_len : ∀ own : W, (everyW own).length = 2 ^ own.length
  | [] => rfl
  | x :: own => by
    obtain ⟨r, e⟩ := every_head own
    have ih := every_len own
    have p : 0 < 2 ^ own.length := Nat.pow_pos (by decide)
    unfold everyW
    rw [List.length_cons, List.length_append, List.length_map, List.length_tail, ih, List.length_cons, Nat.pow_succ]
    omega
theorem every_ne {own t : W} (h : t ∈ (everyW own).tail) : t ∈ everyW own := List.mem_of_mem_tail h
theorem mem_every : ∀ {own t : W}, t ∈ everyW own ↔ t.Sublist own
  | [], t => by
    unfold everyW
    rw [List.mem_singleton, List.sublist_nil]
  | x :: own, t => by
    obtain ⟨r, e⟩ := every_head own
    unfold everyW
    rw [List.mem_cons, List.mem_append, List.mem_map]
    constructor
    · rintro (rfl | ⟨s, hs, rfl⟩ | h)
      · exact List.nil_sublist _
      · exact List.cons_sublist_cons.mpr (mem_every.mp hs)
      · exact (mem_every.mp (every_ne h)).cons _
    · intro s
      cases s with
      | cons _ h =>
        have z := mem_every.mpr h
        rw [e, List.mem_cons] at z
        rcases z with z | z
        · exact .inl z
        · exact .inr (.inr (by rw [e]; exact z))
      | cons_cons _ h => exact .inr (.inl ⟨_, mem_every.mpr h, rfl⟩)
end Rw
namespace Rw
open PySem PySem.Spec PyProof.Rows L2
/-! ### a comprehension into a dict over any walk -/
theorem dc_it {J : It} {n : Nat} {G : Hp → Prop} {Y : Nat → Hp → V → Hp → Prop} (w : Walk J n G Y) {g : TG} {tt : L2.TT} {tk tv : TE} {vs : List Nat} {σ : L2.St} {H1 : Hp} {D : Addr} {Qd : Hp → Prop} (Pv : Nat → Hp → Prop) (h0 : Pv 0 (upd H1 D (.dK []))) (hG : ∀ i H, i ≤ n → Pv i H → G H)
    (hs : ∀ i x H H', i < n → Pv i H → Y i H x H' → g x (wipe σ vs) H' fun σ2 H2 => wipe σ2 vs = wipe σ vs ∧ tt σ2 H2 fun b H3 =>
      if b = true then tk σ2 H3 fun y H4 => tv σ2 H4 fun z H5 => ∃ kvs k, y = kV k ∧ H5 D = some (.dK kvs) ∧ kvs.length < sizeLine ∧ Pv (i + 1) (upd H5 D (.dK (putK kvs k z))) else Pv (i + 1) H3) (hd : ∀ H, Pv n H → Qd H) :
    ∃ W : Nat → Nat → Hp → Prop, (∃ m, W 0 m (upd H1 D (.dK []))) ∧ ∀ i m H, W i m H →
      (J.stop i H ∧ Qd H) ∨ (J.go i H ∧ ∃ Nx : Hp → Prop, (∀ H', Nx H' → ∃ m', m' < m ∧ W (i + 1) m' H') ∧ ∀ x H', J.yld i H x H' → g x (wipe σ vs) H' fun σ2 H2 => wipe σ2 vs = wipe σ vs ∧ tt σ2 H2 fun b H3 =>
        if b = true then tk σ2 H3 fun y H4 => tv σ2 H4 fun z H5 => ∃ kvs k, y = kV k ∧ H5 D = some (.dK kvs) ∧ kvs.length < sizeLine ∧ Nx (upd H5 D (.dK (putK kvs k z))) else Nx H3) := by
  refine ⟨fun i m H => m = n - i ∧ i ≤ n ∧ Pv i H, ⟨n, by simp, Nat.zero_le _, h0⟩, ?_⟩
  rintro i m H ⟨rfl, hi, p⟩
  have q := hG i H hi p
  by_cases hlt : i < n
  · refine .inr ⟨w.goes i H hlt q, Pv (i + 1), fun H' p' => ⟨n - (i + 1), by omega, rfl, hlt, p'⟩, fun x H' y => hs i x H H' hlt p (w.yields i H x H' hlt q y)⟩
  · have e : i = n := by omega
    subst e
    exact .inl ⟨w.stops H q, hd H p⟩
theorem walk_enumT {K : PySem.W.Frag} {a : Addr} {xs : List V} : Walk (Ietup K a) xs.length (fun H => SqT K H a xs) (YPair (fun i => some (.int (i : Nat))) (fun i => xs[i]?)) := by
  refine ⟨fun i _ hi q => ⟨xs, xs[i], q, by simp [hi]⟩, fun _ q => ⟨xs, q, rfl⟩, fun i H v H' _ q y => ?_⟩
  obtain ⟨T, x, h1, h2, h3, h4⟩ := y
  exact ⟨T, .int (i : Nat), x, h1, h2, h3, rfl, h4 xs q⟩
/-! ### _bits_of -/
/-- the dict of names and their bits, the first n of them -/
def BD (own : W) (ns : W) : HO := .dK (ns.map fun z => (.inr z, .int (bitOf own z)))
theorem valBD {own : W} : ∀ {ns : W} {z : Str}, valV (ns.map fun z => ((.inr z : Key), V.int (bitOf own z))) (.inr z) = if z ∈ ns then some (V.int (bitOf own z)) else none
  | [], z => rfl
  | y :: ns, z => by
    have ih := @valBD own ns z
    unfold valV at ih ⊢
    rw [List.map_cons, List.find?_cons]
    by_cases e : z = y
    · subst e
      simp
    · have e' : ¬ ((.inr y : Key) = .inr z) := fun q => e (Sum.inr.inj q).symm
      simp only [e', decide_false]
      rw [ih]
      simp [e]
theorem idx_new1 {ns : W} {i : Nat} {z : Str} (nd : ns.Nodup) (hz : ns[i]? = some z) : z ∉ ns.take i := fun h => by
  obtain ⟨j, hj, e⟩ := List.getElem_of_mem h
  rw [List.length_take] at hj
  rw [List.getElem_take] at e
  obtain ⟨hi, e2⟩ := List.getElem?_eq_some_iff.mp hz
  have z2 := (List.getElem_inj (h₀ := by omega) (h₁ := hi) nd).mp (e.trans e2.symm)
  omega
theorem scBitsOf : FnScope ["names", "place", "name"] ["names"] (defScope sBitsOf) := ⟨rfl, rfl, rfl, by decide +kernel, rfl, by decide +kernel, by decide +kernel⟩
section
variable {P : Program} {w : World} {K : PySem.W.Frag} {mg : Str → Option Value} {base : Heap} {f : Addr} {fd : FuncData} {k : Nat}
def spBitsOf (K : PySem.W.Frag) : Sp := fun vs H Q _ => ∃ (a : Addr) (own : W), vs = [.ref a] ∧ SqT K H a (own.map V.str) ∧ own.Nodup ∧ own.length ≤ 40 ∧ ∀ H' D, Same H H' → H D = none → H' D = some (BD own own) → Q (.ref D) H'
theorem ok_bitsOf (F : Fun K "_bits_of" "_bits_of" sBitsOf f fd) (T : Bl mg) : FnOk P w K mg base CX0 (k + 1) f fd ["names"] (spBitsOf K) := by
  refine F.ok scBitsOf (fun vs H Q E h => ?_) (fun cdv A outer s H vs Q E hr h => ?_)
  · obtain ⟨a, own, rfl, _⟩ := h
    rfl
  obtain ⟨a, own, rfl, hT, nd, few, q⟩ := h
  have nl := few
  refine ⟨_, pss_one (ps_ret (pe_dc (own := [("place", 1), ("name", 2)]) (g := gTup K 2 (gCons (gName 1) (gCons (gName 2) gNil))) (tk := tVar 2) (tv := tOp (rI CPow fun i j => .int (i * 2 ^ j.toNat)) (tC (.int 1)) (tVar 1)) (by rfl) scBitsOf.nd (pi_enumT (by rfl) T.enum (pa_cons (pv 0) pa_nil)) (blkOk_by (N := ["names", "place", "name"]) (sc := defScope sBitsOf) (by decide +kernel))
    (fun _ _ _ _ _ => pg_tup (by rfl) (pgs_cons (pg_name (i := 1) scBitsOf.nd rfl (.inl rfl)) (pgs_cons (pg_name (i := 2) scBitsOf.nd rfl (.inl rfl)) pgs_nil))) (fun _ _ _ _ _ => pts_nil) (fun _ _ _ _ _ => pv 2) (fun _ _ _ _ _ => pe_op op_shl pe_int (pv 1)))), ?_⟩
  refine ⟨.ref a, rfl, a, _, rfl, hT, fun D hD => ?_⟩
  refine dc_it walk_enumT (fun i H2 => Same H H2 ∧ H2 D = some (BD own (own.take i))) ⟨same_new hD _, upd_same⟩ (fun i H2 _ h => same_tup h.1 hT) (fun i x H2 H3 hi h hy => ?_) (fun H2 h => ?_)
  · obtain ⟨sm, hd⟩ := h
    obtain ⟨t, x1, x2, rfl, ht, rfl, e1, e2⟩ := hy
    obtain ⟨z, hz, rfl⟩ := map_at e2
    cases e1
    have tD : t ≠ D := fun e => by rw [e, hd] at ht; cases ht
    have hd3 : upd H2 t (.tup [.int (i : Nat), .str z]) D = some (BD own (own.take i)) := by rw [upd_ne (Ne.symm tD)]; exact hd
    rw [List.length_map] at hi
    refine ⟨t, [.int (i : Nat), .str z], rfl, SqT.of upd_same, rfl, .int (i : Nat), [.str z], rfl, .str z, [], rfl, rfl, rfl, .str z, rfl, .int (i : Nat), rfl, 1, (i : Int), rfl, rfl, ⟨by omega, by omega, by decide⟩, ?_⟩
    refine ⟨_, .inr z, rfl, hd3, small_line' (by rw [List.length_map, List.length_take]; omega), same_put (sm.trans (same_new ht _)) hD, ?_⟩
    rw [upd_same]
    have new : z ∉ own.take i := idx_new1 nd hz
    have e : ((own.take i).map fun y => ((.inr y : Key), V.int (bitOf own y))).any (fun kv => decide (kv.1 = .inr z)) = false := by
      rw [List.any_eq_false]
      intro p hp
      obtain ⟨y, hy, rfl⟩ := List.mem_map.mp hp
      simp only [decide_eq_true_eq]
      exact fun q => new (Sum.inr.inj q ▸ hy)
    unfold BD putK
    rw [if_neg (by rw [e]; exact Bool.false_ne_true), take_snoc hz, List.map_append]
    have e1 : ((1 : Int) * 2 ^ (i : Int).toNat) = bitOf own z := by
      rw [show (i : Int).toNat = i from rfl, Int.one_mul, ← bit_at' nd hz]
    show some (HO.dK (_ ++ [(Sum.inr z, V.int ((1 : Int) * 2 ^ (i : Int).toNat))])) = _
    rw [e1]
    rfl
  · obtain ⟨sm, hd⟩ := h
    rw [List.length_map, List.take_length] at hd
    exact q H2 D sm hD hd
end
/-! ### _number -/
theorem scNumber : FnScope ["world", "bits", "name"] ["world", "bits"] (defScope sNumber) := ⟨rfl, rfl, rfl, by decide +kernel, rfl, by decide +kernel, by decide +kernel⟩
theorem filt_take {α : Type} {p : α → Bool} {l : List α} {i : Nat} {x : α} (h : l[i]? = some x) : (l.take (i + 1)).filter p = (l.take i).filter p ++ (if p x then [x] else []) := by
  rw [take_snoc h, List.filter_append]
  cases e : p x with
  | true => simp [e]
  | false => simp [e]
section
variable {P : Program} {w : World} {K : PySem.W.Frag} {mg : Str → Option Value} {base : Heap} {f : Addr} {fd : FuncData} {k : Nat}
def spNumber (K : PySem.W.Frag) : Sp := fun vs H Q _ => ∃ (x : V) (b : Addr) (ns own : W), vs = [x, .ref b] ∧ Dp K H x (wd ns) ∧ H b = some (BD own own) ∧ own.Nodup ∧ ns.Nodup ∧ ns.length ≤ 1000 ∧ ∀ H', Same H H' → Q (.int (num own ns)) H'
theorem ok_number (F : Fun K "_number" "_number" sNumber f fd) (T : Bl mg) (ms : mg "sum" = none) : FnOk P w K mg base CX0 (k + 1) f fd ["world", "bits"] (spNumber K) := by
  refine F.ok scNumber (fun vs H Q E h => ?_) (fun cdv A outer s H vs Q E hr h => ?_)
  · obtain ⟨x, b, ns, own, rfl, _⟩ := h
    rfl
  obtain ⟨x, b, ns, own, rfl, hx, hb, nd, nn, few, q⟩ := h
  obtain ⟨a, rfl, hT⟩ := of_wd hx
  have hu := hu_of hr
  refine ⟨_, pss_one (ps_ret (pe_callB (cr_sum rfl) (by rfl) ms (by decide +kernel) (pa_cons (pe_lc (own := [("name", 2)]) (g := gName 2) (tt := tTest (tDIn (tVar 2) (tVar 1))) (te := tDGet (tVar 1) (tVar 2)) (by rfl) scNumber.nd (pi_tup (pv 0)) (blkOk_by (N := ["world", "bits", "name"]) (sc := defScope sNumber) (by decide +kernel))
        (fun _ _ _ _ _ => pg_name (i := 2) scNumber.nd rfl (Or.inl rfl)) (fun _ _ _ _ _ => pts_one (pt_cmp (pc_din hu (pv 2) (pv 1)) (by rfl))) (fun _ _ _ _ _ => pe_dget hu (pv 1) (pv 2) (fun _ _ => rfl))) pa_nil))), ?_⟩
  refine ⟨.ref a, rfl, a, rfl, ⟨_, hT⟩, fun D hD => ?_⟩
  refine lc_tup (xs := ns.map V.str) (fun i H1 => Same H H1 ∧ H1 D = some (.lst ((((ns.take i).filter fun z => decide (z ∈ own)).map (bitOf own)).map V.int))) ⟨same_new hD _, upd_same⟩ (fun i H1 _ hI => same_tup hI.1 hT) (fun i x H1 hx hI => ?_) (fun H1 hI => ?_)
  · obtain ⟨sm, hd⟩ := hI
    obtain ⟨z, hz, rfl⟩ := map_at hx
    have hb1 := sm _ _ hb
    by_cases e : z ∈ own
    · have hv : some (V.int (bitOf own z)) = valV (own.map fun z => ((.inr z : Key), V.int (bitOf own z))) (.inr z) := by rw [valBD, if_pos e]
      refine ⟨rfl, .str z, rfl, .ref b, rfl, b, some (.int (bitOf own z)), rfl, .inl ⟨_, .inr z, .inl hb1, rfl, hv⟩, true, rfl, iteT ?_⟩
      refine ⟨.ref b, rfl, .str z, rfl, b, .int (bitOf own z), rfl, .inl ⟨_, .inr z, .inl hb1, rfl, hv⟩, _, hd, small_line' ?_, same_put sm hD, ?_⟩
      · rw [List.length_map, List.length_map]
        have := List.length_filter_le (fun z => decide (z ∈ own)) (ns.take i)
        rw [List.length_take] at this
        omega
      · rw [upd_same, filt_take hz, if_pos (decide_eq_true e), List.map_append, List.map_append]
        rfl
    · have hv : none = valV (own.map fun z => ((.inr z : Key), V.int (bitOf own z))) (.inr z) := by rw [valBD, if_neg e]
      refine ⟨rfl, .str z, rfl, .ref b, rfl, b, none, rfl, .inl ⟨_, .inr z, .inl hb1, rfl, hv⟩, false, rfl, iteF ⟨sm, ?_⟩⟩
      rw [hd, filt_take hz, if_neg (by simpa using e), List.append_nil]
  · obtain ⟨sm, hd⟩ := hI
    rw [List.length_map, List.take_length] at hd
    refine ⟨D, ((ns.filter fun z => decide (z ∈ own)).map (bitOf own)), rfl, SqL.of hd, ?_⟩
    rw [num_sum nd nn]
    exact q H1 sm
end
end Rw
namespace Rw
open PySem PySem.Spec PyProof.Rows L2
/-! ### _numbered -/
abbrev nNumbered : List Str := ["program", "bits", "rows", "heads", "denied", "needs", "bars"]
theorem scNumbered : FnScope nNumbered ["program", "bits"] (defScope sNumbered) := ⟨rfl, rfl, rfl, by decide +kernel, rfl, by decide +kernel, by decide +kernel⟩
/-- a rule in numbers -/
abbrev N4 : Type := Int × Int × Int × Int
def numR (own : W) (r : Rl) : N4 := (num own r.1, num own r.2.1, num own r.2.2.1, num own r.2.2.2)
def d4 (n : N4) : PyData := .tuple [.int n.1, .int n.2.1, .int n.2.2.1, .int n.2.2.2]
theorem ok_d4 (n : N4) : okD (d4 n) = true := rfl
/-- a list of data -/
def L4 (K : PySem.W.Frag) (H : Hp) (l : Addr) (R : List N4) : Prop := ∃ ys, H l = some (.lst ys) ∧ DpAll K H ys (R.map d4)
theorem okDs_d4 (R : List N4) : okDs (R.map d4) = true := okDs_all fun d hd => by
  obtain ⟨n, _, rfl⟩ := List.mem_map.mp hd
  exact ok_d4 n
theorem L4.same {K : PySem.W.Frag} {H H' : Hp} {l : Addr} {R : List N4} (h : L4 K H l R) (e : Same H H') : L4 K H' l R := by
  obtain ⟨ys, h1, h2⟩ := h
  exact ⟨ys, e _ _ h1, (Stay.same e).dpAll _ _ (okDs_d4 R) h2⟩
theorem of_d4 {K : PySem.W.Frag} {H : Hp} {x : V} {n : N4} (h : Dp K H x (d4 n)) : ∃ a, x = .ref a ∧ SqT K H a [.int n.1, .int n.2.1, .int n.2.2.1, .int n.2.2.2] := by
  unfold d4 at h
  cases h with
  | @tup a xs _ hT hxs =>
    cases hxs with
    | cons h1 t =>
      cases t with
      | cons h2 t =>
        cases t with
        | cons h3 t =>
          cases t with
          | cons h4 t =>
            cases t
            cases h1
            cases h2
            cases h3
            cases h4
            exact ⟨a, rfl, hT⟩
theorem to_d4 {K : PySem.W.Frag} {H : Hp} {a : Addr} {n : N4} (h : SqT K H a [.int n.1, .int n.2.1, .int n.2.2.1, .int n.2.2.2]) : Dp K H (.ref a) (d4 n) := .tup h (.cons (.int _) (.cons (.int _) (.cons (.int _) (.cons (.int _) .nil))))
section
variable {P : Program} {w : World} {K : PySem.W.Frag} {mg : Str → Option Value} {base : Heap} {f : Addr} {fd : FuncData} {k : Nat}
def spNumbered (K : PySem.W.Frag) (C : Addr) : Sp := fun vs H Q _ => ∃ (v : V) (b : Addr) (S : List Rl) (own : W), vs = [v, .ref b] ∧ PgAt K C H v S ∧ (∀ r ∈ S, IsR r) ∧ S.length < 76 ∧ H b = some (BD own own) ∧ own.Nodup ∧ ∀ H' l, Same H H' → H l = none → L4 K H' l (S.map (numR own)) → Q (.ref l) H'
theorem ok_numbered {C pr f1 f2 : Addr} {fd1 fd2 : FuncData} (F : Fun K "_numbered" "_numbered" sNumbered f fd) (T : Bl mg) (c : Cls K C) (hp : PropOf K C "rules" pr f2)
    (G1 : FnOk P w K mg base CX0 (k + 1) f1 fd1 ["world", "bits"] (spNumber K)) (b1 : Binds K fd1 ["world", "bits"] []) (k1 : PySem.W.keepIn K (.ref f1) = true) (m1 : mg "_number" = some (.ref f1))
    (G2 : FnOk P w K mg base CX0 k f2 fd2 ["self"] (spRules K C)) (b2 : Binds K fd2 ["self"] []) : FnOk P w K mg base CX0 (k + 2) f fd ["program", "bits"] (spNumbered K C) := by
  refine F.ok scNumbered (fun vs H Q E h => ?_) (fun cdv A outer s H vs Q E hr h => ?_)
  · obtain ⟨v, b, S, own, rfl, _⟩ := h
    rfl
  obtain ⟨v, b, S, own, rfl, hS, hI, few, hb, nd, q⟩ := h
  refine ⟨_, pss_cons (ps_set (i := 2) scNumbered.nd rfl (.inl rfl) (pe_lst pa_nil))
    (pss_cons (ps_for PassesOwn.never rfl (pi_tup (pe_prop (pv 0) c hp G2 hr b2 .nil pass0 rfl)) (pg_tup (by rfl) (pgs_cons (pg_name (i := 3) scNumbered.nd rfl (.inl rfl)) (pgs_cons (pg_name (i := 4) scNumbered.nd rfl (.inl rfl)) (pgs_cons (pg_name (i := 5) scNumbered.nd rfl (.inl rfl)) (pgs_cons (pg_name (i := 6) scNumbered.nd rfl (.inl rfl)) pgs_nil)))))
      (pss_one (ps_expr (pe_bm PySem.F.plainAttrs_list PySem.F.slot_list_append PySem.F.type_list_append mt_append (pv 2) (pa_cons (pe_tup
        (pa_cons (pe_call G1 hr (by rfl) m1 k1 b1 .nil pass0 (pa_cons (pv 3) (pa_cons (pv 1) pa_nil)))
        (pa_cons (pe_call G1 hr (by rfl) m1 k1 b1 .nil pass0 (pa_cons (pv 4) (pa_cons (pv 1) pa_nil)))
        (pa_cons (pe_call G1 hr (by rfl) m1 k1 b1 .nil pass0 (pa_cons (pv 5) (pa_cons (pv 1) pa_nil)))
        (pa_cons (pe_call G1 hr (by rfl) m1 k1 b1 .nil pass0 (pa_cons (pv 6) (pa_cons (pv 1) pa_nil))) pa_nil))))) pa_nil)))))
    (pss_one (ps_ret (pv 2)))), ?_⟩
  refine ⟨by show 0 ≤ sizeLine; decide, fun d hd0 => ?_⟩
  have s0 := same_new hd0 (.lst [])
  have hdS : (upd H d (.lst [])) d = some (.lst []) := upd_same
  let H0 : Hp := upd H d (.lst [])
  have mutd : Mut (H0 d) := by
    show Mut ((upd H d (.lst [])) d)
    rw [hdS]
    exact True.intro
  have hS1 := hS.same s0
  obtain ⟨a, dx, t0, ys0, rfl, i1, i2, i3⟩ := id hS1
  refine ⟨.ref a, rfl, a, dx, _, rfl, i1, .ref a, S, rfl, hS1, fun t ys ht hys => ?_⟩
  have yl : ys.length = S.length := by rw [dpAll_len hys, List.length_map]
  refine ⟨t, rfl, ⟨_, ht⟩, ?_⟩
  refine for_tup (xs := ys) (fun i σ H2 => (∃ y3 y4 y5 y6, σ = [some (.ref a), some (.ref b), some (.ref d), y3, y4, y5, y6]) ∧ Same H H2 ∧ Bar d H0 H2 ∧ L4 K H2 d ((S.take i).map (numR own))) ⟨⟨_, _, _, _, rfl⟩, s0, fun _ _ _ e => e, [], hdS, .nil⟩ (fun i σ H2 _ hI2 => ?_) (fun i x σ H2 hx hI2 => ?_) (fun σ H2 hI2 => ?_)
  · exact (hI2.2.2.1.stay mutd).seq ht
  · obtain ⟨⟨y3, y4, y5, y6, rfl⟩, sm, bar, zs, hd2, hzs⟩ := hI2
    obtain ⟨dd, hdd, hxd⟩ := dpAll_at' hys hx
    obtain ⟨r, hr0, rfl⟩ := map_at hdd
    have hr' := hI r (List.mem_of_getElem? hr0)
    have st : Stay H0 H2 := bar.stay mutd
    obtain ⟨b0, v1, v2, v3, v4, rfl, hT, h1, h2, h3, h4⟩ := of_rd (st.rd hxd)
    have hb2 := sm _ _ hb
    refine ⟨b0, _, rfl, hT, rfl, _, _, rfl, _, _, rfl, _, _, rfl, _, [], rfl, rfl, ?_⟩
    refine ⟨.ref d, rfl, .inl ⟨rfl, zs, SqL.of hd2⟩, ?_⟩
    refine ⟨v1, rfl, .ref b, rfl, v1, b, r.1, own, rfl, h1, hb2, nd, upX_nodup hr'.h.up, by have := hr'.h.few; omega, fun H3 s3 => ?_⟩
    refine ⟨v2, rfl, .ref b, rfl, v2, b, r.2.1, own, rfl, (Stay.same s3).wd h2, s3 _ _ hb2, nd, upX_nodup hr'.d.up, by have := hr'.d.few; omega, fun H4 s4 => ?_⟩
    have s24 := s3.trans s4
    refine ⟨v3, rfl, .ref b, rfl, v3, b, r.2.2.1, own, rfl, (Stay.same s24).wd h3, s24 _ _ hb2, nd, upX_nodup hr'.n.up, by have := hr'.n.few; omega, fun H5 s5 => ?_⟩
    have s25 := s24.trans s5
    refine ⟨v4, rfl, .ref b, rfl, v4, b, r.2.2.2, own, rfl, (Stay.same s25).wd h4, s25 _ _ hb2, nd, upX_nodup hr'.b.up, by have := hr'.b.few; omega, fun H6 s6 => ?_⟩
    have s26 := s25.trans s6
    refine ⟨by show 4 ≤ sizeLine; decide, fun u hu => ?_⟩
    have s7 := same_new hu (.tup [.int (num own r.1), .int (num own r.2.1), .int (num own r.2.2.1), .int (num own r.2.2.2)])
    have s27 := s26.trans s7
    have hd7 := s27 _ _ hd2
    have il : i < S.length := (List.getElem?_eq_some_iff.mp hr0).1
    have m7 : Mut ((upd H6 u (.tup [.int (num own r.1), .int (num own r.2.1), .int (num own r.2.2.1), .int (num own r.2.2.2)])) d) := by
      rw [hd7]
      exact True.intro
    refine ⟨d, zs, _, rfl, rfl, hd7, small_line' (by rw [dpAll_len hzs, List.length_map, List.length_map, List.length_take]; omega), ?_⟩
    have st8 := Stay.put m7 (.lst (zs ++ [.ref u]))
    refine ⟨⟨_, _, _, _, rfl⟩, same_put (sm.trans s27) hd0, (bar.trans (.same s27)).trans .draw, zs ++ [.ref u], upd_same, ?_⟩
    rw [take_snoc hr0, List.map_append, List.map_append]
    refine dpAll_app (((Stay.same s27).trans st8).dpAll _ _ (okDs_d4 _) hzs) (.cons (st8.dp _ _ (ok_d4 _) (to_d4 (SqT.of upd_same))) .nil)
  · obtain ⟨⟨y3, y4, y5, y6, rfl⟩, sm, bar, hL⟩ := hI2
    rw [yl, List.take_length] at hL
    exact ⟨.ref d, rfl, q H2 d sm hd0 hL⟩
end
end Rw
namespace Rw
open PySem PySem.Spec PyProof.Rows L2
/-! ### _agree, _all_met -/
abbrev nAgree : List Str := ["rows", "here", "there", "heads", "denied", "needs", "bars"]
theorem scAgree : FnScope nAgree ["rows", "here", "there"] (defScope sAgree) := ⟨rfl, rfl, rfl, by decide +kernel, rfl, by decide +kernel, by decide +kernel⟩
theorem scAllMet : FnScope ["urgent", "here", "heads", "needs"] ["urgent", "here"] (defScope sAllMet) := ⟨rfl, rfl, rfl, by decide +kernel, rfl, by decide +kernel, by decide +kernel⟩
def nz (i : Int) : Bool := i != 0
def passI (n : N4) (here there : Int) : Bool := nz (Builtin.bitAnd n.2.2.1 (Builtin.bitNot here)) || (nz (Builtin.bitAnd n.2.2.2 there) || (nz (Builtin.bitAnd n.1 here) || nz (Builtin.bitAnd n.2.1 (Builtin.bitNot there))))
def agreeI (R : List N4) (here there : Int) : Bool := R.all fun n => passI n here there
theorem all_take12 {α : Type} {p : α → Bool} {S : List α} {i : Nat} {r : α} (hr : S[i]? = some r) (h : (S.take i).all p = true) (b : p r = true) : (S.take (i + 1)).all p = true := by
  rw [take_snoc hr, List.all_append, h]
  simp [b]
theorem all_no12 {α : Type} {p : α → Bool} {S : List α} {i : Nat} {r : α} (hr : S[i]? = some r) (b : p r = false) : S.all p = false := by
  rw [List.all_eq_false]
  exact ⟨r, List.mem_of_getElem? hr, by simp [b]⟩
section
variable {P : Program} {w : World} {K : PySem.W.Frag} {mg : Str → Option Value} {base : Heap} {f : Addr} {fd : FuncData} {k : Nat}
def spAgree (K : PySem.W.Frag) : Sp := fun vs H Q _ => ∃ (l : Addr) (h t : Int) (R : List N4), vs = [.ref l, .int h, .int t] ∧ L4 K H l R ∧ Q (.bl (agreeI R h t)) H
theorem ok_agree (F : Fun K "_agree" "_agree" sAgree f fd) : FnOk P w K mg base CX0 (k + 1) f fd ["rows", "here", "there"] (spAgree K) := by
  refine F.ok scAgree (fun vs H Q E h => ?_) (fun cdv A outer s H vs Q E hr h => ?_)
  · obtain ⟨l, h, t, R, rfl, _⟩ := h
    rfl
  obtain ⟨l, h, t, R, rfl, ⟨ys, hl, hys⟩, q⟩ := h
  refine ⟨_, pss_cons (ps_for PassesOwn.never rfl (pi_list (pv 0)) (pg_tup (by rfl) (pgs_cons (pg_name (i := 3) scAgree.nd rfl (.inl rfl)) (pgs_cons (pg_name (i := 4) scAgree.nd rfl (.inl rfl)) (pgs_cons (pg_name (i := 5) scAgree.nd rfl (.inl rfl)) (pgs_cons (pg_name (i := 6) scAgree.nd rfl (.inl rfl)) pgs_nil)))))
      (pss_one (ps_if (pt_not (PW.pt
        (pw_or (pt_truth (pe_op op_and (pv 5) (pe_un un_inv (pv 1))) (by intro _; rfl))
        (pw_or (pt_truth (pe_op op_and (pv 6) (pv 2)) (by intro _; rfl))
        (pw_or (pt_truth (pe_op op_and (pv 3) (pv 1)) (by intro _; rfl))
        (pw_or1 (pt_truth (pe_op op_and (pv 4) (pe_un un_inv (pv 2))) (by intro _; rfl))))))))
        (pss_one (ps_ret pe_bl)) pss_nil)))
    (pss_one (ps_ret pe_bl)), ?_⟩
  have yl : ys.length = R.length := by rw [dpAll_len hys, List.length_map]
  refine ⟨.ref l, rfl, l, rfl, ⟨_, SqL.of hl⟩, ?_⟩
  refine for_list (xs := ys) (fun i σ H2 => (∃ y3 y4 y5 y6, σ = [some (.ref l), some (.int h), some (.int t), y3, y4, y5, y6]) ∧ H2 = H ∧ (R.take i).all (fun n => passI n h t) = true) ⟨⟨_, _, _, _, rfl⟩, rfl, rfl⟩ (fun i σ H2 _ hI2 => by rw [hI2.2.1]; exact SqL.of hl) (fun i x σ H2 hx hI2 => ?_) (fun σ H2 hI2 => ?_)
  · obtain ⟨⟨y3, y4, y5, y6, rfl⟩, rfl, ha⟩ := hI2
    obtain ⟨dd, hdd, hxd⟩ := dpAll_at' hys hx
    obtain ⟨n, hn, rfl⟩ := map_at hdd
    obtain ⟨u, rfl, hT⟩ := of_d4 hxd
    refine ⟨u, _, rfl, hT, rfl, _, _, rfl, _, _, rfl, _, _, rfl, _, [], rfl, rfl, ?_⟩
    have no : passI n h t = false → Q (.bl false) H2 := fun e => by
      rw [show agreeI R h t = false from all_no12 hn e] at q
      exact q
    have yes : passI n h t = true → (∃ y3 y4 y5 y6, [some (V.ref l), some (.int h), some (.int t), some (.int n.1), some (.int n.2.1), some (.int n.2.2.1), some (.int n.2.2.2)] = [some (.ref l), some (.int h), some (.int t), y3, y4, y5, y6]) ∧ H2 = H2 ∧ (R.take (i + 1)).all (fun n => passI n h t) = true := fun e => ⟨⟨_, _, _, _, rfl⟩, rfl, all_take12 hn ha e⟩
    refine ⟨.int n.2.2.1, rfl, .int h, rfl, h, rfl, _, _, rfl, rfl, nz (Builtin.bitAnd n.2.2.1 (Builtin.bitNot h)), rfl, ite2 (fun e => ?_) (fun e => ?_)⟩
    · exact iteF (yes (by unfold passI; rw [e]; rfl))
    refine ⟨.int n.2.2.2, rfl, .int t, rfl, _, _, rfl, rfl, nz (Builtin.bitAnd n.2.2.2 t), rfl, ite2 (fun e2 => ?_) (fun e2 => ?_)⟩
    · exact iteF (yes (by unfold passI; rw [e2]; simp))
    refine ⟨.int n.1, rfl, .int h, rfl, _, _, rfl, rfl, nz (Builtin.bitAnd n.1 h), rfl, ite2 (fun e3 => ?_) (fun e3 => ?_)⟩
    · exact iteF (yes (by unfold passI; rw [e3]; simp))
    refine ⟨.int n.2.1, rfl, .int t, rfl, t, rfl, _, _, rfl, rfl, nz (Builtin.bitAnd n.2.1 (Builtin.bitNot t)), rfl, ?_⟩
    have p4 : passI n h t = nz (Builtin.bitAnd n.2.1 (Builtin.bitNot t)) := by
      unfold passI
      simp [Bool.eq_false_iff.mpr e, Bool.eq_false_iff.mpr e2, Bool.eq_false_iff.mpr e3]
    cases e4 : nz (Builtin.bitAnd n.2.1 (Builtin.bitNot t)) with
    | true => exact iteF (yes (p4.trans e4))
    | false => exact iteT (no (p4.trans e4))
  · obtain ⟨⟨y3, y4, y5, y6, rfl⟩, rfl, ha⟩ := hI2
    rw [yl, List.take_length] at ha
    rw [show agreeI R h t = true from ha] at q
    exact q
/-- rules of heads and needs -/
abbrev N2 : Type := Int × Int
def d2 (n : N2) : PyData := .tuple [.int n.1, .int n.2]
theorem ok_d2 (n : N2) : okD (d2 n) = true := rfl
def L2' (K : PySem.W.Frag) (H : Hp) (l : Addr) (R : List N2) : Prop := ∃ ys, H l = some (.lst ys) ∧ DpAll K H ys (R.map d2)
theorem okDs_d2 (R : List N2) : okDs (R.map d2) = true := okDs_all fun d hd => by
  obtain ⟨n, _, rfl⟩ := List.mem_map.mp hd
  exact ok_d2 n
theorem of_d2 {K : PySem.W.Frag} {H : Hp} {x : V} {n : N2} (h : Dp K H x (d2 n)) : ∃ a, x = .ref a ∧ SqT K H a [.int n.1, .int n.2] := by
  unfold d2 at h
  cases h with
  | @tup a xs _ hT hxs =>
    cases hxs with
    | cons h1 t =>
      cases t with
      | cons h2 t =>
        cases t
        cases h1
        cases h2
        exact ⟨a, rfl, hT⟩
theorem to_d2 {K : PySem.W.Frag} {H : Hp} {a : Addr} {n : N2} (h : SqT K H a [.int n.1, .int n.2]) : Dp K H (.ref a) (d2 n) := .tup h (.cons (.int _) (.cons (.int _) .nil))
def metI (n : N2) (here : Int) : Bool := nz (Builtin.bitAnd n.2 (Builtin.bitNot here)) || nz (Builtin.bitAnd n.1 here)
def allMetI (R : List N2) (here : Int) : Bool := R.all fun n => metI n here
def spAllMet (K : PySem.W.Frag) : Sp := fun vs H Q _ => ∃ (l : Addr) (h : Int) (R : List N2), vs = [.ref l, .int h] ∧ L2' K H l R ∧ Q (.bl (allMetI R h)) H
theorem ok_allMet (F : Fun K "_all_met" "_all_met" sAllMet f fd) : FnOk P w K mg base CX0 (k + 1) f fd ["urgent", "here"] (spAllMet K) := by
  refine F.ok scAllMet (fun vs H Q E h => ?_) (fun cdv A outer s H vs Q E hr h => ?_)
  · obtain ⟨l, h, R, rfl, _⟩ := h
    rfl
  obtain ⟨l, h, R, rfl, ⟨ys, hl, hys⟩, q⟩ := h
  refine ⟨_, pss_cons (ps_for PassesOwn.never rfl (pi_list (pv 0)) (pg_tup (by rfl) (pgs_cons (pg_name (i := 2) scAllMet.nd rfl (.inl rfl)) (pgs_cons (pg_name (i := 3) scAllMet.nd rfl (.inl rfl)) pgs_nil)))
      (pss_one (ps_if (pt_not (PW.pt
        (pw_or (pt_truth (pe_op op_and (pv 3) (pe_un un_inv (pv 1))) (by intro _; rfl))
        (pw_or1 (pt_truth (pe_op op_and (pv 2) (pv 1)) (by intro _; rfl))))))
        (pss_one (ps_ret pe_bl)) pss_nil)))
    (pss_one (ps_ret pe_bl)), ?_⟩
  have yl : ys.length = R.length := by rw [dpAll_len hys, List.length_map]
  refine ⟨.ref l, rfl, l, rfl, ⟨_, SqL.of hl⟩, ?_⟩
  refine for_list (xs := ys) (fun i σ H2 => (∃ y3 y4, σ = [some (.ref l), some (.int h), y3, y4]) ∧ H2 = H ∧ (R.take i).all (fun n => metI n h) = true) ⟨⟨_, _, rfl⟩, rfl, rfl⟩ (fun i σ H2 _ hI2 => by rw [hI2.2.1]; exact SqL.of hl) (fun i x σ H2 hx hI2 => ?_) (fun σ H2 hI2 => ?_)
  · obtain ⟨⟨y3, y4, rfl⟩, rfl, ha⟩ := hI2
    obtain ⟨dd, hdd, hxd⟩ := dpAll_at' hys hx
    obtain ⟨n, hn, rfl⟩ := map_at hdd
    obtain ⟨u, rfl, hT⟩ := of_d2 hxd
    refine ⟨u, _, rfl, hT, rfl, _, _, rfl, _, [], rfl, rfl, ?_⟩
    have no : metI n h = false → Q (.bl false) H2 := fun e => by
      rw [show allMetI R h = false from all_no12 hn e] at q
      exact q
    have yes : metI n h = true → (∃ y3 y4, [some (V.ref l), some (.int h), some (.int n.1), some (.int n.2)] = [some (.ref l), some (.int h), y3, y4]) ∧ H2 = H2 ∧ (R.take (i + 1)).all (fun n => metI n h) = true := fun e => ⟨⟨_, _, rfl⟩, rfl, all_take12 hn ha e⟩
    refine ⟨.int n.2, rfl, .int h, rfl, h, rfl, _, _, rfl, rfl, nz (Builtin.bitAnd n.2 (Builtin.bitNot h)), rfl, ite2 (fun e => ?_) (fun e => ?_)⟩
    · exact iteF (yes (by unfold metI; rw [e]; rfl))
    refine ⟨.int n.1, rfl, .int h, rfl, _, _, rfl, rfl, nz (Builtin.bitAnd n.1 h), rfl, ?_⟩
    have p4 : metI n h = nz (Builtin.bitAnd n.1 h) := by
      unfold metI
      simp [Bool.eq_false_iff.mpr e]
    cases e4 : nz (Builtin.bitAnd n.1 h) with
    | true => exact iteF (yes (p4.trans e4))
    | false => exact iteT (no (p4.trans e4))
  · obtain ⟨⟨y3, y4, rfl⟩, rfl, ha⟩ := hI2
    rw [yl, List.take_length] at ha
    rw [show allMetI R h = true from ha] at q
    exact q
end
end Rw
namespace Rw
open PySem PySem.Spec PyProof.Rows L2
/-! ### _is_founded -/
abbrev nIsFounded : List Str := ["rows", "there", "urgent", "heads", "denied", "needs", "bars", "here"]
theorem scIsFounded : FnScope nIsFounded ["rows", "there"] (defScope sIsFounded) := ⟨rfl, rfl, rfl, by decide +kernel, rfl, by decide +kernel, by decide +kernel⟩
def urgB (t : Int) (n : N4) : Bool := !(nz (Builtin.bitAnd n.2.2.2 t) || (nz (Builtin.bitAnd n.2.1 (Builtin.bitNot t)) || nz (Builtin.bitAnd n.2.2.1 (Builtin.bitNot t))))
def urgI (R : List N4) (t : Int) : List N2 := (R.filter (urgB t)).map fun n => (n.1, n.2.2.1)
theorem urg_take {R : List N4} {t : Int} {i : Nat} {n : N4} (h : R[i]? = some n) : urgI (R.take (i + 1)) t = urgI (R.take i) t ++ (if urgB t n = true then [(n.1, n.2.2.1)] else []) := by
  unfold urgI
  rw [filt_take h, List.map_append]
  cases e : urgB t n with
  | true => rfl
  | false => rfl
def FoundI (R : List N4) (t : Int) : Prop := agreeI R t t = true ∧ ∀ m, 0 ≤ m → m < t → Builtin.bitAnd m t = m → allMetI (urgI R t) m = false
section
variable {P : Program} {w : World} {K : PySem.W.Frag} {mg : Str → Option Value} {base : Heap} {f : Addr} {fd : FuncData} {k : Nat}
def spIsFounded (K : PySem.W.Frag) : Sp := fun vs H Q _ => ∃ (l : Addr) (t : Int) (R : List N4), vs = [.ref l, .int t] ∧ L4 K H l R ∧ R.length < 76 ∧ 0 ≤ t ∧ ∀ b H', Same H H' → (b = true ↔ FoundI R t) → Q (.bl b) H'
theorem ok_isFounded {f1 f2 : Addr} {fd1 fd2 : FuncData} (F : Fun K "_is_founded" "_is_founded" sIsFounded f fd)
    (G1 : FnOk P w K mg base CX0 k f1 fd1 ["rows", "here", "there"] (spAgree K)) (b1 : Binds K fd1 ["rows", "here", "there"] []) (k1 : PySem.W.keepIn K (.ref f1) = true) (m1 : mg "_agree" = some (.ref f1))
    (G2 : FnOk P w K mg base CX0 k f2 fd2 ["urgent", "here"] (spAllMet K)) (b2 : Binds K fd2 ["urgent", "here"] []) (k2 : PySem.W.keepIn K (.ref f2) = true) (m2 : mg "_all_met" = some (.ref f2)) : FnOk P w K mg base CX0 (k + 1) f fd ["rows", "there"] (spIsFounded K) := by
  refine F.ok scIsFounded (fun vs H Q E h => ?_) (fun cdv A outer s H vs Q E hr h => ?_)
  · obtain ⟨l, t, R, rfl, _⟩ := h
    rfl
  obtain ⟨l, t, R, rfl, hL, few, t0, q⟩ := h
  obtain ⟨ys, hl, hys⟩ := id hL
  refine ⟨_, pss_cons (ps_if (pt_not (pt_val (pe_call G1 hr (by rfl) m1 k1 b1 .nil pass0 (pa_cons (pv 0) (pa_cons (pv 1) (pa_cons (pv 1) pa_nil)))))) (pss_one (ps_ret pe_bl)) pss_nil)
    (pss_cons (ps_set (i := 2) scIsFounded.nd rfl (.inl rfl) (pe_lst pa_nil))
    (pss_cons (ps_for PassesOwn.never rfl (pi_list (pv 0)) (pg_tup (by rfl) (pgs_cons (pg_name (i := 3) scIsFounded.nd rfl (.inl rfl)) (pgs_cons (pg_name (i := 4) scIsFounded.nd rfl (.inl rfl)) (pgs_cons (pg_name (i := 5) scIsFounded.nd rfl (.inl rfl)) (pgs_cons (pg_name (i := 6) scIsFounded.nd rfl (.inl rfl)) pgs_nil)))))
      (pss_one (ps_if (pt_not (PW.pt
        (pw_or (pt_truth (pe_op op_and (pv 6) (pv 1)) (by intro _; rfl))
        (pw_or (pt_truth (pe_op op_and (pv 4) (pe_un un_inv (pv 1))) (by intro _; rfl))
        (pw_or1 (pt_truth (pe_op op_and (pv 5) (pe_un un_inv (pv 1))) (by intro _; rfl)))))))
        (pss_one (ps_expr (pe_bm PySem.F.plainAttrs_list PySem.F.slot_list_append PySem.F.type_list_append mt_append (pv 2) (pa_cons (pe_tup (pa_cons (pv 3) (pa_cons (pv 5) pa_nil))) pa_nil)))) pss_nil)))
    (pss_cons (ps_set (i := 7) scIsFounded.nd rfl (.inl rfl) (pv 1))
    (pss_cons (ps_while PassesOwn.never (pt_truth (pv 7) (by intro _; rfl))
      (pss_cons (ps_set (i := 7) scIsFounded.nd rfl (.inl rfl) (pe_op op_and (pe_op op_sub (pv 7) pe_int) (pv 1)))
      (pss_one (ps_if (pt_val (pe_call G2 hr (by rfl) m2 k2 b2 .nil pass0 (pa_cons (pv 2) (pa_cons (pv 7) pa_nil)))) (pss_one (ps_ret pe_bl)) pss_nil))))
    (pss_one (ps_ret pe_bl)))))), ?_⟩
  have yl : ys.length = R.length := by rw [dpAll_len hys, List.length_map]
  refine ⟨.ref l, rfl, .int t, rfl, .int t, rfl, l, t, t, R, rfl, hL, _, rfl, ?_⟩
  cases ag : agreeI R t t with
  | false => exact iteT (q false H (fun _ _ e => e) ⟨(fun z => nomatch z), fun z => by rw [z.1] at ag; exact nomatch ag⟩)
  | true =>
  refine iteF ?_
  refine ⟨by show 0 ≤ sizeLine; decide, fun d hd0 => ?_⟩
  have s0 := same_new hd0 (.lst [])
  have hdS : (upd H d (.lst [])) d = some (.lst []) := upd_same
  let H0 : Hp := upd H d (.lst [])
  have mutd : Mut (H0 d) := by
    show Mut ((upd H d (.lst [])) d)
    rw [hdS]
    exact True.intro
  have nld : l ≠ d := fun z => by
    rw [z, hd0] at hl
    cases hl
  refine ⟨.ref l, rfl, l, rfl, ⟨_, SqL.of (s0 _ _ hl)⟩, ?_⟩
  refine for_list (xs := ys) (fun i σ H2 => (∃ y3 y4 y5 y6, σ = [some (.ref l), some (.int t), some (.ref d), y3, y4, y5, y6, none]) ∧ Same H H2 ∧ Bar d H0 H2 ∧ L2' K H2 d (urgI (R.take i) t)) ⟨⟨_, _, _, _, rfl⟩, s0, fun _ _ _ e => e, [], hdS, .nil⟩ (fun i σ H2 _ hI2 => SqL.of (hI2.2.1 _ _ hl)) (fun i x σ H2 hx hI2 => ?_) (fun σ H2 hI2 => ?_)
  · obtain ⟨⟨y3, y4, y5, y6, rfl⟩, sm, bar, zs, hd2, hzs⟩ := hI2
    obtain ⟨dd, hdd, hxd⟩ := dpAll_at' hys hx
    obtain ⟨n, hn, rfl⟩ := map_at hdd
    obtain ⟨u, rfl, hT⟩ := of_d4 (dp_same sm _ _ hxd)
    refine ⟨u, _, rfl, hT, rfl, _, _, rfl, _, _, rfl, _, _, rfl, _, [], rfl, rfl, ?_⟩
    have no : urgB t n = false → (∃ y3 y4 y5 y6, [some (V.ref l), some (.int t), some (.ref d), some (.int n.1), some (.int n.2.1), some (.int n.2.2.1), some (.int n.2.2.2), none] = [some (.ref l), some (.int t), some (.ref d), y3, y4, y5, y6, none]) ∧ Same H H2 ∧ Bar d H0 H2 ∧ L2' K H2 d (urgI (R.take (i + 1)) t) := fun e => ⟨⟨_, _, _, _, rfl⟩, sm, bar, by rw [urg_take hn, e]; exact ⟨zs, hd2, by simpa using hzs⟩⟩
    refine ⟨.int n.2.2.2, rfl, .int t, rfl, _, _, rfl, rfl, nz (Builtin.bitAnd n.2.2.2 t), rfl, ite2 (fun e => ?_) (fun e => ?_)⟩
    · exact iteF (no (by unfold urgB; rw [e]; rfl))
    refine ⟨.int n.2.1, rfl, .int t, rfl, t, rfl, _, _, rfl, rfl, nz (Builtin.bitAnd n.2.1 (Builtin.bitNot t)), rfl, ite2 (fun e2 => ?_) (fun e2 => ?_)⟩
    · exact iteF (no (by unfold urgB; rw [e2]; simp))
    refine ⟨.int n.2.2.1, rfl, .int t, rfl, t, rfl, _, _, rfl, rfl, nz (Builtin.bitAnd n.2.2.1 (Builtin.bitNot t)), rfl, ?_⟩
    have p4 : urgB t n = !nz (Builtin.bitAnd n.2.2.1 (Builtin.bitNot t)) := by
      unfold urgB
      simp [Bool.eq_false_iff.mpr e, Bool.eq_false_iff.mpr e2]
    cases e4 : nz (Builtin.bitAnd n.2.2.1 (Builtin.bitNot t)) with
    | true => exact iteF (no (by rw [p4, e4]; rfl))
    | false =>
      refine iteT ?_
      refine ⟨.ref d, rfl, .inl ⟨rfl, zs, SqL.of hd2⟩, .int n.1, rfl, .int n.2.2.1, rfl, by show 2 ≤ sizeLine; decide, fun v hv => ?_⟩
      have s7 := same_new hv (.tup [.int n.1, .int n.2.2.1])
      have hd7 := s7 _ _ hd2
      have il : i < R.length := (List.getElem?_eq_some_iff.mp hn).1
      have m7 : Mut ((upd H2 v (.tup [.int n.1, .int n.2.2.1])) d) := by
        rw [hd7]
        exact True.intro
      have zl : zs.length ≤ i := by
        rw [dpAll_len hzs, List.length_map]
        unfold urgI
        rw [List.length_map]
        have := List.length_filter_le (urgB t) (R.take i)
        rw [List.length_take] at this
        omega
      refine ⟨d, zs, _, rfl, rfl, hd7, small_line' (by omega), ?_⟩
      have st8 := Stay.put m7 (.lst (zs ++ [.ref v]))
      refine ⟨⟨_, _, _, _, rfl⟩, same_put (sm.trans s7) hd0, (bar.trans (.same s7)).trans .draw, zs ++ [.ref v], upd_same, ?_⟩
      rw [urg_take hn, if_pos (by rw [p4, e4]; rfl), List.map_append]
      exact dpAll_app (((Stay.same s7).trans st8).dpAll _ _ (okDs_d2 _) hzs) (.cons (st8.dp _ _ (ok_d2 _) (to_d2 (SqT.of upd_same))) .nil)
  · obtain ⟨⟨y3, y4, y5, y6, rfl⟩, sm, bar, hU⟩ := hI2
    rw [yl, List.take_length] at hU
    dsimp only [gName, tSeq, tAsg]
    refine ⟨.int t, rfl, ?_⟩
    have tt : Builtin.bitAnd t t = t := by
      rw [bitAnd_pp t0 t0, Nat.and_self]
      omega
    refine while_by (fun σ H' => ∃ h, (∃ y3 y4 y5 y6, σ = [some (.ref l), some (.int t), some (.ref d), y3, y4, y5, y6, some (.int h)]) ∧ H' = H2 ∧ 0 ≤ h ∧ h ≤ t ∧ Builtin.bitAnd h t = h ∧ ∀ m, h ≤ m → m < t → Builtin.bitAnd m t = m → allMetI (urgI R t) m = false)
      (fun σ _ => match σ[7]? with | some (some (V.int m)) => m.toNat | _ => 0) ⟨t, ⟨_, _, _, _, rfl⟩, rfl, t0, Int.le_refl _, tt, fun m a b => absurd a (by omega)⟩ (fun σ H' hP => ?_) (fun σ H' Q1 Q2 m h => ?_)
    · obtain ⟨h, ⟨x3, x4, x5, x6, rfl⟩, rfl, h0, hle, hw, hno⟩ := hP
      refine ⟨.int h, rfl, nz h, rfl, ite2 (fun e => ?_) (fun e => ?_)⟩
      · have hn : h ≠ 0 := by simpa [nz] using e
        have hp : 0 < h := by omega
        refine ⟨.int h, rfl, h, 1, rfl, rfl, .int t, rfl, _, _, rfl, rfl, ?_⟩
        obtain ⟨g0, g1, g2⟩ := and_nn (show 0 ≤ h - 1 by omega) t0
        have all' : ∀ m, Builtin.bitAnd (h - 1) t ≤ m → m < t → Builtin.bitAnd m t = m → m = Builtin.bitAnd (h - 1) t ∨ allMetI (urgI R t) m = false := fun m a b c => by
          by_cases lt : m < h
          · have z := within_step h.toNat h t m (Nat.le_refl _) hp (by omega) hw c lt
            exact .inl (by omega)
          · exact .inr (hno m (by omega) b c)
        refine ⟨.ref d, rfl, .int (Builtin.bitAnd (h - 1) t), rfl, d, Builtin.bitAnd (h - 1) t, urgI R t, rfl, hU, _, rfl, ?_⟩
        cases e2 : allMetI (urgI R t) (Builtin.bitAnd (h - 1) t) with
        | true =>
          refine iteT (q false _ sm ⟨(fun z => nomatch z), fun z => ?_⟩)
          rw [z.2 _ g0 (by omega) g2] at e2
          exact nomatch e2
        | false =>
          refine iteF ⟨⟨_, ⟨_, _, _, _, rfl⟩, rfl, g0, by omega, g2, fun m a b c => ?_⟩, ?_⟩
          · rcases all' m a b c with z | z
            · rw [z]
              exact e2
            · exact z
          · show (Builtin.bitAnd (h - 1) t).toNat < h.toNat
            omega
      · have hn : h = 0 := by simpa [nz] using e
        subst hn
        exact q true _ sm ⟨fun _ => ⟨ag, fun m m0 => hno m m0⟩, fun _ => rfl⟩
    · obtain ⟨x, h1, kk, h2, h3⟩ := h
      exact ⟨x, h1, kk, h2, m _ _ h3⟩
end
end Rw
namespace Rw
open PySem PySem.Spec PyProof.Rows L2
/-! ### t[::-1], t a tuple: always a new one -/
section
variable {prog : Program} {w : World} {A : Around} {E : Value → Shared → Prop} {s : Shared}
theorem rev_adjust (n : Nat) : Builtin.Slice.sliceAdjust none none (-1) (n : Int) = ((n : Int) - 1, -1) := by
  unfold Builtin.Slice.sliceAdjust
  simp
theorem rev_places (n : Nat) : Builtin.Slice.slicePlaces ((n : Int) - 1) (-1) (-1) = n := by
  unfold Builtin.Slice.slicePlaces
  have h1 : ¬ ((-1 : Int) > 0) := by decide
  rw [if_neg h1]
  by_cases h : (n : Int) - 1 > -1
  · rw [if_pos h, show (-(-1) : Int) = 1 by decide, Int.ediv_one]
    omega
  · rw [if_neg h]
    omega
theorem fm_congr {α β : Type} {f g : α → Option β} : ∀ {l : List α}, (∀ k ∈ l, f k = g k) → l.filterMap f = l.filterMap g
  | [], _ => rfl
  | a :: l, h => by
    rw [List.filterMap_cons, List.filterMap_cons, h a List.mem_cons_self, fm_congr fun k hk => h k (List.mem_cons_of_mem _ hk)]
theorem rev_pick (xs : Array Value) : ((List.range xs.size).filterMap fun (k : Nat) => xs[(((xs.size : Int) - 1) + (k : Int) * (-1)).toNat]?).toArray = xs.toList.reverse.toArray := by
  have e : ∀ k ∈ List.range xs.size, xs[(((xs.size : Int) - 1) + (k : Int) * (-1)).toNat]? = xs[xs.size - 1 - k]? := fun k hk => by
    have := List.mem_range.mp hk
    congr 1
    omega
  rw [fm_congr e, show (fun k => xs[xs.size - 1 - k]?) = (fun x : Nat => xs[x]?) ∘ fun k => xs.size - 1 - k from rfl, ← List.filterMap_map, PySem.W.krv_range, List.filterMap_reverse, PySem.W.krv_all]
theorem sliceApplied_rev {sl : Addr} {vl vu vs : Value} {n : Nat} {Q : Int × Int × Nat → Shared → Prop} (hs : s.heap.IsSliceOf sl vl vu vs) (pl : IsPart vl none) (pu : IsPart vu none) (ps : IsPart vs (some (-1)))
    (h : Q ((n : Int) - 1, -1, n) s) : wpAny (model prog w) A (Builtin.Slice.sliceApplied (.ref sl) (pure (n : Int))) Q E s := by
  obtain ⟨os, hos, hcs, hds⟩ := id hs
  unfold Builtin.Slice.sliceApplied Builtin.Slice.sliceFields
  refine wpAny_bind (wpAny_bind (wpAny_field hos hds (x := vl) rfl (wpAny_bind (wpAny_field hos hds (x := vu) rfl (wpAny_bind (wpAny_field hos hds (x := vs) rfl (wpAny_pure ?_)))))))
  refine wpAny_bind (HT.slicePart_ ps ?_)
  show wpAny _ _ (if ((-1 : Int) == 0) = true then _ else _) _ _ s
  rw [if_neg (by decide)]
  refine wpAny_bind (HT.slicePart_ pl (wpAny_bind (HT.slicePart_ pu (wpAny_bind (wpAny_pure ?_)))))
  show wpAny _ _ (match Builtin.Slice.sliceAdjust none none (-1) (n : Int) with | (lo, hi) => pure (lo, (-1 : Int), Builtin.Slice.slicePlaces lo hi (-1))) _ _ s
  rw [rev_adjust n]
  show wpAny _ _ (pure ((n : Int) - 1, (-1 : Int), Builtin.Slice.slicePlaces ((n : Int) - 1) (-1) (-1))) _ _ s
  rw [rev_places]
  exact wpAny_pure h
theorem getItem_tuple_rev {t sl : Addr} {items : Array Value} {vl vu vs : Value} {Q : Value → Shared → Prop} (ht : IsTup s.heap t items) (hs : s.heap.IsSliceOf sl vl vu vs) (pl : IsPart vl none) (pu : IsPart vu none) (ps : IsPart vs (some (-1)))
    (h : Q (.ref s.heap.objs.size) { s with heap := s.heap.push { cls := .type "tuple", data := .seq items.toList.reverse.toArray } })
    (hsz : items.size ≤ sizeLine) : wpAny (model prog w) A (getItem (.ref t) (.ref sl)) Q E s := by
  have htake : sizeOk (.seq items.toList.reverse.toArray) := by
    show items.toList.reverse.toArray.size ≤ sizeLine
    rw [List.size_toArray, List.length_reverse, Array.length_toList]
    exact hsz
  obtain ⟨os, hos, hcs, hds⟩ := id hs
  have hTs : s.TypeIs (.ref sl) "slice" := ⟨os, hos, hcs⟩
  unfold getItem
  try with_reducible refine wpAny_holding ?_
  first | refine wpAny_bind (wpAny_pure ?_) | skip
  refine wpAny_bind (wpAny_sequenceKey ht.typeIs (by decide) ?_)
  refine wpAny_bind (wpAny_callSpecial?_slot (name := Str.ofString "__getitem__") ht.typeIs PyProof.Rows.slot_tuple_getitem
    (wpAny_call_entry PyProof.Rows.slot_tuple_getitem ht.typeIs PyProof.Rows.entry_tuple_getitem ?_ (PyProof.Rows.args_tuple_getitem _ _)))
  show wpAny _ _ (Builtin.Tuple.tupleItemsOf (.ref t) >>= _) _ _ s
  refine wpAny_bind (PyProof.Rows.tupleItemsOf_ ht ?_)
  refine wpAny_bind (wpAny_typeOf hTs ?_)
  rw [if_pos (by decide)]
  refine wpAny_bind (sliceApplied_rev hs pl pu ps ?_)
  have hno : ¬ ((((items.size : Int) - 1) == 0 && (-1 : Int) == 1 && items.size == items.size) = true) := by
    intro q
    rw [Bool.and_eq_true, Bool.and_eq_true] at q
    exact absurd q.1.2 (by decide)
  show wpAny _ _ (if (((items.size : Int) - 1) == 0 && (-1 : Int) == 1 && items.size == items.size) = true then _ else _) _ _ s
  rw [if_neg hno, rev_pick]
  first
    | exact wpAny_bind (m := Builtin.Tuple.tupleExact _) (wpAny_newObj_type (wpAny_pure ⟨_, rfl, wpAny_pure h⟩) htake)
    | exact wpAny_bind (m := Builtin.Tuple.tupleExact _) (wpAny_newObj_type (wpAny_bind (wpAny_pure (wpAny_pure ⟨_, rfl, wpAny_pure h⟩))) htake)
    | exact wpAny_bind (wpAny_bind (m := Builtin.Tuple.tupleExact _) (wpAny_newObj_type (wpAny_pure (wpAny_pure ⟨_, rfl, wpAny_pure h⟩)) htake))
    | exact wpAny_bind (wpAny_bind (m := Builtin.Tuple.tupleExact _) (wpAny_newObj_type (wpAny_pure ⟨_, rfl, wpAny_pure h⟩) htake))
end
section
variable {X : Cx}
def tRevT (K : PySem.W.Frag) (te : TE) : TE := fun σ H Q => te σ H fun x H1 => ∃ a xs, x = .ref a ∧ SqT K H1 a xs ∧ ∀ p, H1 p = none → Q (.ref p) (upd H1 p (.tup xs.reverse))
theorem pe_revT {e : Expr} {te : TE} {k : Nat} {p1 p2 p3 pos : Pos} (he : PE X e te) : PE X (.Subscript e (.Slice none none (some (.UnaryOp .USub (.Constant (.int 1) k p1) p2)) p3) pos) (tRevT X.K te) := by
  refine ⟨fun pins s σ H Q I h => ?_⟩
  refine Subscript_ (thn (he.run pins s σ H _ I h) fun v s1 ⟨x, H1, I1, r1, q1⟩ => ?_)
  obtain ⟨a, xs, ex, hx, q⟩ := q1
  subst ex
  cases r1
  have hst : PO X (some (.UnaryOp .USub (.Constant (.int 1) k p1) p2)) (tPart (tUn (rU fun i => .int (-i)) (tC (.int 1)))) := po_some (pe_un un_neg pe_int)
  refine wpAny_Slice (thn (po_none.run pins s1 σ H1 (fun o H2 => o = none ∧ H2 = H1) I1 ⟨rfl, rfl⟩) fun vl s2 ⟨l, H2, I2, pl, el, e2⟩ => ?_)
  subst el e2
  refine thn (po_none.run pins s2 σ H2 (fun o H3 => o = none ∧ H3 = H2) I2 ⟨rfl, rfl⟩) fun vu s3 ⟨u, H3, I3, pu, eu, e3⟩ => ?_
  subst eu e3
  refine thn (hst.run pins s3 σ H3 (fun o H4 => o = some (-1) ∧ H4 = H3) I3 ⟨1, rfl, -1, rfl, rfl, rfl⟩) fun vs s4 ⟨o, H4, I4, ps, eo, e4⟩ => ?_
  subst eo e4
  have I5 : Inv X pins σ H4 { s4 with heap := s4.heap.push { cls := .type "slice", data := .fields #[vl, vu, vs] } } := I4.kept (t' := s4.toks) fun b ob q => Heap.get?_push_of_some _ q
  obtain ⟨its, r, ht, hz⟩ := I5.tuple hx
  have hlen := r.length
  show wpAny (model X.prog X.w) X.A (subscriptTail e (.Slice none none (some (.UnaryOp .USub (.Constant (.int 1) k p1) p2)) p3) (.ref a) (.ref s4.heap.objs.size)) (EP X pins σ Q) X.xe { s4 with heap := s4.heap.push { cls := .type "slice", data := .fields #[vl, vu, vs] } }
  refine tail_any (ops := [.ref a, .ref s4.heap.objs.size]) ht.typeIs (PyProof.Rows.slot_tuple_getitem.lookup) ?_ (by with_unfolding_all rfl)
  refine getItem_tuple_rev ht (Heap.IsSliceOf.new _ vl vu vs) pl pu ps ?_ (by rw [List.size_toArray]; omega)
  refine ⟨.ref _, _, I5.laid (t' := s4.toks) (o := .tup xs.reverse) (fun b ob q => Heap.get?_push_of_some _ q) (Nat.le_refl _) ?_, rfl, q _ (I5.hok.fresh (Nat.le_refl _))⟩
  exact ⟨by rw [List.length_reverse]; exact hz, _, r.reverse, IsTup.new _ _⟩
end
end Rw
namespace Rw
open PySem PySem.Spec PyProof.Rows L2
/-! ### _every_world -/
abbrev nEvery : List Str := ["names", "found", "name", "begun", "world"]
theorem scEvery : FnScope nEvery ["names"] (defScope sEvery) := ⟨rfl, rfl, rfl, by decide +kernel, rfl, by decide +kernel, by decide +kernel⟩
/-- a list of worlds -/
def WLs (K : PySem.W.Frag) (H : Hp) (l : Addr) (S : List W) : Prop := ∃ ys, H l = some (.lst ys) ∧ DpAll K H ys (S.map wd)
theorem okDs_wds (S : List W) : okDs (S.map wd) = true := okDs_all fun d hd => by
  obtain ⟨n, _, rfl⟩ := List.mem_map.mp hd
  exact ok_wd n
theorem WLs.same {K : PySem.W.Frag} {H H' : Hp} {l : Addr} {S : List W} (h : WLs K H l S) (e : Same H H') : WLs K H' l S := by
  obtain ⟨ys, h1, h2⟩ := h
  exact ⟨ys, e _ _ h1, (Stay.same e).dpAll _ _ (okDs_wds S) h2⟩
theorem dps_app12 {K : PySem.W.Frag} {H : Hp} {ys : List V} {es : List PyData} (h2 : DpAll K H ys es) : ∀ {xs : List V} {ds : List PyData}, DpAll K H xs ds → DpAll K H (xs ++ ys) (ds ++ es)
  | [], [], .nil => h2
  | _ :: _, _ :: _, .cons h t => .cons h (dps_app12 h2 t)
theorem dps_tail {K : PySem.W.Frag} {H : Hp} : ∀ {xs : List V} {ds : List PyData}, DpAll K H xs ds → DpAll K H xs.tail ds.tail
  | [], [], .nil => .nil
  | _ :: _, _ :: _, .cons h t => t
theorem rev_at {own : W} {i : Nat} {x : V} (h : (own.map V.str).reverse[i]? = some x) : ∃ z, x = .str z ∧ i < own.length ∧ own.drop (own.length - (i + 1)) = z :: own.drop (own.length - i) := by
  obtain ⟨hi, e⟩ := List.getElem?_eq_some_iff.mp h
  have hi' : i < own.length := by simpa using hi
  rw [List.getElem_reverse, List.getElem_map] at e
  have e3 : (own.map V.str).length - 1 - i = own.length - (i + 1) := by
    rw [List.length_map]
    omega
  have lt : own.length - (i + 1) < own.length := by omega
  refine ⟨own[own.length - (i + 1)], ?_, hi', ?_⟩
  · rw [← e]
    congr 1
    simp only [e3]
  · rw [List.drop_eq_getElem_cons lt, show own.length - (i + 1) + 1 = own.length - i by omega]
theorem cut_tail (xs : List V) (h : 1 ≤ xs.length) : cutV xs (some 1) none = xs.tail := by
  cases xs with
  | nil => exact absurd h (by simp)
  | cons x xs =>
    unfold cutV
    have e1 : HT.sIx (x :: xs).length 0 (some 1) = 1 := by
      have z := HT.sIx_nat (x :: xs).length 0 1
      rw [show ((1 : Nat) : Int) = 1 from rfl] at z
      rw [z, List.length_cons]
      omega
    rw [e1, HT.sIx_none]
    simp
section
variable {P : Program} {w : World} {K : PySem.W.Frag} {mg : Str → Option Value} {base : Heap} {f : Addr} {fd : FuncData} {k : Nat}
def spEvery (K : PySem.W.Frag) : Sp := fun vs H Q _ => ∃ (a : Addr) (own : W), vs = [.ref a] ∧ SqT K H a (own.map V.str) ∧ own.length ≤ 10 ∧ ∀ H' l, Same H H' → H l = none → WLs K H' l (everyW own) → Q (.ref l) H'
theorem ok_every (F : Fun K "_every_world" "_every_world" sEvery f fd) : FnOk P w K mg base CX0 (k + 1) f fd ["names"] (spEvery K) := by
  refine F.ok scEvery (fun vs H Q E h => ?_) (fun cdv A outer s H vs Q E hr h => ?_)
  · obtain ⟨a, own, rfl, _⟩ := h
    rfl
  obtain ⟨a, own, rfl, hT, few, q⟩ := h
  refine ⟨_, pss_cons (ps_set (i := 1) scEvery.nd rfl (.inl rfl) (pe_lst (pa_cons (pe_tup pa_nil) pa_nil)))
    (pss_cons (ps_for PassesOwn.never rfl (pi_tup (pe_revT (pv 0))) (pg_name (i := 2) scEvery.nd rfl (.inr rfl))
      (pss_cons (ps_setLc (i := 3) (own := [("world", 4)]) (g := gName 4) (te := tTup (tCons (tVar 2) (StX.tStar K (tVar 4) tNil))) (by rfl) scEvery.nd rfl rfl (sw_true rfl rfl rfl (by decide +kernel)) (pi_list (pv 1)) (blkOk_by (N := nEvery) (sc := defScope sEvery) (by decide +kernel))
        (fun _ _ _ _ _ => pg_name (i := 4) scEvery.nd rfl (Or.inl rfl)) (fun _ _ _ _ _ => pts_nil) (fun _ _ _ _ _ => pe_tup (pa_cons (pv 2) (StX.pa_star (pv 4) pa_nil))))
      (pss_one (ps_set (i := 1) scEvery.nd rfl (.inl rfl) (pe_op op_cat (pe_op op_cat (pe_lst (pa_cons (pe_tup pa_nil) pa_nil)) (pv 3)) (pe_slice sl_list (pv 1) (po_some pe_int) po_none))))))
    (pss_one (ps_ret (pv 1)))), ?_⟩
  refine ⟨by show 0 ≤ sizeLine; decide, fun t0 ht0 => ?_⟩
  have s0 := same_new ht0 (.tup [])
  refine ⟨by show 1 ≤ sizeLine; decide, fun l0 hl0 => ?_⟩
  have s1 := same_new hl0 (.lst [.ref t0])
  have s01 := s0.trans s1
  refine ⟨.ref a, rfl, a, _, rfl, same_tup s01 hT, fun r hr0 => ?_⟩
  have s2 := same_new hr0 (.tup (own.map V.str).reverse)
  have s02 := s01.trans s2
  refine ⟨r, rfl, ⟨_, SqT.of upd_same⟩, ?_⟩
  let HR : Hp := upd (upd (upd H t0 (.tup [])) l0 (.lst [.ref t0])) r (.tup (own.map V.str).reverse)
  have hrT : SqT K HR r (own.map V.str).reverse := SqT.of upd_same
  refine for_tup (xs := (own.map V.str).reverse) (fun i σ H2 => (∃ l y2 y3, σ = [some (.ref a), some (.ref l), y2, y3, none] ∧ H l = none ∧ WLs K H2 l (everyW (own.drop (own.length - i)))) ∧ Same HR H2) ⟨⟨l0, _, _, rfl, none_back s0 hl0, ?_⟩, fun _ _ e => e⟩ (fun i σ H2 _ hI2 => same_tup hI2.2 hrT) (fun i x σ H2 hx hI2 => ?_) (fun σ H2 hI2 => ?_)
  · rw [Nat.sub_zero, List.drop_length]
    refine ⟨[.ref t0], s2 _ _ upd_same, .cons (to_wd (ns := []) ?_) .nil⟩
    exact same_tup (s1.trans s2) (SqT.of upd_same)
  · obtain ⟨⟨l, y2, y3, rfl, hln, ys, hl, hys⟩, sm⟩ := hI2
    obtain ⟨z, rfl, il, ed⟩ := rev_at hx
    rw [ed]
    generalize hS : everyW (own.drop (own.length - i)) = S at hys
    have Sl : S.length ≤ 1024 := by
      rw [← hS, every_len, List.length_drop]
      have : 2 ^ (own.length - (own.length - i)) ≤ 2 ^ 10 := Nat.pow_le_pow_right (by decide) (by omega)
      omega
    have S1 : 1 ≤ S.length := by
      rw [← hS, every_len]
      exact Nat.pow_pos (by decide)
    have yl : ys.length = S.length := by rw [dpAll_len hys, List.length_map]
    have en : everyW (z :: own.drop (own.length - i)) = [] :: (S.map (fun t => z :: t) ++ S.tail) := by
      show [] :: ((everyW (own.drop (own.length - i))).map (fun t => z :: t) ++ (everyW (own.drop (own.length - i))).tail) = _
      rw [hS]
    rw [en]
    refine ⟨.ref l, rfl, l, rfl, ⟨_, SqL.of hl⟩, fun D hD => ?_⟩
    refine lc_list (xs := ys) (fun j H3 => Same H2 H3 ∧ ∃ zs, H3 D = some (.lst zs) ∧ DpAll K H3 zs ((S.take j).map fun t => wd (z :: t))) ⟨same_new hD _, [], upd_same, .nil⟩ (fun j H3 _ h => SqL.of (h.1 _ _ hl)) (fun j y H3 hy h => ?_) (fun H3 h => ?_)
    · obtain ⟨s3, zs, hd, hzs⟩ := h
      obtain ⟨de, hde, hyd⟩ := dpAll_at' hys hy
      obtain ⟨t, ht, rfl⟩ := map_at hde
      obtain ⟨b, rfl, hB⟩ := of_wd ((Stay.same s3).wd hyd)
      have tl : t.length ≤ 10 := by
        have z2 : t ∈ S := List.mem_of_getElem? ht
        rw [← hS] at z2
        have := (mem_every.mp z2).length_le
        rw [List.length_drop] at this
        omega
      refine ⟨rfl, .str z, rfl, .ref b, rfl, b, _, rfl, .inl hB, ?_⟩
      refine ⟨by
        show (V.str z :: (t.map V.str ++ [])).length ≤ sizeLine
        rw [List.append_nil, List.length_cons, List.length_map]
        exact small_line (by omega), fun u hu => ?_⟩
      have eu : (V.str z :: (t.map V.str ++ [])) = (z :: t).map V.str := by
        rw [List.append_nil]
        rfl
      rw [eu]
      have s4 := same_new hu (.tup ((z :: t).map V.str))
      have hd4 := s4 _ _ hd
      have m4 : Mut ((upd H3 u (.tup ((z :: t).map V.str))) D) := by
        rw [hd4]
        exact True.intro
      have jl : j < S.length := (List.getElem?_eq_some_iff.mp ht).1
      have st5 := Stay.put m4 (.lst (zs ++ [.ref u]))
      refine ⟨zs, hd4, small_line' (by rw [dpAll_len hzs, List.length_map, List.length_take]; omega), same_put (s3.trans s4) hD, zs ++ [.ref u], upd_same, ?_⟩
      rw [take_snoc ht, List.map_append]
      refine dps_app12 (.cons (st5.wd (to_wd (SqT.of upd_same))) .nil) (((Stay.same s4).trans st5).dpAll _ _ (okDs_all fun d hd => ?_) hzs)
      obtain ⟨q, _, rfl⟩ := List.mem_map.mp hd
      exact ok_wd _
    · obtain ⟨s3, zs, hd, hzs⟩ := h
      rw [yl, List.take_length] at hzs
      have zl : zs.length = S.length := by rw [dpAll_len hzs, List.length_map]
      refine ⟨by show 0 ≤ sizeLine; decide, fun t1 ht1 => ?_⟩
      have s4 := same_new ht1 (.tup [])
      refine ⟨by show 1 ≤ sizeLine; decide, fun l1 hl1 => ?_⟩
      have s5 := same_new hl1 (.lst [.ref t1])
      have s45 := s4.trans s5
      refine ⟨.ref D, rfl, l1, D, [.ref t1], zs, rfl, rfl, upd_same, s45 _ _ hd, small_line (by rw [List.length_singleton, zl]; omega), fun p hp => ?_⟩
      have s6 := same_new hp (.lst ([.ref t1] ++ zs))
      have s46 := s45.trans s6
      refine ⟨.ref l, rfl, 1, rfl, l, ys, rfl, SqL.of ((s3.trans s46) _ _ hl), fun p2 hp2 => ?_⟩
      rw [cut_tail ys (by omega)]
      have s7 := same_new hp2 (.lst ys.tail)
      have s47 := s46.trans s7
      refine ⟨p, p2, [.ref t1] ++ zs, ys.tail, rfl, rfl, s7 _ _ upd_same, upd_same, small_line (by rw [List.length_append, List.length_singleton, List.length_tail]; omega), fun p3 hp3 => ?_⟩
      have s8 := same_new hp3 (.lst ([.ref t1] ++ zs ++ ys.tail))
      have s48 := s47.trans s8
      have sAll := sm.trans (s3.trans s48)
      refine ⟨⟨p3, _, _, rfl, none_back (s02.trans (sm.trans (s3.trans s47))) hp3, _, upd_same, ?_⟩, sAll⟩
      rw [List.map_cons, List.map_append, List.map_map, ← List.cons_append]
      have h1 := (Stay.same s48).dpAll _ _ (okDs_all fun d hd => by
        obtain ⟨q, _, rfl⟩ := List.mem_map.mp hd
        exact ok_wd _) hzs
      have h2 := (Stay.same (s3.trans s48)).dpAll _ _ (okDs_wds S) hys
      have h3 : DpAll K _ ys.tail (S.map wd).tail := dps_tail h2
      rw [← List.map_tail] at h3
      refine dps_app12 h3 (.cons ?_ h1)
      exact to_wd (ns := []) (same_tup (s5.trans (s6.trans (s7.trans s8))) (SqT.of upd_same))
  · obtain ⟨⟨l, y2, y3, rfl, hln, hW⟩, sm⟩ := hI2
    rw [List.length_reverse, List.length_map, Nat.sub_self, List.drop_zero] at hW
    exact ⟨.ref l, rfl, q H2 l (s02.trans sm) hln hW⟩
end
end Rw
namespace Rw
open PySem PySem.Spec PyProof.Rows L2
/-! ### answers, is_answer -/
abbrev nAnswers : List Str := ["program", "own", "bits", "rows", "world"]
theorem scAnswers : FnScope nAnswers ["program"] (defScope sAnswers) := ⟨rfl, rfl, rfl, by decide +kernel, rfl, by decide +kernel, by decide +kernel⟩
/-- a set of names is an answer, told by numbers -/
noncomputable def fdB (S : List Rl) (own w : W) : Bool := @decide (FoundI (S.map (numR own)) (num own w)) (Classical.propDecidable _)
theorem fdB_of {S : List Rl} {own w : W} {b : Bool} (h : b = true ↔ FoundI (S.map (numR own)) (num own w)) : b = fdB S own w := by
  unfold fdB
  cases b with
  | true => exact (@decide_eq_true _ (Classical.propDecidable _) (h.mp rfl)).symm
  | false => exact (@decide_eq_false _ (Classical.propDecidable _) (fun z => nomatch h.mpr z)).symm
theorem few_own {S : List Rl} {own bd : W} (h : IsW own) (m : ∀ z, z ∈ own ↔ z ∈ namesL S) (hb : ∀ z ∈ namesL S, z ∈ bd) : own.length ≤ bd.length := len_le (upX_nodup h.up) fun z hz => hb z ((m z).mp hz)
section
variable {P : Program} {w : World} {K : PySem.W.Frag} {mg : Str → Option Value} {base : Heap} {f : Addr} {fd : FuncData} {k : Nat}
def spAnswers (K : PySem.W.Frag) (C CP : Addr) : Sp := fun vs H Q E => ∃ v : V, vs = [v] ∧ ((∃ (S : List Rl) (bd : W), PgAt K C H v S ∧ (∀ r ∈ S, IsR r) ∧ S.length < 76 ∧ (∀ z ∈ namesL S, z ∈ bd) ∧ bd.length ≤ 10 ∧ ∀ H' l own, Same H H' → H l = none → IsW own → (∀ z, z ∈ own ↔ z ∈ namesL S) → WLs K H' l ((everyW own).filter (fdB S own)) → Q (.ref l) H') ∨
  (∃ d, Dp K H v d ∧ ∀ dx, H dx = none → E (.ref CP) (some dx) (upd H dx (.xd [(("thing" : Str), v)]))))
theorem ok_answers {C CP pN f1 f2 f3 f4 f5 f6 f7 : Addr} {fd1 fd2 fd3 fd4 fd5 fd6 fd7 : FuncData} (F : Fun K "answers" "answers" sAnswers f fd) (c : Cls K C) (hp : PropOf K C "names" pN f2)
    (G1 : FnOk P w K mg base (L2.CX P w) (k + 1) f1 fd1 ["thing"] (spCheckProgram K C CP)) (b1 : Binds K fd1 ["thing"] []) (k1 : PySem.W.keepIn K (.ref f1) = true) (m1 : mg "check_program" = some (.ref f1))
    (G2 : FnOk P w K mg base CX0 k f2 fd2 ["self"] (spNames K C)) (b2 : Binds K fd2 ["self"] [])
    (G3 : FnOk P w K mg base CX0 (k + 1) f3 fd3 ["names"] (spBitsOf K)) (b3 : Binds K fd3 ["names"] []) (k3 : PySem.W.keepIn K (.ref f3) = true) (m3 : mg "_bits_of" = some (.ref f3))
    (G4 : FnOk P w K mg base CX0 (k + 1) f4 fd4 ["program", "bits"] (spNumbered K C)) (b4 : Binds K fd4 ["program", "bits"] []) (k4 : PySem.W.keepIn K (.ref f4) = true) (m4 : mg "_numbered" = some (.ref f4))
    (G5 : FnOk P w K mg base CX0 (k + 1) f5 fd5 ["names"] (spEvery K)) (b5 : Binds K fd5 ["names"] []) (k5 : PySem.W.keepIn K (.ref f5) = true) (m5 : mg "_every_world" = some (.ref f5))
    (G6 : FnOk P w K mg base CX0 (k + 1) f6 fd6 ["rows", "there"] (spIsFounded K)) (b6 : Binds K fd6 ["rows", "there"] []) (k6 : PySem.W.keepIn K (.ref f6) = true) (m6 : mg "_is_founded" = some (.ref f6))
    (G7 : FnOk P w K mg base CX0 (k + 1) f7 fd7 ["world", "bits"] (spNumber K)) (b7 : Binds K fd7 ["world", "bits"] []) (k7 : PySem.W.keepIn K (.ref f7) = true) (m7 : mg "_number" = some (.ref f7)) :
    FnOk P w K mg base (L2.CX P w) (k + 2) f fd ["program"] (spAnswers K C CP) := by
  refine F.okX scAnswers (fun vs H Q E h => ?_) (fun cdv A outer s H vs Q E hr h => ?_)
  · obtain ⟨v, rfl, _⟩ := h
    rfl
  obtain ⟨v, rfl, h⟩ := h
  refine ⟨_, pss_cons (ps_expr (pe_call G1 hr (by rfl) m1 k1 b1 .nil (passes_call (takes_of rfl rfl rfl rfl) (fun _ _ _ _ h => h)) (pa_cons (pv 0) pa_nil)))
    (pss_cons (ps_set (i := 1) scAnswers.nd rfl (.inl rfl) (pe_prop (pv 0) c hp G2 hr b2 .nil pass0 rfl))
    (pss_cons (ps_set (i := 2) scAnswers.nd rfl (.inr rfl) (pe_call G3 hr (by rfl) m3 k3 b3 .nil pass0 (pa_cons (pv 1) pa_nil)))
    (pss_cons (ps_set (i := 3) scAnswers.nd rfl (.inr rfl) (pe_call G4 hr (by rfl) m4 k4 b4 .nil pass0 (pa_cons (pv 0) (pa_cons (pv 2) pa_nil))))
    (pss_one (ps_ret (pe_lc (own := [("world", 4)]) (g := gName 4) (by rfl) scAnswers.nd (pi_list (pe_call G5 hr (by rfl) m5 k5 b5 .nil pass0 (pa_cons (pv 1) pa_nil))) (blkOk_by (N := nAnswers) (sc := defScope sAnswers) (by decide +kernel))
        (fun _ _ _ _ _ => pg_name (i := 4) scAnswers.nd rfl (Or.inl rfl)) (fun _ _ _ _ _ => pts_one (pt_val (pe_call G6 hr (by rfl) m6 k6 b6 .nil pass0 (pa_cons (pv 3) (pa_cons (pe_call G7 hr (by rfl) m7 k7 b7 .nil pass0 (pa_cons (pv 4) (pa_cons (pv 2) pa_nil))) pa_nil))))) (fun _ _ _ _ _ => pv 4))))))), ?_⟩
  rcases h with ⟨S, bd, hS, hI, few, hbd, lbd, q⟩ | ⟨d, hd, q⟩
  · refine ⟨v, rfl, v, rfl, .inl ⟨S, hS, ?_⟩⟩
    obtain ⟨a, dx, t0, ys0, rfl, i1, i2, i3⟩ := id hS
    refine ⟨.ref a, rfl, a, dx, _, rfl, i1, .ref a, S, bd, rfl, hS, hI, hbd, by omega, fun H1 tn own s1 htn hown hmem => ?_⟩
    have ol := few_own hown hmem hbd
    have nd := upX_nodup hown.up
    refine ⟨.ref tn, rfl, tn, own, rfl, htn, nd, by omega, fun H2 D s2 hD hB => ?_⟩
    have s12 := s1.trans s2
    refine ⟨.ref a, rfl, .ref D, rfl, .ref a, D, S, own, rfl, hS.same s12, hI, few, hB, nd, fun H3 l s3 hl hL => ?_⟩
    refine ⟨.ref tn, rfl, tn, own, rfl, same_tup (s2.trans s3) htn, by omega, fun H4 e s4 he hW => ?_⟩
    obtain ⟨ys, hy, hys⟩ := id hW
    have s14 := s12.trans (s3.trans s4)
    have yl : ys.length = (everyW own).length := by rw [dpAll_len hys, List.length_map]
    have el : (everyW own).length ≤ 1024 := by
      rw [every_len]
      exact Nat.pow_le_pow_right (n := 2) (by decide) (show own.length ≤ 10 by omega)
    refine ⟨e, rfl, ⟨_, SqL.of hy⟩, fun DD hDD => ?_⟩
    refine lc_list (xs := ys) (fun i H5 => Same H4 H5 ∧ WLs K H5 DD (((everyW own).take i).filter (fdB S own))) ⟨same_new hDD _, [], upd_same, .nil⟩ (fun i H5 _ h => SqL.of (h.1 _ _ hy)) (fun i y H5 hyi h => ?_) (fun H5 h => ?_)
    · obtain ⟨s5, zs, hd5, hzs⟩ := h
      obtain ⟨de, hde, hyd⟩ := dpAll_at' hys hyi
      obtain ⟨t, ht, rfl⟩ := map_at hde
      have hyd5 := (Stay.same s5).wd hyd
      have sub : t.Sublist own := mem_every.mp (List.mem_of_getElem? ht)
      have tl := sub.length_le
      refine ⟨rfl, .ref l, rfl, y, rfl, .ref D, rfl, y, D, t, own, rfl, hyd5, (s3.trans (s4.trans s5)) _ _ hB, nd, nd.sublist sub, by omega, fun H6 s6 => ?_⟩
      have s56 := s4.trans (s5.trans s6)
      refine ⟨l, num own t, _, rfl, hL.same s56, by rw [List.length_map]; exact few, num_nn own t, fun b H7 s7 hb => ⟨b, rfl, ?_⟩⟩
      have eb := fdB_of hb
      have s57 := s5.trans (s6.trans s7)
      have hd7 := (s6.trans s7) _ _ hd5
      have hzs7 := (Stay.same (s6.trans s7)).dpAll _ _ (okDs_wds _) hzs
      cases b with
      | false =>
        refine iteF ⟨s57, ?_⟩
        rw [filt_take ht, if_neg (by rw [← eb]; exact Bool.false_ne_true), List.append_nil]
        exact ⟨zs, hd7, hzs7⟩
      | true =>
        refine iteT ⟨y, rfl, zs, hd7, small_line' ?_, same_put s57 hDD, ?_⟩
        · rw [dpAll_len hzs, List.length_map]
          have := List.length_filter_le (fdB S own) ((everyW own).take i)
          rw [List.length_take] at this
          omega
        · rw [filt_take ht, if_pos eb.symm]
          have m7 : Mut (H7 DD) := by
            rw [hd7]
            exact True.intro
          have st8 := Stay.put m7 (.lst (zs ++ [y]))
          refine ⟨zs ++ [y], upd_same, ?_⟩
          rw [List.map_append]
          exact dps_app12 (.cons (((Stay.same (s6.trans s7)).trans st8).wd hyd5) .nil) (st8.dpAll _ _ (okDs_wds _) hzs7)
    · obtain ⟨s5, hW5⟩ := h
      rw [yl, List.take_length] at hW5
      exact q H5 DD own (s14.trans s5) (none_back s14 hDD) hown hmem hW5
  · exact ⟨v, rfl, v, rfl, .inr ⟨d, hd, q⟩⟩
end
end Rw
namespace Rw
open PySem PySem.Spec PyProof.Rows L2
/-! ### worlds that are tuples made here -/
def Tp (H : Hp) (y : V) (t : W) : Prop := ∃ b, y = .ref b ∧ H b = some (.tup (t.map V.str))
inductive TpAll (H : Hp) : List V → List W → Prop
  | nil : TpAll H [] []
  | cons {y ys t S} : Tp H y t → TpAll H ys S → TpAll H (y :: ys) (t :: S)
theorem Tp.wd {K : PySem.W.Frag} {H : Hp} {y : V} {t : W} (h : Tp H y t) : Dp K H y (wd t) := by
  obtain ⟨b, rfl, e⟩ := h
  exact to_wd (SqT.of e)
theorem TpAll.dp {K : PySem.W.Frag} {H : Hp} : ∀ {ys : List V} {S : List W}, TpAll H ys S → DpAll K H ys (S.map wd)
  | _, _, .nil => .nil
  | _, _, .cons h t => .cons h.wd t.dp
theorem TpAll.len {H : Hp} : ∀ {ys : List V} {S : List W}, TpAll H ys S → ys.length = S.length
  | _, _, .nil => rfl
  | _, _, .cons _ t => by rw [List.length_cons, List.length_cons, t.len]
theorem TpAll.at' {H : Hp} : ∀ {ys : List V} {S : List W} {i : Nat} {y : V}, TpAll H ys S → ys[i]? = some y → ∃ t, S[i]? = some t ∧ Tp H y t
  | _, _, _, _, .nil, e => by simp at e
  | _, _, 0, _, .cons h _, e => ⟨_, rfl, by rw [← Option.some.inj e]; exact h⟩
  | _, _, i + 1, _, .cons _ t, e => t.at' (i := i) e
theorem TpAll.app {H : Hp} {zs : List V} {S' : List W} (h2 : TpAll H zs S') : ∀ {ys : List V} {S : List W}, TpAll H ys S → TpAll H (ys ++ zs) (S ++ S')
  | _, _, .nil => h2
  | _, _, .cons h t => .cons h (TpAll.app h2 t)
theorem TpAll.tail {H : Hp} : ∀ {ys : List V} {S : List W}, TpAll H ys S → TpAll H ys.tail S.tail
  | _, _, .nil => .nil
  | _, _, .cons _ t => t
/-- tuples stay -/
def Tups (H H' : Hp) : Prop := ∀ b xs, H b = some (.tup xs) → H' b = some (.tup xs)
theorem TpAll.go {H H' : Hp} (e : Tups H H') : ∀ {ys : List V} {S : List W}, TpAll H ys S → TpAll H' ys S
  | _, _, .nil => .nil
  | _, _, .cons ⟨b, r, h⟩ t => .cons ⟨b, r, e _ _ h⟩ (TpAll.go e t)
theorem Tups.of {H H' : Hp} (e : Same H H') : Tups H H' := fun b xs h => e _ _ h
theorem Tups.trans {H H' H'' : Hp} (a : Tups H H') (b : Tups H' H'') : Tups H H'' := fun c xs h => b _ _ (a _ _ h)
theorem Tups.put {H : Hp} {D : Addr} {zs : List V} {o : HO} (h : H D = some (.lst zs)) : Tups H (upd H D o) := fun b xs e => by
  rw [upd_ne (fun z => by rw [z, h] at e; cases e)]
  exact e
def TLs (H : Hp) (l : Addr) (S : List W) : Prop := ∃ ys, H l = some (.lst ys) ∧ TpAll H ys S
section
variable {P : Program} {w : World} {K : PySem.W.Frag} {mg : Str → Option Value} {base : Heap} {f : Addr} {fd : FuncData} {k : Nat}
def spEveryT (K : PySem.W.Frag) : Sp := fun vs H Q _ => ∃ (a : Addr) (own : W), vs = [.ref a] ∧ SqT K H a (own.map V.str) ∧ own.length ≤ 10 ∧ ∀ H' l, Same H H' → H l = none → TLs H' l (everyW own) → Q (.ref l) H'
theorem ok_everyT (F : Fun K "_every_world" "_every_world" sEvery f fd) : FnOk P w K mg base CX0 (k + 1) f fd ["names"] (spEveryT K) := by
  refine F.ok scEvery (fun vs H Q E h => ?_) (fun cdv A outer s H vs Q E hr h => ?_)
  · obtain ⟨a, own, rfl, _⟩ := h
    rfl
  obtain ⟨a, own, rfl, hT, few, q⟩ := h
  refine ⟨_, pss_cons (ps_set (i := 1) scEvery.nd rfl (.inl rfl) (pe_lst (pa_cons (pe_tup pa_nil) pa_nil)))
    (pss_cons (ps_for PassesOwn.never rfl (pi_tup (pe_revT (pv 0))) (pg_name (i := 2) scEvery.nd rfl (.inr rfl))
      (pss_cons (ps_setLc (i := 3) (own := [("world", 4)]) (g := gName 4) (te := tTup (tCons (tVar 2) (StX.tStar K (tVar 4) tNil))) (by rfl) scEvery.nd rfl rfl (sw_true rfl rfl rfl (by decide +kernel)) (pi_list (pv 1)) (blkOk_by (N := nEvery) (sc := defScope sEvery) (by decide +kernel))
        (fun _ _ _ _ _ => pg_name (i := 4) scEvery.nd rfl (Or.inl rfl)) (fun _ _ _ _ _ => pts_nil) (fun _ _ _ _ _ => pe_tup (pa_cons (pv 2) (StX.pa_star (pv 4) pa_nil))))
      (pss_one (ps_set (i := 1) scEvery.nd rfl (.inl rfl) (pe_op op_cat (pe_op op_cat (pe_lst (pa_cons (pe_tup pa_nil) pa_nil)) (pv 3)) (pe_slice sl_list (pv 1) (po_some pe_int) po_none))))))
    (pss_one (ps_ret (pv 1)))), ?_⟩
  refine ⟨by show 0 ≤ sizeLine; decide, fun t0 ht0 => ?_⟩
  have s0 := same_new ht0 (.tup [])
  refine ⟨by show 1 ≤ sizeLine; decide, fun l0 hl0 => ?_⟩
  have s1 := same_new hl0 (.lst [.ref t0])
  have s01 := s0.trans s1
  refine ⟨.ref a, rfl, a, _, rfl, same_tup s01 hT, fun r hr0 => ?_⟩
  have s2 := same_new hr0 (.tup (own.map V.str).reverse)
  have s02 := s01.trans s2
  refine ⟨r, rfl, ⟨_, SqT.of upd_same⟩, ?_⟩
  let HR : Hp := upd (upd (upd H t0 (.tup [])) l0 (.lst [.ref t0])) r (.tup (own.map V.str).reverse)
  have hrT : SqT K HR r (own.map V.str).reverse := SqT.of upd_same
  refine for_tup (xs := (own.map V.str).reverse) (fun i σ H2 => (∃ l y2 y3, σ = [some (.ref a), some (.ref l), y2, y3, none] ∧ H l = none ∧ TLs H2 l (everyW (own.drop (own.length - i)))) ∧ Same HR H2) ⟨⟨l0, _, _, rfl, none_back s0 hl0, ?_⟩, fun _ _ e => e⟩ (fun i σ H2 _ hI2 => same_tup hI2.2 hrT) (fun i x σ H2 hx hI2 => ?_) (fun σ H2 hI2 => ?_)
  · rw [Nat.sub_zero, List.drop_length]
    refine ⟨[.ref t0], s2 _ _ upd_same, .cons ⟨t0, rfl, (s1.trans s2) _ _ upd_same⟩ .nil⟩
  · obtain ⟨⟨l, y2, y3, rfl, hln, ys, hl, hys⟩, sm⟩ := hI2
    obtain ⟨z, rfl, il, ed⟩ := rev_at hx
    rw [ed]
    generalize hS : everyW (own.drop (own.length - i)) = S at hys
    have Sl : S.length ≤ 1024 := by
      rw [← hS, every_len, List.length_drop]
      have : 2 ^ (own.length - (own.length - i)) ≤ 2 ^ 10 := Nat.pow_le_pow_right (by decide) (by omega)
      omega
    have S1 : 1 ≤ S.length := by
      rw [← hS, every_len]
      exact Nat.pow_pos (by decide)
    have yl : ys.length = S.length := hys.len
    have en : everyW (z :: own.drop (own.length - i)) = [] :: (S.map (fun t => z :: t) ++ S.tail) := by
      show [] :: ((everyW (own.drop (own.length - i))).map (fun t => z :: t) ++ (everyW (own.drop (own.length - i))).tail) = _
      rw [hS]
    rw [en]
    refine ⟨.ref l, rfl, l, rfl, ⟨_, SqL.of hl⟩, fun D hD => ?_⟩
    refine lc_list (xs := ys) (fun j H3 => Same H2 H3 ∧ ∃ zs, H3 D = some (.lst zs) ∧ TpAll H3 zs ((S.take j).map fun t => z :: t)) ⟨same_new hD _, [], upd_same, .nil⟩ (fun j H3 _ h => SqL.of (h.1 _ _ hl)) (fun j y H3 hy h => ?_) (fun H3 h => ?_)
    · obtain ⟨s3, zs, hd, hzs⟩ := h
      obtain ⟨t, ht, b, rfl, hb0⟩ := hys.at' hy
      have hB : SqT K H3 b (t.map V.str) := SqT.of (s3 _ _ hb0)
      have tl : t.length ≤ 10 := by
        have z2 : t ∈ S := List.mem_of_getElem? ht
        rw [← hS] at z2
        have := (mem_every.mp z2).length_le
        rw [List.length_drop] at this
        omega
      refine ⟨rfl, .str z, rfl, .ref b, rfl, b, _, rfl, .inl hB, ?_⟩
      refine ⟨by
        show (V.str z :: (t.map V.str ++ [])).length ≤ sizeLine
        rw [List.append_nil, List.length_cons, List.length_map]
        exact small_line (by omega), fun u hu => ?_⟩
      have eu : (V.str z :: (t.map V.str ++ [])) = (z :: t).map V.str := by
        rw [List.append_nil]
        rfl
      rw [eu]
      have s4 := same_new hu (.tup ((z :: t).map V.str))
      have hd4 := s4 _ _ hd
      have m4 : Mut ((upd H3 u (.tup ((z :: t).map V.str))) D) := by
        rw [hd4]
        exact True.intro
      have jl : j < S.length := (List.getElem?_eq_some_iff.mp ht).1
      refine ⟨zs, hd4, small_line' (by rw [hzs.len, List.length_map, List.length_take]; omega), same_put (s3.trans s4) hD, zs ++ [.ref u], upd_same, ?_⟩
      rw [take_snoc ht, List.map_append]
      have g1 := Tups.put (o := .lst (zs ++ [.ref u])) hd4
      exact TpAll.app (.cons ⟨u, rfl, g1 _ _ upd_same⟩ .nil) (TpAll.go ((Tups.of s4).trans g1) hzs)
    · obtain ⟨s3, zs, hd, hzs⟩ := h
      rw [yl, List.take_length] at hzs
      have zl : zs.length = S.length := by rw [hzs.len, List.length_map]
      refine ⟨by show 0 ≤ sizeLine; decide, fun t1 ht1 => ?_⟩
      have s4 := same_new ht1 (.tup [])
      refine ⟨by show 1 ≤ sizeLine; decide, fun l1 hl1 => ?_⟩
      have s5 := same_new hl1 (.lst [.ref t1])
      have s45 := s4.trans s5
      refine ⟨.ref D, rfl, l1, D, [.ref t1], zs, rfl, rfl, upd_same, s45 _ _ hd, small_line (by rw [List.length_singleton, zl]; omega), fun p hp => ?_⟩
      have s6 := same_new hp (.lst ([.ref t1] ++ zs))
      have s46 := s45.trans s6
      refine ⟨.ref l, rfl, 1, rfl, l, ys, rfl, SqL.of ((s3.trans s46) _ _ hl), fun p2 hp2 => ?_⟩
      rw [cut_tail ys (by omega)]
      have s7 := same_new hp2 (.lst ys.tail)
      have s47 := s46.trans s7
      refine ⟨p, p2, [.ref t1] ++ zs, ys.tail, rfl, rfl, s7 _ _ upd_same, upd_same, small_line (by rw [List.length_append, List.length_singleton, List.length_tail]; omega), fun p3 hp3 => ?_⟩
      have s8 := same_new hp3 (.lst ([.ref t1] ++ zs ++ ys.tail))
      have s48 := s47.trans s8
      have sAll := sm.trans (s3.trans s48)
      refine ⟨⟨p3, _, _, rfl, none_back (s02.trans (sm.trans (s3.trans s47))) hp3, _, upd_same, ?_⟩, sAll⟩
      rw [← List.cons_append]
      have h1 := TpAll.go (Tups.of s48) hzs
      have h2 := TpAll.tail (TpAll.go (Tups.of (s3.trans s48)) hys)
      exact TpAll.app h2 (.cons ⟨t1, rfl, (s5.trans (s6.trans (s7.trans s8))) _ _ upd_same⟩ h1)
  · obtain ⟨⟨l, y2, y3, rfl, hln, hW⟩, sm⟩ := hI2
    rw [List.length_reverse, List.length_map, Nat.sub_self, List.drop_zero] at hW
    exact ⟨.ref l, rfl, q H2 l (s02.trans sm) hln hW⟩
end
end Rw
namespace Rw
open PySem PySem.Spec PyProof.Rows L2 GenW
/-! ### for and if in a generator's body -/
section
variable {prog : Program} {w : World} {A : Around} {R : GenEnd} {Y : Protocol} {n : Nat} {s₀ : Shared} {fs : List Frame} {s : Shared} {env : Env}
def noted (env : Env) (x : Value) : Sem PySem.Fin := (do noteFrame x env; theTreesLotGoes x : Sem Unit).wrap (fun _ => .raise x) .raise id id
theorem seg_forLoop {target : Expr} {it : Value} {body : List Stmt}
    (h : wpAny (model prog w) (A.over (.forLoop target it body [] env) fs) (pyNext it) (fun r s' => match r with
        | none => Seg (model prog w) A R Y n s₀ (.block [] env) ((model prog w).den (.block [] env)) fs s'
        | some v => wpAny (model prog w) (A.over (.forLoop target it body [] env) fs) (letOwnedTupleGo target it v) (fun _ s1 =>
            wpAny (model prog w) (A.over (.forLoop target it body [] env) fs) (assign target env v) (fun _ s2 =>
              Seg (model prog w) A R Y n s₀ (.forLoop target it body [] env) ((execs body env).wrap (fun f => match f with
                | .next | .cont => .pure (.again (.forLoop target it body [] env))
                | .brk => .pure (.done .next)
                | .ret v => .pure (.done (.ret v))) (noted env) id id) fs s2)
              (fun x s' => Seg (model prog w) A R Y n s₀ (.forLoop target it body [] env) (noted env x) fs s') s1)
            (fun x s' => Seg (model prog w) A R Y n s₀ (.forLoop target it body [] env) (noted env x) fs s') s')
      (fun x s' => Seg (model prog w) A R Y n s₀ (.forLoop target it body [] env) (noted env x) fs s') s) :
    Seg (model prog w) A R Y n s₀ (.forLoop target it body [] env) ((model prog w).den (.forLoop target it body [] env)) fs s := by
  show Seg _ A R Y n s₀ _ ((forTurn target it body [] env).onRaise (fun x => do noteFrame x env; theTreesLotGoes x)) fs s
  rw [Sem.onRaise_eq_wrap]
  have eN : (fun e => (do noteFrame e env; theTreesLotGoes e : Sem Unit).bind fun _ => (.raise e : Sem PySem.Fin)) = noted env := by
    funext e
    unfold noted
    rw [Sem.bind_eq_wrap]
  have eN' : (fun e => ((fun x => do noteFrame x env; theTreesLotGoes x : Value → Sem Unit) e).bind fun _ => (.raise e : Sem PySem.Fin)) = noted env := eN
  rw [eN']
  unfold forTurn
  refine seg_bind_wrap (wpAny_standAt ?_)
  refine seg_bind_wrap (wpAny_onRaise (wpAny_mono h (fun r s1 h1 => ?_) fun x s1 hx => wpAny_standAt hx))
  cases r with
  | none =>
    show Seg _ A R Y n s₀ _ (.pure (.again (.block [] env))) fs s1
    exact seg_again rfl h1
  | some v =>
    refine seg_bind_wrap (wpAny_mono h1 (fun _ s2 h2 => ?_) fun x s2 hx => hx)
    refine seg_bind_wrap (wpAny_mono h2 (fun _ s3 h3 => ?_) fun x s3 hx => hx)
    rw [Sem.bind_eq_wrap', Sem.wrap_wrap]
    exact Eq.mpr (congrArg (fun t => Seg (model prog w) A R Y n s₀ (.forLoop target it body [] env) t fs s3) (Sem.wrap_congr (execs body env) _ _ (fun f => by cases f <;> rfl) (fun e => rfl))) h3
theorem seg_For {target iter : Expr} {body : List Stmt} {pos : Pos} {c : Code} {K : Flow → Sem PySem.Fin} {J : Value → Sem PySem.Fin} {gd : Bool → Bool} {lv : List Value → List Value}
    (h : wpAny (model prog w) (A.over c fs) (eval iter env) (fun x s1 => wpAny (model prog w) (A.over c fs) (pyIter x) (fun it s2 => ∀ p,
      Seg (model prog w) A R Y n s₀ (.forLoop target it body [] env) ((model prog w).den (.forLoop target it body [] env))
        (.ret (fun r => ((match r with | .ok f => (.pure f : Sem Flow) | .error e => .raise e).onRaise (cameBack env)).wrap K J gd lv) none (gd false) (lv []) c p [] :: fs) s2)
        (fun x s' => Seg (model prog w) A R Y n s₀ c (J x) fs s') s1) (fun x s' => Seg (model prog w) A R Y n s₀ c (J x) fs s') s)
    (hs : ∀ x, foldedSetIterable iter env x = pure x) :
    Seg (model prog w) A R Y n s₀ c ((exec (.For target iter body [] pos) env).wrap K J gd lv) fs s := by
  rw [exec_For]
  refine seg_bind_wrap (wpAny_standAt ?_)
  refine seg_bind_wrap (wpAny_mono h (fun x s1 h1 => ?_) fun x s1 hx => hx)
  refine seg_bind_wrap (wpAny_of_eq (hs x) ?_)
  refine seg_bind_wrap (wpAny_standAt ?_)
  refine seg_bind_wrap (wpAny_holding (wpAny_mono h1 (fun it s2 h2 => ?_) fun x s2 hx => hx))
  exact seg_call h2
end
section
variable {X : Cx}
def tGIf (c : TT) (t u : TGn) : TGn := fun D ys σ H => c σ H fun b H1 => if b = true then t D ys σ H1 else u D ys σ H1
theorem gs_if {test : Expr} {body orelse : List Stmt} {pos : Pos} {tc : TT} {t u : TGn} (hc : PT X test tc) (ha : GSs X body t) (hb : GSs X orelse u) : GS X (.If test body orelse pos) (tGIf tc t u) := by
  refine ⟨fun A S ip R n ys s₀ c fs K J gd lv s σ H D g hn k hI ht => ?_⟩
  rw [arm_exec_If]
  refine seg_bind_wrap (wpAny_standAt ?_)
  refine seg_bind_wrap ?_
  rw [g.over]
  obtain ⟨acc, cc, r, I⟩ := hI
  refine wpAny_mono (hc.run _ s σ H _ I ht) (fun b s' hb' => ?_) fun x s' hx => k.exc n s₀ x s' hx
  obtain ⟨H1, I1, q1⟩ := hb'
  cases b with
  | true =>
    rw [if_pos rfl] at q1
    exact ha.run A S ip R n ys s₀ c fs K J gd lv s' σ H1 D g hn k ⟨acc, cc, r, I1⟩ q1
  | false =>
    rw [if_neg Bool.false_ne_true] at q1
    exact hb.run A S ip R n ys s₀ c fs K J gd lv s' σ H1 D g hn k ⟨acc, cc, r, I1⟩ q1
def tGFor (wi : TI) (g : TG) (tb : TGn) : TGn := fun D ys σ H => wi σ H fun J H1 => ∃ W : Nat → Nat → List V → L2.St → Hp → Prop, (∃ m, W 0 m ys σ H1) ∧ ∀ i m ys σ H, W i m ys σ H →
  (J.stop i H ∧ D.nx ys σ H) ∨ (J.go i H ∧ ∃ N : List V → L2.St → Hp → Prop, (∀ ys' σ' H', N ys' σ' H' → ∃ m', m' < m ∧ W (i + 1) m' ys' σ' H') ∧
    ∀ x H', J.yld i H x H' → g x σ H' fun σ2 H2 => tb { D with nx := N, ct := N, bk := D.nx } ys σ2 H2)
theorem gs_for {tg iter : Expr} {body : List Stmt} {pos : Pos} {wi : TI} {g : TG} {tb : TGn} (hp : PassesOwn (model X.prog X.w) X.A X.env X.xe) (hc : X.calm = true) (hi : PI X tg iter wi) (hg : PG X tg g) (hb : GSs X body tb)
    (hs : ∀ x, foldedSetIterable iter X.env x = pure x := by intro _; rfl) : GS X (.For tg iter body [] pos) (tGFor wi g tb) := by
  refine ⟨fun A S ip R n ys s₀ c fs K J gd lv s σ H D gc hn k hI ht => ?_⟩
  refine seg_For ?_ hs
  rw [gc.over]
  obtain ⟨acc, cc, r, I⟩ := hI
  refine wpAny_mono (hi.run _ s σ H _ I ht) (fun v s1 h1 => ?_) fun x s' hx => k.exc n s₀ x s' hx
  refine wpAny_mono h1 (fun itv s2 h2 => ?_) fun x s' hx => k.exc n s₀ x s' hx
  obtain ⟨it, fp, tn, J0, H2, e, I2, T, st2, f2, W, ⟨m0, w0⟩, turn⟩ := h2
  subst e
  intro p
  have neS : ∀ b ∈ fp, b ≠ S := fun b hb z => (f2 b hb).2.2.2.2.2 (S, lstObj acc cc) (List.mem_append_right _ List.mem_cons_self) z.symm
  have statG : ∀ {acc' : Array Value} {c' : Nat} {H' : Hp}, (∀ b ∈ fp, H' b = none) → ∀ b ∈ fp, FpOk X ((S, lstObj acc' c') :: ip) H' b := fun {acc' c' H'} hn b hb => by
    obtain ⟨f0, fa, fb, fc, fd, fe⟩ := f2 b hb
    refine ⟨hn b hb, fa, fb, fc, fd, fun p hp => ?_⟩
    rcases List.mem_append.mp hp with hp | hp
    · exact fe p (List.mem_append_left _ hp)
    · rcases List.mem_cons.mp hp with rfl | hp
      · exact (neS b hb).symm
      · exact fe p (List.mem_append_right _ (List.mem_cons_of_mem _ hp))
  have gl := fun (kk : Result → Sem PySem.Fin) => gc_loop (k := kk) (c' := .forLoop tg (.ref it) body [] X.env) (l := lv []) (kp := []) (p := p) gc rfl rfl
  have loop : ∀ (m i n : Nat) (ys : List V) (s₀ s : Shared) (σ : L2.St) (H : Hp), n + ys.length = sizeLine → W i m ys σ H → GI X S ip ys σ H s → tn i s.heap → (∀ b ∈ fp, H b = none) →
      Seg (model X.prog X.w) A R (GY X S) n s₀ (.forLoop tg (.ref it) body [] X.env) ((model X.prog X.w).den (.forLoop tg (.ref it) body [] X.env))
        (.ret (fun r => ((match r with | .ok f => (.pure f : Sem Flow) | .error e => .raise e).onRaise (cameBack X.env)).wrap K J gd lv) none (gd false) (lv []) c p [] :: fs) s := by
    intro m
    induction m using Nat.strongRecOn with
    | ind m ih =>
      intro i n ys s₀ s σ H hn w hI st fr
      have ee : ∀ (n : Nat) (s₀ : Shared) (x : Value) (s' : Shared), X.xe x s' → Seg (model X.prog X.w) A R (GY X S) n s₀ (.forLoop tg (.ref it) body [] X.env) (noted X.env x)
          (.ret (fun r => ((match r with | .ok f => (.pure f : Sem Flow) | .error e => .raise e).onRaise (cameBack X.env)).wrap K J gd lv) none (gd false) (lv []) c p [] :: fs) s' := fun n s₀ x s' hx => by
        unfold noted
        refine seg_wrap ?_
        rw [(gl _).over]
        refine wpAny_bind (wpAny_mono (hp x s' hx) (fun _ s'' hcb => wpAny_theTreesLotGoes ?_) fun y s'' hcb => ?_)
        · exact seg_leaf (.error x) (seg_cameBack gc k hcb)
        · exact seg_leaf (.error y) (seg_cameBack gc k hcb)
      refine seg_forLoop ?_
      rw [(gl _).over]
      obtain ⟨acc1, c1, r1, I1⟩ := hI
      rcases turn i m ys σ H w with ⟨stop, qn⟩ | ⟨go, N, hN, step⟩
      · refine wpAny_mono (T.done X rfl rfl rfl hc i _ s σ H X.xe I1 (statG fr) st stop) (fun rr s4 h4 => ?_) fun x s' hx => ee n s₀ x s' hx
        obtain ⟨hr, I4⟩ := h4
        subst hr
        show Seg _ A R _ n s₀ _ ((execs [] X.env).onRaise _ >>= fun f => pure (Fin.done f)) _ s4
        exact seg_leaf (.ok .next) (k.ok n ys s₀ s4 .next hn ⟨σ, H, ⟨acc1, c1, r1, I4⟩, qn⟩)
      · refine wpAny_mono (T.item X rfl rfl rfl hc i _ s σ H X.xe I1 (statG fr) st go) (fun rr s4 h4 => ?_) fun x s' hx => ee n s₀ x s' hx
        obtain ⟨u, hr, h4⟩ := h4
        subst hr
        refine wpAny_mono h4 (fun _ s5 h5 => ?_) fun x s' hx => ee n s₀ x s' hx
        obtain ⟨x, H5, I5, r5, y5, st5, fr5⟩ := h5
        have I5' : Inv X ((S, lstObj acc1 c1) :: (ip ++ pinsAt fp s5.heap)) σ H5 s5 := I5.pinned (statG fr5) (T.obj _ _ st5)
        refine wpAny_mono (hg.run _ s5 σ H5 x u _ I5' r5 (step x H5 y5)) (fun _ s6 h6 => ?_) fun x s' hx => ee n s₀ x s' hx
        obtain ⟨σ6, H6, I6, q6⟩ := h6
        have gl2 := fun (kk : Result → Sem PySem.Fin) => (gl kk)
        have gcb : GC X S (ip ++ pinsAt fp s5.heap) A (.forLoop tg (.ref it) body [] X.env) (.ret (fun r => ((match r with | .ok f => (.pure f : Sem Flow) | .error e => .raise e).onRaise (cameBack X.env)).wrap K J gd lv) none (gd false) (lv []) c p [] :: fs) id := by
          obtain ⟨g1, g2, g3, g4, g5, g6, g7⟩ := gl (fun r => ((match r with | .ok f => (.pure f : Sem Flow) | .error e => .raise e).onRaise (cameBack X.env)).wrap K J gd lv)
          refine ⟨g1, fun p hp => ?_, g3, g4, g5, g6, g7⟩
          rcases List.mem_append.mp hp with hp | hp
          · exact g2 p hp
          · exact neS _ (of_pinsAt hp).1
        have out : ∀ {ys' : List V} {σ7 : L2.St} {H7 : Hp} {s7 : Shared}, GI X S (ip ++ pinsAt fp s5.heap) ys' σ7 H7 s7 → GI X S ip ys' σ7 H7 s7 := fun {ys' σ7 H7 s7} h => by
          obtain ⟨a7, c7, r7, I7⟩ := h
          exact ⟨a7, c7, r7, Inv.unpinned (pins := (S, lstObj a7 c7) :: ip) (pl := pinsAt fp s5.heap) I7⟩
        refine hb.run A S _ R n ys s₀ _ _ _ _ id id s6 σ6 H6 { D with nx := N, ct := N, bk := D.nx } gcb hn ⟨fun n' ys' s₀' s7 f hn' hq => ?_, fun n' s₀' x s7 hx => ee n' s₀' x s7 hx⟩ ⟨acc1, c1, r1, I6⟩ q6
        have again : ∀ {σ7 : L2.St} {H7 : Hp}, GI X S (ip ++ pinsAt fp s5.heap) ys' σ7 H7 s7 → N ys' σ7 H7 → Seg (model X.prog X.w) A R (GY X S) n' s₀' (.forLoop tg (.ref it) body [] X.env) (.pure (.again (.forLoop tg (.ref it) body [] X.env)))
            (.ret (fun r => ((match r with | .ok f => (.pure f : Sem Flow) | .error e => .raise e).onRaise (cameBack X.env)).wrap K J gd lv) none (gd false) (lv []) c p [] :: fs) s7 := fun {σ7 H7} I7 n7 => by
          obtain ⟨m', hm, w7⟩ := hN ys' σ7 H7 n7
          obtain ⟨a7, c7, r7, J7⟩ := id I7
          have pinned : ∀ b ∈ fp, ∀ o, s5.heap.get? b = some o → s7.heap.get? b = some o ∧ H7 b = none := fun b hb o e => by
            have := J7.pin (b, o) (List.mem_append_right _ (List.mem_cons_of_mem _ (List.mem_append_right _ (mem_pinsAt hb e))))
            exact ⟨this.1, this.2.1⟩
          refine seg_again rfl (ih m' hm (i + 1) n' ys' s₀' s7 σ7 H7 hn' w7 (out I7) (T.keep _ _ _ st5 fun b hb o e => (pinned b hb o e).1) fun b hb => ?_)
          obtain ⟨o, e, _⟩ := T.obj _ _ st5 b hb
          exact (pinned b hb o e).2
        cases f with
        | next => obtain ⟨σ7, H7, I7, n7⟩ := hq; exact again I7 n7
        | cont => obtain ⟨σ7, H7, I7, n7⟩ := hq; exact again I7 n7
        | brk => obtain ⟨σ7, H7, I7, q7⟩ := hq; exact seg_leaf (.ok .next) (k.ok n' ys' s₀' s7 .next hn' ⟨σ7, H7, out I7, q7⟩)
        | ret v => obtain ⟨x7, σ7, H7, I7, r7, q7⟩ := hq; exact seg_leaf (.ok (.ret v)) (k.ok n' ys' s₀' s7 (.ret v) hn' ⟨x7, σ7, H7, out I7, r7, q7⟩)
  exact loop m0 0 n ys s₀ s2 σ H2 hn w0 ⟨acc, cc, r, I2⟩ st2 fun b hb => (f2 b hb).1
end
/-- a walk over a list in a generator's body -/
theorem for_listG {K : PySem.W.Frag} {a : Addr} {xs : List V} {g : TG} {tb : TGn} {D : GEnds} {ys : List V} {σ : L2.St} {H : Hp} (Pv : Nat → List V → L2.St → Hp → Prop) (h0 : Pv 0 ys σ H) (hl : ∀ i ys σ H, i ≤ xs.length → Pv i ys σ H → SqL K H a xs)
    (hs : ∀ i x ys σ H, xs[i]? = some x → Pv i ys σ H → g x σ H fun σ2 H2 => tb { D with nx := Pv (i + 1), ct := Pv (i + 1), bk := D.nx } ys σ2 H2) (hd : ∀ ys σ H, Pv xs.length ys σ H → D.nx ys σ H) :
    ∃ W : Nat → Nat → List V → L2.St → Hp → Prop, (∃ m, W 0 m ys σ H) ∧ ∀ i m ys σ H, W i m ys σ H →
      ((Itl K a).stop i H ∧ D.nx ys σ H) ∨ ((Itl K a).go i H ∧ ∃ N : List V → L2.St → Hp → Prop, (∀ ys' σ' H', N ys' σ' H' → ∃ m', m' < m ∧ W (i + 1) m' ys' σ' H') ∧ ∀ x H', (Itl K a).yld i H x H' → g x σ H' fun σ2 H2 => tb { D with nx := N, ct := N, bk := D.nx } ys σ2 H2) := by
  refine ⟨fun i m ys σ H => m = xs.length - i ∧ i ≤ xs.length ∧ Pv i ys σ H, ⟨xs.length, by simp, Nat.zero_le _, h0⟩, ?_⟩
  rintro i m ys σ H ⟨rfl, hi, p⟩
  have q := hl i ys σ H hi p
  by_cases hlt : i < xs.length
  · refine .inr ⟨⟨xs, xs[i], q, by simp [hlt]⟩, Pv (i + 1), fun ys' σ' H' p' => ⟨xs.length - (i + 1), by omega, rfl, hlt, p'⟩, fun x H' y => ?_⟩
    obtain ⟨e, y⟩ := y
    subst e
    exact hs i x ys σ _ (y xs q) p
  · have e : i = xs.length := by omega
    subst e
    exact .inl ⟨⟨xs, q, Nat.le_refl _⟩, hd ys σ H p⟩
end Rw
namespace Rw
open PySem PySem.Spec PyProof.Rows L2 GenW
/-! ### a generator whose consumer has objects of its own, that change while it sleeps -/
/-- what the consumer's objects are, by what was handed out -/
abbrev CsT := List Addr → List V → Heap → Prop
/-- from one turn to the next: the consumer has changed what is its own (as), and has made more (as') -/
structure Asleep (as as' : List Addr) (s s' : Shared) : Prop where
  os : s'.os = s.os
  bare : AllBare s'.gens
  keep : ∀ b o, b ∉ as → s.heap.get? b = some o → s'.heap.get? b = some o
  more : ∀ b ∈ as', b ∈ as ∨ s.heap.objs.size ≤ b
  own : ∀ b ∈ as', ∃ o, s'.heap.get? b = some o ∧ ∀ v, o.data ≠ .cell v
/-- what the consumer knows holds as long as its own objects stand -/
def Holds (Cs : CsT) : Prop := ∀ as ys h h', (∀ b ∈ as, ∀ o, h.get? b = some o → h'.get? b = some o) → Cs as ys h → Cs as ys h'
def FarC (X : Cx) (ip : List (Addr × Obj)) (b : Addr) : Prop := X.s_0.heap.objs.size ≤ b ∧ b ≠ X.env.locals ∧ (∀ x c, X.env.cells.lookup x = some c → c ≠ b) ∧ ∀ p ∈ X.pn ++ ip, p.1 ≠ b
def Awake (X : Cx) (Cs : CsT) (ip : List (Addr × Obj)) (ys : List V) (σ : L2.St) (H : Hp) (s : Shared) : Prop :=
  ∃ (as : List Addr) (ps : List (Addr × Obj)), ps.map (·.1) = as ∧ (∀ b ∈ as, FarC X ip b) ∧ Inv X (ps ++ ip) σ H s ∧ Cs as ys s.heap
section
variable {X : Cx} {as : List Addr} {Cs : CsT} {ip : List (Addr × Obj)} {ys : List V} {σ : L2.St} {H : Hp} {s s' : Shared}
theorem objs_of {h : Heap} : ∀ {as : List Addr}, (∀ b ∈ as, ∃ o, h.get? b = some o ∧ ∀ v, o.data ≠ .cell v) → ∃ ps : List (Addr × Obj), ps.map (·.1) = as ∧ ∀ p ∈ ps, h.get? p.1 = some p.2 ∧ ∀ v, p.2.data ≠ .cell v
  | [], _ => ⟨[], rfl, fun _ z => nomatch z⟩
  | b :: as, q => by
    obtain ⟨o, h1, h2⟩ := q b List.mem_cons_self
    obtain ⟨ps, e, h3⟩ := objs_of fun c hc => q c (List.mem_cons_of_mem _ hc)
    refine ⟨(b, o) :: ps, by rw [List.map_cons, e], fun p hp => ?_⟩
    rcases List.mem_cons.mp hp with rfl | hp
    · exact ⟨h1, h2⟩
    · exact h3 p hp
/-- what the pins say of the consumer's objects -/
theorem pins_at {ps : List (Addr × Obj)} (e : ps.map (·.1) = as) (I : Inv X (ps ++ ip) σ H s) : ∀ b ∈ as, H b = none ∧ b ≠ X.env.locals ∧ b ∉ X.fs ∧ ∃ o, (b, o) ∈ ps ∧ s.heap.get? b = some o := fun b hb => by
  rw [← e] at hb
  obtain ⟨p, hp, rfl⟩ := List.mem_map.mp hb
  obtain ⟨h1, h2, h3, h4, _⟩ := I.pin p (List.mem_append_right _ (List.mem_append_left _ hp))
  exact ⟨h2, h3, h4, p.2, hp, h1⟩
/-- run on: the consumer's objects stay -/
theorem kept_cs {ps : List (Addr × Obj)} (hC : Holds Cs) {σ' : L2.St} {H' : Hp} (e : ps.map (·.1) = as) (I : Inv X (ps ++ ip) σ H s) (c : Cs as ys s.heap) (I' : Inv X (ps ++ ip) σ' H' s') : Cs as ys s'.heap := hC _ _ _ _ (fun b hb o eo => by
  obtain ⟨_, _, _, o', ho', e'⟩ := pins_at e I b hb
  rw [e'] at eo
  rw [← Option.some.inj eo]
  exact (I'.pin (b, o') (List.mem_append_right _ (List.mem_append_left _ ho'))).1) c
theorem Awake.ran {ps : List (Addr × Obj)} (hC : Holds Cs) {σ' : L2.St} {H' : Hp} (e : ps.map (·.1) = as) (f : ∀ b ∈ as, FarC X ip b) (I : Inv X (ps ++ ip) σ H s) (c : Cs as ys s.heap) (I' : Inv X (ps ++ ip) σ' H' s') : Awake X Cs ip ys σ' H' s' := by
  exact ⟨as, ps, e, f, I', kept_cs hC e I c I'⟩
/-- woken again -/
theorem woken {as' : List Addr} {ps : List (Addr × Obj)} {x : V} (e : ps.map (·.1) = as) (f : ∀ b ∈ as, FarC X ip b) (I : Inv X (ps ++ ip) σ H s) (z : Asleep as as' s s') (c : Cs as' (ys ++ [x]) s'.heap) : Awake X Cs ip (ys ++ [x]) σ H s' := by
  have at_ := pins_at e I
  have I0 : Inv X ip σ H s := I.pins_of fun p hp => I.pin p (List.mem_append_right _ (List.mem_append_right _ hp))
  have nt : ∀ b u, H b = some u → b ∉ as := fun b u q hb => by
    have := (at_ b hb).1
    rw [q] at this
    cases this
  obtain ⟨z1, z2, z3, z5, z4⟩ := z
  obtain ⟨hh, g, d, t, o⟩ := s'
  have ho : o = s.os := z1
  subst ho
  have nl : X.env.locals ∉ as := fun hb => (f _ hb).2.1 rfl
  have J : Inv X ip σ H { s with heap := hh, gens := g, drawn := d, toks := t } := by
    refine I0.step (ch := as) (fun b hb => ?_) (fun b ob _ _ hc q _ => z3 b ob hc q) (fun b ob _ _ hc q _ => ⟨ob.slots, z3 b ob hc q⟩) (fun _ _ _ _ n => n) (fun b ob hc q => ⟨ob, z3 b ob hc q⟩)
      (fun _ _ q => q) (fun _ _ _ q => q) (fun b ps q => ⟨#[], by rw [q]; simp⟩) (fun m hm => ?_) (fun b u q => ?_) z2
    · obtain ⟨f1, f2, f3, f4⟩ := f b hb
      exact ⟨.inr f1, f2, f3, f4⟩
    · obtain ⟨ob, es, ep, ho, r⟩ := hm
      exact ⟨ob, es, ep, z3 _ ob nl ho, r⟩
    · refine (I0.hok b u q).stay (fun c v hc y => z3 c v ?_ y) (fun _ y => y) fun _ _ y => y
      rcases hc with y | y
      · rw [y]; exact nt b u q
      · exact nt c _ y
  obtain ⟨ps', e', hp'⟩ := objs_of (h := hh) z4
  have new : ∀ b ∈ as', H b = none ∧ b ≠ X.env.locals ∧ b ∉ X.fs ∧ FarC X ip b := fun b hb => by
    rcases z5 b hb with hb | hb
    · obtain ⟨q1, q2, q3, _⟩ := at_ b hb
      exact ⟨q1, q2, q3, f b hb⟩
    · refine ⟨I0.hok.fresh hb, Nat.ne_of_gt (Nat.lt_of_lt_of_le I0.lt hb), I0.nofs hb, Nat.le_trans I0.sz hb, Nat.ne_of_gt (Nat.lt_of_lt_of_le I0.lt hb), fun x cc ec q => ?_, fun p hp q => ?_⟩
      · obtain ⟨v, ob, ho, _⟩ := I0.cell x cc ec
        have := Heap.lt_size ho
        rw [q] at this
        exact absurd (Nat.lt_of_lt_of_le this hb) (Nat.lt_irrefl _)
      · have := Heap.lt_size (I0.pin p hp).1
        rw [q] at this
        exact absurd (Nat.lt_of_lt_of_le this hb) (Nat.lt_irrefl _)
  refine ⟨as', ps', e', fun b hb => (new b hb).2.2.2, J.pins_of fun p hp => ?_, c⟩
  rcases List.mem_append.mp hp with hp | hp
  · have hb : p.1 ∈ as' := by rw [← e']; exact List.mem_map.mpr ⟨p, hp, rfl⟩
    obtain ⟨q1, q2, q3, _⟩ := new p.1 hb
    exact ⟨(hp' p hp).1, q1, q2, q3, (hp' p hp).2⟩
  · exact J.pin p (List.mem_append_right _ hp)
end
/-! ### the protocol -/
def ProtC (X : Cx) (Cs : CsT) : Protocol := fun n s₀ v s kap =>
  ∃ ys x ip σ H as ps, n + 1 + ys.length = sizeLine ∧ RelV x v ∧ ps.map (·.1) = as ∧ (∀ b ∈ as, FarC X ip b) ∧ Inv X (ps ++ ip) σ H s ∧ Cs as ys s.heap ∧ ∀ as' s', Asleep as as' s s' → Cs as' (ys ++ [x]) s'.heap → kap (.send .none) s'
def EndC (X : Cx) (Cs : CsT) (Q : List V → VK) (F : Value → Shared → Prop) : GenEnd := fun n s₀ r s => match r with
  | .ok (.ret u) => ∃ ys v ip σ H, n + ys.length = sizeLine ∧ Awake X Cs ip ys σ H s ∧ RelV v u ∧ Q ys v H
  | .ok _ => False
  | .error e => F e s
def FlowC (X : Cx) (Cs : CsT) (ip : List (Addr × Obj)) (D : GEnds) (ys : List V) (f : Flow) (s : Shared) : Prop :=
  match f with
  | .next => ∃ σ H, Awake X Cs ip ys σ H s ∧ D.nx ys σ H
  | .brk => ∃ σ H, Awake X Cs ip ys σ H s ∧ D.bk ys σ H
  | .cont => ∃ σ H, Awake X Cs ip ys σ H s ∧ D.ct ys σ H
  | .ret u => ∃ v σ H, Awake X Cs ip ys σ H s ∧ RelV v u ∧ D.rt ys v H
/-- where the code stands, and what follows -/
structure PlaceC (X : Cx) (Cs : CsT) (A : Around) (c : Code) (fs : List Frame) (gd : Bool → Bool) : Prop where
  co : Holds Cs
  over : A.over c fs = X.A
  split : splitAtGen fs = none
  guard : fs.any Frame.guarded = false
  gd : gd false = false
structure NextC (X : Cx) (Cs : CsT) (ip : List (Addr × Obj)) (A : Around) (R : GenEnd) (c : Code) (fs : List Frame) (K : Flow → Sem PySem.Fin) (J : Value → Sem PySem.Fin) (D : GEnds) : Prop where
  ok : ∀ (n : Nat) (ys : List V) (s₀ s : Shared) (f : Flow), n + ys.length = sizeLine → FlowC X Cs ip D ys f s → Seg (model X.prog X.w) A R (ProtC X Cs) n s₀ c (K f) fs s
  exc : ∀ (n : Nat) (s₀ : Shared) (e : Value) (s : Shared), X.xe e s → Seg (model X.prog X.w) A R (ProtC X Cs) n s₀ c (J e) fs s
/-- a piece of a generator's body, told by its reading -/
def RunsC (X : Cx) (m : Sem Flow) (t : TGn) : Prop :=
  ∀ (A : Around) (Cs : CsT) (ip : List (Addr × Obj)) (R : GenEnd) (n : Nat) (ys : List V) (s₀ : Shared) (c : Code) (fs : List Frame) (K : Flow → Sem PySem.Fin) (J : Value → Sem PySem.Fin) (gd : Bool → Bool) (lv : List Value → List Value) (s : Shared) (σ : L2.St) (H : Hp) (D : GEnds),
    PlaceC X Cs A c fs gd → n + ys.length = sizeLine → NextC X Cs ip A R c fs K J D → Awake X Cs ip ys σ H s → t D ys σ H →
    Seg (model X.prog X.w) A R (ProtC X Cs) n s₀ c (m.wrap K J gd lv) fs s
structure CS (X : Cx) (st : Stmt) (t : TGn) : Prop where
  run : RunsC X (exec st X.env) t
structure CSs (X : Cx) (st : List Stmt) (t : TGn) : Prop where
  run : RunsC X (execs st X.env) t
section
variable {X : Cx} {st : Stmt} {rest : List Stmt}
theorem flow_of {as : List Addr} {Cs : CsT} {ps ip : List (Addr × Obj)} {s s' : Shared} {D : GEnds} {ys : List V} {σ : L2.St} {H : Hp} {f : Flow} (hC : Holds Cs) (e : ps.map (·.1) = as) (fa : ∀ b ∈ as, FarC X ip b) (I : Inv X (ps ++ ip) σ H s) (c : Cs as ys s.heap) (h : SP X (ps ++ ip) (D.at ys) f s') : FlowC X Cs ip D ys f s' := by
  cases f with
  | next => obtain ⟨σ', H', I', q⟩ := h; exact ⟨σ', H', Awake.ran hC e fa I c I', q⟩
  | brk => obtain ⟨σ', H', I', q⟩ := h; exact ⟨σ', H', Awake.ran hC e fa I c I', q⟩
  | cont => obtain ⟨σ', H', I', q⟩ := h; exact ⟨σ', H', Awake.ran hC e fa I c I', q⟩
  | ret u => obtain ⟨v, σ', H', I', r, q⟩ := h; exact ⟨v, σ', H', Awake.ran hC e fa I c I', r, q⟩
theorem cs_ps {t : TS} (h : PS X st t) : CS X st (tPlain t) := ⟨fun A Cs ip R n ys s₀ c fs K J gd lv s σ H D g hn k hI ht => by
  obtain ⟨as, ps, e, fa, I, cs⟩ := hI
  refine seg_wrap ?_
  rw [g.over]
  exact wpAny_mono (h.run _ s σ H (D.at ys) I ht) (fun f s' hs => k.ok n ys s₀ s' f hn (flow_of g.co e fa I cs hs)) fun x s' hx => k.exc n s₀ x s' hx⟩
theorem css_nil : CSs X [] tG0 := ⟨fun A Cs ip R n ys s₀ c fs K J gd lv s σ H D g hn k hI ht => seg_execs_nil (k.ok n ys s₀ s .next hn ⟨σ, H, hI, ht⟩)⟩
theorem css_cons {t u : TGn} (a : CS X st t) (b : CSs X rest u) : CSs X (st :: rest) (tGThen t u) := ⟨fun A Cs ip R n ys s₀ c fs K J gd lv s σ H D g hn k hI ht => by
  refine seg_execs_cons (a.run A Cs ip R n ys s₀ c fs _ J gd lv s σ H { D with nx := fun ys' σ' H' => u D ys' σ' H' } g hn ⟨fun n' ys' s₀' s' f hn' hs => ?_, k.exc⟩ hI ht)
  cases f with
  | next =>
    obtain ⟨σ', H', I', q⟩ := hs
    exact b.run A Cs ip R n' ys' s₀' c fs K J gd lv s' σ' H' D g hn' k I' q
  | brk => exact k.ok n' ys' s₀' s' .brk hn' hs
  | cont => exact k.ok n' ys' s₀' s' .cont hn' hs
  | ret u => exact k.ok n' ys' s₀' s' (.ret u) hn' hs⟩
theorem cs_yield {e : Expr} {yp pos : Pos} {te : TE} (he : PE X e te) (hco : X.env.scope.isCoroutine = false := by rfl) (hi : interactive X.env = false := by rfl) : CS X (.Expr (.Yield (some e) yp) pos) (tGYield te) := ⟨fun A Cs ip R n ys s₀ c fs K J gd lv s σ H D g hn k hI ht => by
  obtain ⟨hlt, ht⟩ := ht
  obtain ⟨n, rfl⟩ : ∃ m, n = m + 1 := ⟨n - 1, by omega⟩
  obtain ⟨as, ps, ep, fa, I, cs⟩ := hI
  refine seg_Expr_Yield g.split g.gd g.guard ?_ hco hi
  rw [g.over]
  refine wpAny_mono (he.run _ s σ H _ I ht) (fun v s' hv => ?_) fun x s' hx => k.exc _ s₀ x s' hx
  obtain ⟨x, H1, I1, rv, q⟩ := hv
  obtain ⟨as2, ps2, e2, f2, J2, c2⟩ := Awake.ran g.co ep fa I cs I1
  intro kap hk
  refine ⟨ys, x, ip, σ, H1, as2, ps2, hn, rv, e2, f2, J2, c2, fun as' s'' z zc => hk .none s'' ?_⟩
  refine k.ok n (ys ++ [x]) s'' s'' .next ?_ ⟨σ, H1, woken e2 f2 J2 z zc, q⟩
  rw [List.length_append, List.length_singleton]; omega⟩
theorem cs_if {test : Expr} {body orelse : List Stmt} {pos : Pos} {tc : TT} {t u : TGn} (hc : PT X test tc) (ha : CSs X body t) (hb : CSs X orelse u) : CS X (.If test body orelse pos) (tGIf tc t u) := ⟨fun A Cs ip R n ys s₀ c fs K J gd lv s σ H D g hn k hI ht => by
  rw [arm_exec_If]
  refine seg_bind_wrap (wpAny_standAt ?_)
  refine seg_bind_wrap ?_
  rw [g.over]
  obtain ⟨as, ps, ep, fa, I, cs⟩ := hI
  refine wpAny_mono (hc.run _ s σ H _ I ht) (fun b s' hb' => ?_) fun x s' hx => k.exc n s₀ x s' hx
  obtain ⟨H1, I1, q1⟩ := hb'
  have G1 := Awake.ran g.co ep fa I cs I1
  cases b with
  | true =>
    rw [if_pos rfl] at q1
    exact ha.run A Cs ip R n ys s₀ c fs K J gd lv s' σ H1 D g hn k G1 q1
  | false =>
    rw [if_neg Bool.false_ne_true] at q1
    exact hb.run A Cs ip R n ys s₀ c fs K J gd lv s' σ H1 D g hn k G1 q1⟩
theorem placeC_loop {Cs : CsT} {A : Around} {c c' : Code} {fs : List Frame} {gd : Bool → Bool} {k : Result → Sem PySem.Fin} {l kp : List Value} {p : Pos} (g : PlaceC X Cs A c fs gd) (hw : c'.weight = 0) (hu : c'.cUnits = 0) :
    PlaceC X Cs A c' (.ret k none (gd false) l c p kp :: fs) id := by
  refine ⟨g.co, (over_loop hw hu).trans g.over, ?_, ?_, rfl⟩
  · show (splitAtGen fs).map _ = none
    rw [g.split]
    rfl
  · show (gd false || fs.any Frame.guarded) = false
    rw [g.gd, g.guard]
    rfl
theorem seg_backC {Cs : CsT} {ip : List (Addr × Obj)} {A : Around} {R : GenEnd} {c : Code} {fs : List Frame} {K : Flow → Sem PySem.Fin} {J : Value → Sem PySem.Fin} {gd : Bool → Bool} {lv : List Value → List Value} {D : GEnds} {n : Nat} {s₀ s : Shared} {e : Value}
    (g : PlaceC X Cs A c fs gd) (k : NextC X Cs ip A R c fs K J D) (h : cameBackBy (model X.prog X.w) X.A X.env X.xe e s) :
    Seg (model X.prog X.w) A R (ProtC X Cs) n s₀ c (((Sem.raise e : Sem Flow).onRaise (cameBack X.env)).wrap K J gd lv) fs s := by
  show Seg _ _ _ _ _ _ _ (((cameBack X.env e).bind fun _ => (Sem.raise e : Sem Flow)).wrap K J gd lv) _ _
  rw [Sem.bind_eq_wrap, Sem.wrap_wrap]
  refine seg_wrap ?_
  rw [g.over]
  exact wpAny_mono h (fun _ s' hx => k.exc n s₀ e s' hx) fun x s' hx => k.exc n s₀ x s' hx
theorem cs_for {tg iter : Expr} {body : List Stmt} {pos : Pos} {wi : TI} {g : TG} {tb : TGn} (hp : PassesOwn (model X.prog X.w) X.A X.env X.xe) (hc : X.calm = true) (hi : PI X tg iter wi) (hg : PG X tg g) (hb : CSs X body tb)
    (hs : ∀ x, foldedSetIterable iter X.env x = pure x := by intro _; rfl) : CS X (.For tg iter body [] pos) (tGFor wi g tb) := by
  refine ⟨fun A Cs ip R n ys s₀ c fs K J gd lv s σ H D gc hn k hI ht => ?_⟩
  refine seg_For ?_ hs
  rw [gc.over]
  obtain ⟨as, ps, ep, fa, I, cs⟩ := hI
  refine wpAny_mono (hi.run _ s σ H _ I ht) (fun v s1 h1 => ?_) fun x s' hx => k.exc n s₀ x s' hx
  refine wpAny_mono h1 (fun itv s2 h2 => ?_) fun x s' hx => k.exc n s₀ x s' hx
  obtain ⟨it, fp, tn, J0, H2, e, I2, T, st2, f2, W, ⟨m0, w0⟩, turn⟩ := h2
  subst e
  intro p
  let fr : Frame := .ret (fun r => ((match r with | .ok f => (.pure f : Sem Flow) | .error e => .raise e).onRaise (cameBack X.env)).wrap K J gd lv) none (gd false) (lv []) c p []
  have gl : PlaceC X Cs A (.forLoop tg (.ref it) body [] X.env) (fr :: fs) id := placeC_loop gc rfl rfl
  have loop : ∀ (m i n : Nat) (ys : List V) (s₀ s : Shared) (σ : L2.St) (H : Hp), n + ys.length = sizeLine → W i m ys σ H → (∃ (as : List Addr) (ps : List (Addr × Obj)), ps.map (·.1) = as ∧ (∀ b ∈ as, FarC X ip b ∧ b ∉ fp) ∧ Inv X (ps ++ ip) σ H s ∧ Cs as ys s.heap) → tn i s.heap → (∀ b ∈ fp, H b = none) →
      Seg (model X.prog X.w) A R (ProtC X Cs) n s₀ (.forLoop tg (.ref it) body [] X.env) ((model X.prog X.w).den (.forLoop tg (.ref it) body [] X.env)) (fr :: fs) s := by
    intro m
    induction m using Nat.strongRecOn with
    | ind m ih =>
      intro i n ys s₀ s σ H hn w hI st free
      have ee : ∀ (n : Nat) (s₀ : Shared) (x : Value) (s' : Shared), X.xe x s' → Seg (model X.prog X.w) A R (ProtC X Cs) n s₀ (.forLoop tg (.ref it) body [] X.env) (noted X.env x) (fr :: fs) s' := fun n s₀ x s' hx => by
        unfold noted
        refine seg_wrap ?_
        rw [gl.over]
        refine wpAny_bind (wpAny_mono (hp x s' hx) (fun _ s'' hcb => wpAny_theTreesLotGoes ?_) fun y s'' hcb => ?_)
        · exact seg_leaf (.error x) (seg_backC gc k hcb)
        · exact seg_leaf (.error y) (seg_backC gc k hcb)
      refine seg_forLoop ?_
      rw [gl.over]
      obtain ⟨as1, ps1, ep1, fa1, I1, cs1⟩ := hI
      have stat : ∀ {H' : Hp}, (∀ b ∈ fp, H' b = none) → ∀ b ∈ fp, FpOk X (ps1 ++ ip) H' b := fun {H'} hn b hb => by
        obtain ⟨f0, fa, fb, fc, fd, fe⟩ := f2 b hb
        refine ⟨hn b hb, fa, fb, fc, fd, fun p hp => ?_⟩
        rcases List.mem_append.mp hp with hp | hp
        · exact fe p (List.mem_append_left _ hp)
        · rcases List.mem_append.mp hp with hp | hp
          · exact fun z => (fa1 p.1 (by rw [← ep1]; exact List.mem_map.mpr ⟨p, hp, rfl⟩)).2 (by rw [z]; exact hb)
          · exact fe p (List.mem_append_right _ (List.mem_append_right _ hp))
      rcases turn i m ys σ H w with ⟨stop, qn⟩ | ⟨go, N, hN, step⟩
      · refine wpAny_mono (T.done X rfl rfl rfl hc i _ s σ H X.xe I1 (stat free) st stop) (fun rr s4 h4 => ?_) fun x s' hx => ee n s₀ x s' hx
        obtain ⟨hr, I4⟩ := h4
        subst hr
        show Seg _ A R _ n s₀ _ ((execs [] X.env).onRaise _ >>= fun f => pure (Fin.done f)) _ s4
        exact seg_leaf (.ok .next) (k.ok n ys s₀ s4 .next hn ⟨σ, H, Awake.ran gc.co ep1 (fun b hb => (fa1 b hb).1) I1 cs1 I4, qn⟩)
      · refine wpAny_mono (T.item X rfl rfl rfl hc i _ s σ H X.xe I1 (stat free) st go) (fun rr s4 h4 => ?_) fun x s' hx => ee n s₀ x s' hx
        obtain ⟨u, hr, h4⟩ := h4
        subst hr
        refine wpAny_mono h4 (fun _ s5 h5 => ?_) fun x s' hx => ee n s₀ x s' hx
        obtain ⟨x, H5, I5, r5, y5, st5, fr5⟩ := h5
        have I5' : Inv X (ps1 ++ (ip ++ pinsAt fp s5.heap)) σ H5 s5 := by
          rw [← List.append_assoc]
          exact I5.pinned (stat fr5) (T.obj _ _ st5)
        refine wpAny_mono (hg.run _ s5 σ H5 x u _ I5' r5 (step x H5 y5)) (fun _ s6 h6 => ?_) fun x s' hx => ee n s₀ x s' hx
        obtain ⟨σ6, H6, I6, q6⟩ := h6
        have far2 : ∀ b ∈ as1, FarC X (ip ++ pinsAt fp s5.heap) b := fun b hb => by
          obtain ⟨⟨g1, g2, g3, g4⟩, g5⟩ := fa1 b hb
          refine ⟨g1, g2, g3, fun p hp => ?_⟩
          rcases List.mem_append.mp hp with hp | hp
          · exact g4 p (List.mem_append_left _ hp)
          · rcases List.mem_append.mp hp with hp | hp
            · exact g4 p (List.mem_append_right _ hp)
            · exact fun z => g5 (by rw [← z]; exact (of_pinsAt hp).1)
        have G6 : Awake X Cs (ip ++ pinsAt fp s5.heap) ys σ6 H6 s6 := by
          have c5 : Cs as1 ys s5.heap := kept_cs gc.co ep1 I1 cs1 I5
          exact Awake.ran gc.co ep1 far2 I5' c5 I6
        have out : ∀ {ys' : List V} {σ7 : L2.St} {H7 : Hp} {s7 : Shared}, Awake X Cs (ip ++ pinsAt fp s5.heap) ys' σ7 H7 s7 → ∃ (as : List Addr) (ps : List (Addr × Obj)), ps.map (·.1) = as ∧ (∀ b ∈ as, FarC X ip b ∧ b ∉ fp) ∧ Inv X (ps ++ ip) σ7 H7 s7 ∧ Cs as ys' s7.heap := fun {ys' σ7 H7 s7} h => by
          obtain ⟨as7, ps7, e7, f7, I7, c7⟩ := h
          refine ⟨as7, ps7, e7, fun b hb => ?_, Inv.unpinned (pins := ps7 ++ ip) (pl := pinsAt fp s5.heap) (by rw [List.append_assoc]; exact I7), c7⟩
          obtain ⟨g1, g2, g3, g4⟩ := f7 b hb
          refine ⟨⟨g1, g2, g3, fun p hp => ?_⟩, fun z => ?_⟩
          · rcases List.mem_append.mp hp with hp | hp
            · exact g4 p (List.mem_append_left _ hp)
            · exact g4 p (List.mem_append_right _ (List.mem_append_left _ hp))
          · obtain ⟨o, eo, _⟩ := T.obj _ _ st5 b z
            exact g4 (b, o) (List.mem_append_right _ (List.mem_append_right _ (mem_pinsAt z eo))) rfl
        have out' : ∀ {ys' : List V} {σ7 : L2.St} {H7 : Hp} {s7 : Shared}, Awake X Cs (ip ++ pinsAt fp s5.heap) ys' σ7 H7 s7 → Awake X Cs ip ys' σ7 H7 s7 := fun {ys' σ7 H7 s7} h => by
          obtain ⟨as7, ps7, e7, f7, I7, c7⟩ := out h
          exact ⟨as7, ps7, e7, fun b hb => (f7 b hb).1, I7, c7⟩
        refine hb.run A Cs _ R n ys s₀ _ _ _ _ id id s6 σ6 H6 { D with nx := N, ct := N, bk := D.nx } gl hn ⟨fun n' ys' s₀' s7 f hn' hq => ?_, fun n' s₀' x s7 hx => ee n' s₀' x s7 hx⟩ G6 q6
        have again : ∀ {σ7 : L2.St} {H7 : Hp}, Awake X Cs (ip ++ pinsAt fp s5.heap) ys' σ7 H7 s7 → N ys' σ7 H7 → Seg (model X.prog X.w) A R (ProtC X Cs) n' s₀' (.forLoop tg (.ref it) body [] X.env) (.pure (.again (.forLoop tg (.ref it) body [] X.env))) (fr :: fs) s7 := fun {σ7 H7} I7 n7 => by
          obtain ⟨m', hm, w7⟩ := hN ys' σ7 H7 n7
          obtain ⟨as7, ps7, e7, f7, J7, c7⟩ := id I7
          have pinned : ∀ b ∈ fp, ∀ o, s5.heap.get? b = some o → s7.heap.get? b = some o ∧ H7 b = none := fun b hb o e => by
            have := J7.pin (b, o) (List.mem_append_right _ (List.mem_append_right _ (List.mem_append_right _ (mem_pinsAt hb e))))
            exact ⟨this.1, this.2.1⟩
          refine seg_again rfl (ih m' hm (i + 1) n' ys' s₀' s7 σ7 H7 hn' w7 (out I7) (T.keep _ _ _ st5 fun b hb o e => (pinned b hb o e).1) fun b hb => ?_)
          obtain ⟨o, e, _⟩ := T.obj _ _ st5 b hb
          exact (pinned b hb o e).2
        cases f with
        | next => obtain ⟨σ7, H7, I7, n7⟩ := hq; exact again I7 n7
        | cont => obtain ⟨σ7, H7, I7, n7⟩ := hq; exact again I7 n7
        | brk => obtain ⟨σ7, H7, I7, q7⟩ := hq; exact seg_leaf (.ok .next) (k.ok n' ys' s₀' s7 .next hn' ⟨σ7, H7, out' I7, q7⟩)
        | ret v => obtain ⟨x7, σ7, H7, I7, r7, q7⟩ := hq; exact seg_leaf (.ok (.ret v)) (k.ok n' ys' s₀' s7 (.ret v) hn' ⟨x7, σ7, H7, out' I7, r7, q7⟩)
  exact loop m0 0 n ys s₀ s2 σ H2 hn w0 ⟨as, ps, ep, fun b hb => ⟨fa b hb, fun z => by
    rw [← ep] at hb
    obtain ⟨q, hq, eq⟩ := List.mem_map.mp hb
    exact (f2 b z).2.2.2.2.2 q (List.mem_append_right _ (List.mem_append_left _ hq)) eq⟩, I2, kept_cs gc.co ep I cs I2⟩ st2 fun b hb => (f2 b hb).1
end
end Rw
namespace Rw
open PySem PySem.Spec PyProof.Rows L2 GenW
/-! ### what a call of a generator def gives, for a consumer with objects of its own -/
def DoneC (P : Program) (w : World) (outer : List Env) (H : Hp) (s : Shared) (Cs : CsT) (a : Addr) (g : Nat) (Q : List V → Hp → Prop) (E : XK) : GenEnd := fun n s₀ r s1 =>
  ((r = .ok (.ret .none) ∨ r = .ok .next) ∧ ∃ H' ys as, s1.os = s.os ∧ AllBare s1.gens ∧ Un (frs outer) [] H H' s.heap s1.heap ∧ HOk P w H' s1.heap ∧ (∀ b ∈ as, H' b = none) ∧ Cs as ys s1.heap ∧ ys.length ≤ sizeLine ∧ Q ys H') ∨
  ∃ e, r = .error e ∧ CX P w outer H s E e s1 ∧ s1.heap.IsGen a g
def ItemC (P : Program) (w : World) (outer : List Env) (H : Hp) (s : Shared) (Cs : CsT) (a : Addr) (g : Nat) : Protocol := fun n s₀ v s1 kap =>
  s1.os = s.os ∧ AllBare s1.gens ∧ s1.heap.NoLimit ∧ s1.heap.IsGen a g ∧ ∃ ys x as H1, RelV x v ∧ n + 1 + ys.length = sizeLine ∧ Un (frs outer) [] H H1 s.heap s1.heap ∧ HOk P w H1 s1.heap ∧ (∀ b ∈ as, H1 b = none) ∧ Cs as ys s1.heap ∧
    ∀ as' s', Asleep as as' s1 s' → Cs as' (ys ++ [x]) s'.heap → kap (.send .none) s'
/-- a generator that has not begun -/
def MadeC (P : Program) (w : World) (k : Nat) (outer : List Env) (H : Hp) (s : Shared) (Q : List V → Hp → Prop) (E : XK) (u : Value) (s' : Shared) : Prop :=
  ∃ (a : Addr) (g : Nat) (c : Code), u = .ref a ∧ s.heap.objs.size ≤ a ∧ a < s'.heap.objs.size ∧ s'.heap.IsGen a g ∧ s'.gens[g]? = some (.fresh c) ∧ s'.os = s.os ∧ AllBare s'.gens ∧ s'.heap.NoLimit ∧ (∀ b o, s.heap.get? b = some o → s'.heap.get? b = some o) ∧
    ∀ (Cs : CsT) (A : Around) (as : List Addr) (s2 : Shared), Holds Cs → Room k A → A.frames = some outer → (∀ b ∈ as, s'.heap.objs.size ≤ b ∧ ∃ o, s2.heap.get? b = some o ∧ ∀ v, o.data ≠ .cell v) → (∀ b o, s'.heap.get? b = some o → s2.heap.get? b = some o) → s2.os = s.os → AllBare s2.gens → Cs as [] s2.heap →
      Seg (model P w) A (DoneC P w outer H s Cs a g Q E) (ItemC P w outer H s Cs a g) sizeLine s2 c ((model P w).den c) [] s2
structure CFn (P : Program) (w : World) (K : PySem.W.Frag) (mg : Str → Option Value) (base : Heap) (k : Nat) (f : Addr) (fd : FuncData) (ps : List Str) (sp : SpG) : Prop where
  len : ∀ vs H Q E, sp vs H Q E → vs.length = ps.length
  run : ∀ (A : Around) (outer : List Env) (s : Shared) (H : Hp) (args : Args) (us : List Value) (vs : List V) (Q : List V → Hp → Prop) (E : XK), Room k A → Env0 P w K mg base A outer s H → BindsTo s fd args (ps.zip us) → Vals vs us → sp vs H Q E →
    codeAny (model P w) A (.call (.ref f) args) (fun r s' => match r with | .ok (.ret u) => MadeC P w k outer H s Q E u s' | _ => False) s
/-- a generator def, by its body -/
theorem cfn_of {P : Program} {w : World} {K : PySem.W.Frag} {mg : Str → Option Value} {base : Heap} {k : Nat} {f : Addr} {name qual : Str} {params : Arguments} {body : List Stmt} {scope : Scope} {dV kV doc pm cdv ct oc : Value} {an od : Option Addr}
    {osl : Array (Option Value)} {N ps : List Str} {sp : SpG} (lk : K.lookup f = some ⟨oc, od, .func (PySem.W.fnOf name qual params body scope dV kV doc pm an cdv ct), osl⟩) (hcd : PySem.W.codeIn K cdv qual = true) (S : GScope N ps scope)
    (len : ∀ vs H Q E, sp vs H Q E → vs.length = ps.length)
    (hbody : ∀ (A : Around) (outer : List Env) (s : Shared) (H : Hp) (vs : List V) (Q : List V → Hp → Prop) (E : XK) (pn : List (Addr × Obj)), Room k (A.deeper (envOfC qual scope s.heap.objs.size f cdv)) → sp vs H Q E →
      ∃ t, CSs (gcxOf P w K mg base N qual scope f cdv A outer s H E pn) body t ∧ t { nx := fun ys _ H' => Q ys H', rt := fun ys v H' => v = .non ∧ Q ys H' } [] (start N vs) H) :
    CFn P w K mg base (k + 1) f (PySem.W.fnOf name qual params body scope dV kV doc pm an cdv ct) ps sp := by
  refine ⟨len, fun A outer s H args us vs Q E hr e0 hb r hsp => ?_⟩
  have KX : K.In s.heap := e0.mod.kin.keeps fun b o e => (e0.bs b o e).1
  refine codeAny_call_generator hr.depth (KX _ _ lk) rfl S.co S.gen rfl (PySem.W.codeRec_of KX hcd) (hb _ _ _ _ ?_)
  have kinds : ∀ y ∈ ps.zip us, scope.names.lookup y.1 = some .local ∨ (scope.names.lookup y.1 = some .cell ∧ ((cellsFrom (s.heap.objs.size + 1) scope.names []).lookup y.1).isSome = true) := fun y hy => by
    rcases S.par y.1 (List.of_mem_zip (show (y.1, y.2) ∈ ps.zip us from hy)).1 with q | q
    · exact .inl q
    · exact .inr ⟨q, PySem.W.cellsFrom_some _ _ _ (.inl q)⟩
  refine wpAny_newFunctionEnv_cells S.kind kinds fun env he s1 x => ?_
  subst he
  have lim1 : s1.heap.NoLimit := (e0.mod.nolimit.keeps fun b o e => (e0.bs b o e).1).keeps x.toInCall.keep
  refine ⟨lim1, ?_⟩
  obtain ⟨h1, tk, es1, hk1⟩ := x.done
  have os1 : s1.os = s.os := by rw [es1]
  have gen1 : s1.gens = s.gens := by rw [es1]
  have lt1 : s.heap.objs.size < s1.heap.objs.size := x.toInCall.ns.lt
  have kp1 : ∀ b o, s.heap.get? b = some o → s1.heap.get? b = some o := x.toInCall.keep
  have main : ∀ (go : Obj) (nm qn : Value) (tk2 : Nat), go.cls = .type "generator" → go.data = .fields #[.int s1.gens.size 0, nm, qn] → go.slots = #[] → (∀ h : Heap, (h.push go).get? h.objs.size = some go) →
      MadeC P w (k + 1) outer H s Q E (.ref s1.heap.objs.size) { s1 with gens := s1.gens.push (.fresh (.func body (envOfC qual scope s.heap.objs.size f cdv))), toks := tk2, heap := s1.heap.push go } := by
    intro go nm qn tk2 gc gd gs gp
    have isg : ∀ h : Heap, h.get? s1.heap.objs.size = some go → h.IsGen s1.heap.objs.size s1.gens.size := fun h e => ⟨go, nm, qn, e, gc, gd, gs⟩
    refine ⟨s1.heap.objs.size, s1.gens.size, _, rfl, Nat.le_of_lt lt1, ?_, isg _ (gp _), Array.getElem?_push_size .., os1, ?_, lim1.keeps fun b o e => Heap.get?_push_of_some _ e, fun b o e => Heap.get?_push_of_some _ (kp1 b o e), ?_⟩
    · show _ < (s1.heap.push _).objs.size
      rw [Heap.size_push]
      exact Nat.lt_succ_self _
    · exact AllBare.push (by rw [gen1]; exact e0.bare) rfl
    intro Cs Aw as s2 hC hrw hfr hAs hk2 hos hba hcs
    let E1 : Env := envOfC qual scope s.heap.objs.size f cdv
    let X0 := gcxOf P w K mg base N qual scope f cdv Aw outer s H E []
    let X1 := gcxOf P w K mg base N qual scope f cdv Aw outer s H E [(s1.heap.objs.size, go)]
    obtain ⟨t, ht, hq⟩ := hbody Aw outer s H vs Q E [(s1.heap.objs.size, go)] (hrw.deeper _) hsp
    have I1 : Inv X0 [] (start N vs) H s1 := inv_startG S hrw.hd ⟨hfr, e0.mod, e0.bs, e0.bsz, e0.funs, e0.frf, e0.hok, e0.bare⟩ (len _ _ _ _ hsp) r x
    have kp2 : ∀ b o, s1.heap.get? b = some o → s2.heap.get? b = some o := fun b o e => hk2 b o (Heap.get?_push_of_some _ e)
    have I2 : Inv X0 [] (start N vs) H s2 := I1.call' (ch := []) (hos.trans os1.symm) (Un.kept kp2) (I1.hok.kept kp2) hba fun b z => by simp at z
    have young : ∀ b, s1.heap.objs.size ≤ b → H b = none ∧ b ≠ s.heap.objs.size ∧ b ∉ frs outer ∧ s.heap.objs.size ≤ b ∧ ∀ y c, (cellsFrom (s.heap.objs.size + 1) scope.names []).lookup y = some c → c ≠ b := fun b hb => by
      refine ⟨I1.hok.fresh hb, Nat.ne_of_gt (Nat.lt_of_lt_of_le lt1 hb), I1.nofs hb, Nat.le_trans (Nat.le_of_lt lt1) hb, fun y c e z => ?_⟩
      obtain ⟨v, ob, ho, _⟩ := I1.cell y c e
      have := Heap.lt_size ho
      rw [z] at this
      exact absurd (Nat.lt_of_lt_of_le this hb) (Nat.lt_irrefl _)
    have up : ∀ b ∈ as, s1.heap.objs.size < b := fun b hb => by
      have := (hAs b hb).1
      have e : (s1.heap.push go).objs.size ≤ b := this
      rw [Heap.size_push] at e
      exact e
    obtain ⟨ps0, eps, hps⟩ := objs_of (h := s2.heap) (as := as) fun b hb => (hAs b hb).2
    have ina : ∀ p ∈ ps0, p.1 ∈ as := fun p hp => by rw [← eps]; exact List.mem_map.mpr ⟨p, hp, rfl⟩
    have G0 : Awake X1 Cs [] [] (start N vs) H s2 := by
      refine ⟨as, ps0, eps, fun b hb => ?_, Inv.pinnedG I2 fun p hp => ?_, hcs⟩
      · obtain ⟨_, y2, _, y4, y5⟩ := young b (Nat.le_of_lt (up b hb))
        refine ⟨y4, y2, y5, fun p hp => ?_⟩
        have hp : p ∈ [(s1.heap.objs.size, go)] ++ [] := hp
        rw [List.append_nil] at hp
        rw [List.mem_singleton.mp hp]
        exact Nat.ne_of_lt (up b hb)
      · rcases List.mem_append.mp hp with z | z
        · rw [List.mem_singleton.mp z]
          obtain ⟨y1, y2, y3, _, _⟩ := young s1.heap.objs.size (Nat.le_refl _)
          exact ⟨hk2 s1.heap.objs.size go (gp _), y1, y2, y3, fun v q => by rw [gd] at q; cases q⟩
        · rw [List.append_nil] at z
          obtain ⟨y1, y2, y3, _, _⟩ := young p.1 (Nat.le_of_lt (up _ (ina p z)))
          exact ⟨(hps p z).1, y1, y2, y3, (hps p z).2⟩
    have seen : ∀ {ip : List (Addr × Obj)} {as' : List Addr} {ps' : List (Addr × Obj)} {σ' : L2.St} {H' : Hp} {s' : Shared}, ps'.map (·.1) = as' → Inv X1 (ps' ++ ip) σ' H' s' → s'.heap.IsGen s1.heap.objs.size s1.gens.size ∧ ∀ b ∈ as', H' b = none := fun {ip as' ps' σ' H' s'} e J =>
      ⟨isg _ (J.pin (s1.heap.objs.size, go) (List.mem_append_left _ (List.mem_singleton.mpr rfl))).1, fun b hb => (pins_at e J b hb).1⟩
    refine seg_func ?_
    refine seg_imp (R := EndC X1 Cs (fun ys v H' => v = .non ∧ Q ys H') fun e s' => CX P w outer H s E e s' ∧ ∀ p ∈ [(s1.heap.objs.size, go)], s'.heap.get? p.1 = some p.2) (Y := ProtC X1 Cs) (fun n s₀ r s1' hR => ?_) (fun n s₀ v s1' kap kap' hkk hY => ?_) sizeLine ?_
    · cases r with
      | error e =>
        obtain ⟨q1, q2⟩ := hR
        exact .inr ⟨e, rfl, q1, isg _ (q2 (s1.heap.objs.size, go) (List.mem_singleton.mpr rfl))⟩
      | ok fl =>
        cases fl with
        | next => exact False.elim hR
        | brk => exact False.elim hR
        | cont => exact False.elim hR
        | ret u =>
          obtain ⟨ys, v, ip, σ', H', hn, ⟨as', ps', e', _, J, c'⟩, rv, ev, hQ⟩ := hR
          subst ev
          have eu : u = Value.none := rv
          subst eu
          exact .inl ⟨.inl rfl, H', ys, as', J.os, J.bare, J.base, J.hok, (seen e' J).2, c', by omega, hQ⟩
    · obtain ⟨ys, xx, ip, σ', H', as', ps', hn, h2, e', _, J, c', h3⟩ := hY
      exact ⟨J.os, J.bare, J.nolimit, (seen e' J).1, ys, xx, as', H', h2, hn, J.base, J.hok, (seen e' J).2, c', fun as2 s' z zc => hkk _ _ (h3 as2 s' z zc)⟩
    · refine ht.run Aw Cs [] _ sizeLine [] s2 _ [] _ _ id id s2 (start N vs) H _ ⟨hC, over_func, rfl, rfl, rfl⟩ (Nat.add_zero _) ⟨fun n ys s₀ s' fl hn hs => ?_, fun n s₀ e s' hx => ?_⟩ G0 hq
      · cases fl with
        | next =>
          obtain ⟨σ', H', hI, hQ⟩ := hs
          exact seg_end (.ok (.ret .none)) ⟨ys, .non, [], σ', H', hn, hI, rfl, rfl, hQ⟩
        | brk => obtain ⟨_, _, _, q⟩ := hs; exact False.elim q
        | cont => obtain ⟨_, _, _, q⟩ := hs; exact False.elim q
        | ret u =>
          obtain ⟨v, σ', H', hI, rv, ev, hQ⟩ := hs
          exact seg_end (.ok (.ret u)) ⟨ys, v, [], σ', H', hn, hI, rv, ev, hQ⟩
      · refine seg_wrap ?_
        rw [over_func]
        refine wpAny_mono (show wpAny (model P w) (Aw.deeper E1) (leaving E1 e) (fun _ s'' => CX P w outer H s E e s'' ∧ ∀ p ∈ [(s1.heap.objs.size, go)], s''.heap.get? p.1 = some p.2) (fun _ _ => False) s' from hx) (fun _ s'' q => ?_) fun _ s'' q => q.elim
        exact seg_end (.error e) q
  exact main _ _ _ _ rfl rfl rfl fun h => Heap.get?_push_size _ rfl
end Rw
namespace Rw
open PySem PySem.Spec PyProof.Rows L2 GenW
/-! ### [x for x in g] -/
section
variable {X : Cx} {k : Nat} {f : Addr} {fd : FuncData} {ps : List Str} {sp : SpG} {dvs : List V} {ds : List Value} {x : Str} {p pos pos' : Pos}
structure PGenC (X : Cx) (k : Nat) (e : Expr) (tg : TGen) (E : XK) : Prop where
  run : ∀ (pins : List (Addr × Obj)) (s : Shared) (σ : L2.St) (H : Hp) (cont : List V → Hp → Prop), Inv X pins σ H s → tg σ H cont → wpAny (model X.prog X.w) X.A (eval e X.env)
    (fun u s' => ∃ H1 sc, Inv X pins σ H1 sc ∧ MadeC X.prog X.w k X.stack H1 sc cont E u s') X.xe s
theorem run_cfn {pins : List (Addr × Obj)} {σ : L2.St} {H : Hp} {s : Shared} {us : List Value} {vs : List V} {cont : List V → Hp → Prop} {E : XK} {E1 : Value → Shared → Prop} (F : CFn X.prog X.w X.K X.mg X.base k f fd ps sp) (hr : Room k X.A) (hb : Binds X.K fd ps ds) (hd : Vals dvs ds)
    (I : Inv X pins σ H s) (r : Vals vs us) (h : sp (vs ++ dvs) H cont E) :
    wpAny (model X.prog X.w) X.A (call (.ref f) us) (fun u s' => ∃ H1 sc, Inv X pins σ H1 sc ∧ MadeC X.prog X.w k X.stack H1 sc cont E u s') E1 s := by
  have r2 : Vals (vs ++ dvs) (us ++ ds) := r.append hd
  have hl2 : (us ++ ds).length = ps.length := by rw [← r2.length]; exact F.len _ _ _ _ h
  refine wpAny_call (codeAny_mono (F.run X.A X.stack s H ⟨us, []⟩ (us ++ ds) (vs ++ dvs) cont E hr I.env0 (hb s us I.kIn hl2) r2 h) fun r s' hq => ?_)
  cases r with
  | error e => exact hq.elim
  | ok fl =>
    cases fl with
    | ret u => exact ⟨H, s, I, hq⟩
    | next => exact hq.elim
    | brk => exact hq.elim
    | cont => exact hq.elim
theorem pgenC_call {E : XK} {e : Expr} {es : List Expr} {t : TA} (F : CFn X.prog X.w X.K X.mg X.base k f fd ps sp) (hr : Room k X.A) (hg : Gl X x) (hm : X.mg x = some (.ref f)) (hk : PySem.W.keepIn X.K (.ref f) = true) (hb : Binds X.K fd ps ds) (hd : Vals dvs ds)
    (ha : PA X (e :: es) t) (hdb : (x == ("__debug__" : Str)) = false := by decide) (he : starEach (e :: es) X.env = (false, eval e X.env) :: starEach es X.env := by rfl) (hpl : (backTo pos' (starEach es X.env)).any (·.1) = false := by rfl) :
    PGenC X k (.Call (.Name x p) (e :: es) [] pos') (tCallG sp dvs E t) E := by
  refine ⟨fun pins s σ H cont I h => wpAny_Call_Name_kw (ld_glob I hg hm ?_ hdb)⟩
  refine PySem.W.callWith_K (h₀ := X.base) I.ok.mod.kin hk (thn (ha.run pos' pins s σ H _ I h) fun us s1 ⟨vs, H1, I1, r, q⟩ => ⟨I1.kIn, ?_⟩) he hpl
  exact run_cfn F hr hb hd I1 r q
/-- the block's own objects: the list (D) and the names (C) -/
def CsLc (D C : Addr) : CsT := fun as ys h => as = [D, C] ∧ (∃ (acc : Array Value) (c : Nat), h.get? D = some (lstObj acc c) ∧ Vals ys acc.toList) ∧ ∃ m, h.Ns C m
theorem holds_lc (D C : Addr) : Holds (CsLc D C) := fun as ys h h' q ⟨e, ⟨acc, c, h1, h2⟩, m, hn⟩ => by
  subst e
  exact ⟨rfl, ⟨acc, c, q D List.mem_cons_self _ h1, h2⟩, m, hn.at' fun o eo => q C (List.mem_cons_of_mem _ List.mem_cons_self) o eo⟩
theorem ns_noncell {h : Heap} {C : Addr} {m : Str → Option Value} (hn : h.Ns C m) : ∃ o, h.get? C = some o ∧ ∀ v, o.data ≠ .cell v := by
  obtain ⟨o, es, ep, ho, hd, _⟩ := hn
  exact ⟨o, ho, fun v q => by rw [hd] at q; cases q⟩
theorem pe_lcI {e : Expr} {tg : TGen} {px px' : Pos} {scope : Scope} (h : PGenC X k e tg (fun _ _ _ => False)) (hc : X.calm = true) (hr : Room (k + 1) X.A) (hkind : scope.kind = .function) (hnm : scope.names = [((".0" : Str), .local), (x, .local)]) (hx0 : (x == (".0" : Str)) = false := by decide) (hdb : (x == ("__debug__" : Str)) = false := by decide)
    (hs : ∀ x, foldedSetIterable e X.env x = pure x := by intro _; rfl) : PE X (.ListComp (.Name x px') [⟨.Name x px, e, [], 0⟩] scope pos) (tListG tg) := by
  refine ⟨fun pins s σ H Q I hq => ?_⟩
  have hx : scope.names.lookup x = some .local := by rw [hnm, List.lookup_cons, hx0]; show List.lookup x [(x, NameKind.local)] = _; rw [List.lookup_cons, beq_self_eq_true]
  have hx1 : scope.names.lookup (".0" : Str) = some .local := by rw [hnm, List.lookup_cons, beq_self_eq_true]
  have hmem : ∀ y ∈ scope.names, y = ((".0" : Str), NameKind.local) ∨ y = (x, NameKind.local) := fun y hy => by rw [hnm] at hy; rcases List.mem_cons.mp hy with e | e; exact .inl e; exact .inr (List.mem_singleton.mp e)
  rw [eval_ListComp]
  refine wpAny_comprehension_free (use := none) (cl := cloFrom X.env.cells scope.names []) rfl hs (closure_ok fun y hy e => by rcases hmem y hy with q | q <;> rw [q] at e <;> exact nomatch e) hkind (fun y hy _ => by rcases hmem y hy with q | q <;> rw [q]; exact hx1; exact hx)
    (thn (h.run pins s σ H _ I hq) fun u s1 hu => ?_)
  obtain ⟨H1, sc, I1, a, g, c, rfl, ha1, ha2, hg, hgs, hos, hb, hl, hkp, wake⟩ := hu
  refine wpAny_pyIter_gen hg ?_
  refine wpAny_newObj_type (wpAny_newFunctionEnv (fun y hy q => by rcases hmem y hy with r | r <;> rw [r] at q <;> exact nomatch q) (by intro y hy; simp at hy) (fun h₁ hns₁ hsb₁ => ?_) hkind) (by show 0 ≤ sizeLine; decide)
  dsimp only at hns₁ hsb₁ ⊢
  generalize hD : s1.heap.objs.size = D at hns₁ hsb₁ ⊢
  generalize hH2 : s1.heap.push { cls := .type "list", dict := none, data := .seq ([] : List Value).toArray } = H2 at hns₁ hsb₁ ⊢
  generalize hC : H2.objs.size = C at hns₁ hsb₁ ⊢
  have eC : C = D + 1 := by rw [← hC, ← hH2, Heap.size_push, hD]
  have nDC : D ≠ C := by rw [eC]; exact Nat.ne_of_lt (Nat.lt_succ_self _)
  have old : ∀ b o, s1.heap.get? b = some o → h₁.get? b = some o := fun b o eo => by
    have lt := Heap.lt_size eo
    rw [hD] at lt
    refine hsb₁.extBut b o (by rw [eC]; exact Nat.ne_of_lt (Nat.lt_succ_of_lt lt)) (Heap.get?_push_of_some _ ?_)
    rw [← hH2]
    exact Heap.get?_push_of_some _ eo
  have hacc : h₁.get? D = some (lstObj #[] 0) := by
    refine hsb₁.extBut _ _ nDC (Heap.get?_push_of_some _ ?_)
    rw [← hH2, ← hD]
    exact Heap.get?_push_size _ rfl
  let ce : Env := compEnvC scope (cloFrom X.env.cells scope.names []) C X.env
  have hceL : ce.locals = C := rfl
  have post : ∀ (s' : Shared) (H' : Hp) (ys : List V) (acc : Array Value) (cc : Nat) (m : Str → Option Value), s'.os = sc.os → AllBare s'.gens → Un (frs X.stack) [] H1 H' sc.heap s'.heap → HOk X.prog X.w H' s'.heap → H' D = none → H' C = none → s'.heap.get? D = some (lstObj acc cc) → Vals ys acc.toList → ys.length ≤ sizeLine → s'.heap.Ns C m → (∀ p, H' p = none → Q (.ref p) (upd H' p (.lst ys))) →
      compPost (model X.prog X.w) X.A X.xe none (fun v s'' => ∃ y H'', Inv X pins σ H'' s'' ∧ RelV y v ∧ Q y H'') (.ref D) C (.ok .next) s' := fun s' H' ys acc cc m q1 q2 q3 q4 q5 q6 q7 q8 q9 q10 q11 => by
    have szD : sc.heap.objs.size ≤ D := by rw [← hD]; exact Nat.le_trans ha1 (Nat.le_of_lt ha2)
    have J := I1.drained szD q9 q7 q8 ExOk.nil q1 q2 q3 q4 q5
    have szC : sc.heap.objs.size ≤ C := by rw [eC]; exact Nat.le_succ_of_le szD
    obtain ⟨f0, f1, f2, f3, f4, f5⟩ := I1.fpOk (H' := upd H' D (.lst ys)) szC (by rw [upd_ne nDC.symm]; exact q6)
    exact ⟨m, q10, fun h'' sb => ⟨.ref D, upd H' D (.lst ys), J.turned (t' := s'.toks) (fun b o hb e => (sb.2 b hb).trans e) f0 f1 f3 f4 f5, rfl, q11 D q5⟩⟩
  have kl : ce.kindOf x = some .local := lookup_relabel_local hx
  have kk : ce.scope.kind = .function := hkind
  let s2 : Shared := { s1 with heap := h₁, toks := s1.toks + ([] : List (Str × Value)).length }
  have szs : s1.heap.objs.size ≤ D := Nat.le_of_eq hD
  have seg0 := wake (CsLc D C) X.A.in1 [D, C] (s2.setGen g .running) (holds_lc D C) hr.in1 I1.ok.frames (fun b hb => by
    rcases List.mem_cons.mp hb with rfl | hb
    · exact ⟨szs, _, hacc, fun v q => by cases q⟩
    · rw [List.mem_singleton.mp hb]
      exact ⟨by rw [eC]; exact Nat.le_succ_of_le szs, ns_noncell hns₁⟩) old hos (allBare_setGen (s := s2) hb rfl) ⟨rfl, ⟨#[], 0, hacc, .nil⟩, _, hns₁⟩
  have loop : codeAny (model X.prog X.w) X.A (.compLoop (.ListComp (.Name x px') [⟨.Name x px, e, [], 0⟩] scope pos) 0 (.ref a) (.ref D) ce) (compPost (model X.prog X.w) X.A X.xe none (fun v s'' => ∃ y H'', Inv X pins σ H'' s'' ∧ RelV y v ∧ Q y H'') (.ref D) C) s2 := by
    have goes : ∀ {gs : GenState} {B : Around} {n : Nat} {r : Resume} {s : Shared}, gs.Goes (model X.prog X.w) B (DoneC X.prog X.w X.stack H1 sc (CsLc D C) a g (fun out H2 => ∀ p, H2 p = none → Q (.ref p) (upd H2 p (.lst out))) fun _ _ _ => False) (ItemC X.prog X.w X.stack H1 sc (CsLc D C) a g) n r s →
        gs.Goes (model X.prog X.w) B (fun n s₀ r s1 => ((r = .ok (.ret .none) ∨ r = .ok .next) ∧ ∃ H' ys as, s1.os = sc.os ∧ AllBare s1.gens ∧ Un (frs X.stack) [] H1 H' sc.heap s1.heap ∧ HOk X.prog X.w H' s1.heap ∧ (∀ b ∈ as, H' b = none) ∧ CsLc D C as ys s1.heap ∧ ys.length ≤ sizeLine ∧ ∀ p, H' p = none → Q (.ref p) (upd H' p (.lst ys))) ∨
          ∃ e, r = .error e ∧ CX X.prog X.w X.stack H1 sc (fun _ _ _ => False) e s1 ∧ s1.heap.IsGen a g) (ItemC X.prog X.w X.stack H1 sc (CsLc D C) a g) n r s := fun h => h
    refine compLoop_any (fun n s3 => ∃ gs, s3.gens[g]? = some gs ∧ s3.heap.IsGen a g ∧ s3.heap.NoLimit ∧ gs.Goes (model X.prog X.w) X.A.in1 (DoneC X.prog X.w X.stack H1 sc (CsLc D C) a g (fun out H2 => ∀ p, H2 p = none → Q (.ref p) (upd H2 p (.lst out))) fun _ _ _ => False) (ItemC X.prog X.w X.stack H1 sc (CsLc D C) a g) n (.send .none) (s3.setGen g .running)) ?_ sizeLine
      ⟨.fresh c, hgs, hg.keeps old, hl.keeps old, rfl, seg0⟩
    rintro n s3 ⟨gs, hgs3, hg3, hl3, hgo⟩
    have hgl : g < s3.gens.size := (Array.getElem?_eq_some_iff.mp hgs3).1
    refine wpAny_gsz (n := g + 1) hgl (next_genG (A := X.A) hr.hd hl3 (by have := hr.dp; omega) hg3 hgs3 (goes hgo) (fun v s₁ gs' hbare hv => ?_) (fun s₁ hp h' hk => ?_) fun e s₁ he => ?_)
    · intro hsz
      obtain ⟨os1, hb1, hl1, hg1, ys, x0, as, Hy, rv, hn, un, hok, hnn, ⟨rfl, ⟨acc, cc, hD1, hv1⟩, m1, hC1⟩, hk⟩ := hv
      have gsz : g < s₁.gens.size := by
        have q : (s₁.setGen g gs').gens.size = s₁.gens.size := setGen_size _ _ _
        have := hsz
        omega
      refine wpAny_pure ?_
      refine wpAny_assign_Name (wpAny_storeName_local (m := m1) kl hC1 (fun h2 hn2 hs2 => ?_) (by rw [kk]; rfl))
      refine wpAny_tests_nil ?_
      rw [if_pos rfl]
      refine wpAny_Name (wpAny_loadName_local kk kl hn2 (if_pos rfl) ?_) hdb
      have hD2 : h2.get? D = some (lstObj acc cc) := hs2.extBut D _ nDC hD1
      have al := hv1.length
      refine append_at hD2 (fun h3 sb3 ho3 => ?_) ?_
      · have kept : ∀ b o, b ∉ [D, C] → s₁.heap.get? b = some o → h3.get? b = some o := fun b o hb eo => by
          have nbD : b ≠ D := fun z => hb (by rw [z]; exact List.mem_cons_self)
          have nbC : b ≠ C := fun z => hb (by rw [z]; exact List.mem_cons_of_mem _ List.mem_cons_self)
          exact (sb3.2 b nbD).trans (hs2.extBut b o nbC eo)
        have hn3 : h3.Ns C (fun y => if y = x then some v else m1 y) := hn2.at' fun o eo => (sb3.2 C nDC.symm).trans eo
        have hv3 : Vals (ys ++ [x0]) (acc.push v).toList := by
          rw [Array.toList_push]
          exact hv1.append (.cons rv .nil)
        let s5 : Shared := { s₁.setGen g gs' with heap := h3, toks := s₁.toks + 1 }
        have kap := hk [D, C] (s5.setGen g .running) ⟨rfl, allBare_setGen (s := s5) (allBare_setGen (s := s₁) hb1 hbare) rfl, kept, fun b hb => .inl hb, fun b hb => by
          rcases List.mem_cons.mp hb with rfl | hb
          · exact ⟨_, ho3, fun v q => by cases q⟩
          · rw [List.mem_singleton.mp hb]
            exact ns_noncell hn3⟩ ⟨rfl, ⟨_, _, ho3, hv3⟩, _, hn3⟩
        cases n with
        | zero => exact kap.elim
        | succ m =>
          refine ⟨m, Nat.lt_succ_self m, gs', setGen_at gsz, ?_, ?_, kap⟩
          · obtain ⟨o, nm, qn, ho, r⟩ := hg1
            refine ⟨o, nm, qn, kept a o (fun z => ?_) ho, r⟩
            rcases List.mem_cons.mp z with z | z
            · exact absurd z (Nat.ne_of_lt (Nat.lt_of_lt_of_le ha2 szs))
            · have z := List.mem_singleton.mp z
              rw [eC] at z
              exact absurd z (Nat.ne_of_lt (Nat.lt_succ_of_lt (Nat.lt_of_lt_of_le ha2 szs)))
          · obtain ⟨mc, hns, hnn'⟩ := hl1
            have lt0 : cStatics < D := by
              obtain ⟨_, h0, _⟩ := hl
              exact Nat.lt_of_lt_of_le h0.lt szs
            refine ⟨mc, hns.at' fun o e => kept _ o (fun z => ?_) e, hnn'⟩
            rcases List.mem_cons.mp z with z | z
            · exact absurd z (Nat.ne_of_lt lt0)
            · have z := List.mem_singleton.mp z
              rw [eC] at z
              exact absurd z (Nat.ne_of_lt (Nat.lt_succ_of_lt lt0))
      · have e0 : acc.toList.length = acc.size := by simp
        omega
    · intro hsz
      obtain ⟨H', ys, as, os1, hb1, un, hok, hnn, ⟨rfl, ⟨acc, cc, hD1, hv1⟩, m1, hC1⟩, hle, hQ⟩ := hp
      exact post _ H' ys acc cc m1 os1 (allBare_setGen hb1 rfl) (un.trans (Un.kept hk)) (hok.kept hk) (hnn D List.mem_cons_self) (hnn C (List.mem_cons_of_mem _ List.mem_cons_self)) (hk _ _ hD1) hv1 hle (hC1.at' fun o eo => hk _ o eo) hQ
    · obtain ⟨⟨_, _, _, _, _, _, _, _, _, _, _, _, z⟩, _⟩ := he
      exact z.elim
  exact codeAny_compStart_list loop (wpAny_pyIter_gen (hg.keeps old) loop)
end
end Rw
namespace Rw
open PySem PySem.Spec PyProof.Rows L2 GenW
/-! ### list(g) is one more consumer -/
def CsOne (S : Addr) : CsT := fun as ys h => as = [S] ∧ ∃ (acc : Array Value) (c : Nat), h.get? S = some (lstObj acc c) ∧ Vals ys acc.toList
theorem holds_one (S : Addr) : Holds (CsOne S) := fun as ys h h' q ⟨e, acc, c, h1, h2⟩ => by
  subst e
  exact ⟨rfl, acc, c, q S List.mem_cons_self _ h1, h2⟩
theorem gmade_of {P : Program} {w : World} {k : Nat} {outer : List Env} {H : Hp} {s : Shared} {Q : List V → Hp → Prop} {E : XK} {u : Value} {s' : Shared} (h : MadeC P w k outer H s Q E u s') : GMade P w k outer H s [] Q E u s' := by
  obtain ⟨a, g, c, eu, h1, h2, h3, h4, h5, h6, h7, h8, wake⟩ := h
  refine ⟨a, g, c, eu, h1, h2, h3, h4, h5, h6, h7, h8, fun A S s2 hr hf hS hk hS0 ho hb => ?_⟩
  obtain ⟨c0, e0⟩ := hS0
  refine seg_imp (fun n s₀ r s1 hR => ?_) (fun n s₀ v s1 kap kap' hkk hY => ?_) sizeLine (wake (CsOne S) A [S] s2 (holds_one S) hr hf (fun b hb => by
    rw [List.mem_singleton.mp hb]
    exact ⟨hS, _, e0, fun v q => by cases q⟩) hk ho hb ⟨rfl, _, _, e0, .nil⟩)
  · rcases hR with ⟨hr, H', ys, as, q1, q2, q3, q4, q5, ⟨rfl, acc, cc, e1, r1⟩, q6, q7⟩ | q
    · exact .inl ⟨hr, H', ys, acc, cc, q1, q2, q3, q4, q5 S List.mem_cons_self, e1, r1, q6, q7⟩
    · exact .inr q
  · obtain ⟨q1, q2, q3, q4, ys, x, as, Hy, rv, hn, _, _, _, ⟨rfl, acc, cc, e1, r1⟩, hkap⟩ := hY
    have al := r1.length
    have ae : acc.toList.length = acc.size := by simp
    refine ⟨q1, q2, q3, q4, ⟨acc, cc, e1, by omega⟩, fun s'' z => hkk _ _ (hkap [S] s'' ⟨z.os, z.bare, fun b o hb eo => z.keep b o (fun q => hb (by rw [q]; exact List.mem_cons_self)) eo, fun b hb => .inl hb, fun b hb => ?_⟩ ⟨rfl, ?_⟩)⟩
    · rw [List.mem_singleton.mp hb]
      obtain ⟨c', e'⟩ := z.own acc cc e1
      exact ⟨_, e', fun v q => by cases q⟩
    · obtain ⟨c', e'⟩ := z.own acc cc e1
      refine ⟨_, c', e', ?_⟩
      rw [Array.toList_push]
      exact r1.append (.cons rv .nil)
theorem gfn_c {P : Program} {w : World} {K : PySem.W.Frag} {mg : Str → Option Value} {base : Heap} {k : Nat} {f : Addr} {fd : FuncData} {ps : List Str} {sp : SpG} (F : CFn P w K mg base k f fd ps sp) : GFn P w K mg base k f fd ps sp := by
  refine ⟨F.len, fun A outer s H args us vs Q E hr e0 hb r h => codeAny_mono (F.run A outer s H args us vs Q E hr e0 hb r h) fun r s' hq => ?_⟩
  cases r with
  | error e => exact hq.elim
  | ok fl =>
    cases fl with
    | ret u => exact gmade_of hq
    | next => exact hq.elim
    | brk => exact hq.elim
    | cont => exact hq.elim
end Rw
namespace Rw
open PySem PySem.Spec PyProof.Rows L2
/-! ### a def without defaults, called by names; C() of a class whose __init__ takes *args -/
theorem kbn_fun {K : PySem.W.Frag} {x qual : Str} {st : Stmt} {f : Addr} {fd : FuncData} {ps : List Str} (F : Fun K x qual st f fd) (n : Nat) (ks : List Str) (g : List Value → List Value → List Value) (gV : List V → List V → List V)
    (h : ∀ (kV doc pm : Value) (an : Option Addr) (cdv ct : Value) (us ws : List Value), us.length = n → ws.length = ks.length → bindArgs (PySem.W.fnOf x qual (defArgs st) (defBody st) (defScope st) .none kV doc pm an cdv ct) { pos := us, kw := ks.zip ws } = pure (ps.zip (g us ws)))
    (rel : ∀ {vs : List V} {us : List Value} {zs : List V} {ws : List Value}, Vals vs us → Vals zs ws → Vals (gV vs zs) (g us ws)) : KBn K fd ps n ks g gV := by
  obtain ⟨oc, od, kV, doc, pm, an, cdv, ct, osl, rfl, lk, hcd⟩ := F.ex
  refine ⟨fun s us ws X l1 l2 => ?_, fun a b => rel a b⟩
  intro M A E Q q
  rw [h kV doc pm an cdv ct us ws l1 l2]
  exact wpAny_pure q
theorem pe_makeR0 {X : Cx} {CX : CXT} {k : Nat} {f C : Addr} {sp : Sp} {E : XK} {x : Str} {p pos : Pos} (M : Mk X.K C f) (F : FnR X.prog X.w X.K X.mg X.base CX k f sp) (hr : Room (k + 1) X.A) (hg : Gl X x) (hm : X.mg x = some (.ref C)) (hx : Passes CX X E)
    (hd : (x == ("__debug__" : Str)) = false := by rfl) : PE X (.Call (.Name x p) [] [] pos) (StX.tMakeR C sp E tNil) :=
  ⟨fun pins s σ H Q I h => wpAny_Call_Name_kw (ld_glob I hg hm (PySem.W.callWith_K0 I.kIn M.kp (StX.run_makeR M F hr hx I Paired.nil h)) hd)⟩
theorem passNo {P : Program} {w : World} {X : Cx} : Passes (L2.CX P w) X (fun _ _ _ => False) := fun pins σ H s e s' _ h => by
  obtain ⟨_, _, _, _, _, _, _, _, _, _, _, _, z⟩ := h
  exact z.elim
end Rw
namespace Rw
open PySem PySem.Spec PyProof.Rows L2
/-! ### the worlds of a program, walked -/
theorem scChosen : FnScope ["program", "names", "own"] ["program", "names"] (defScope sChosen) := ⟨rfl, rfl, rfl, by decide +kernel, rfl, by decide +kernel, by decide +kernel⟩
abbrev nWorlds : List Str := ["program", "names", "chosen", "bits", "rows", "world", "there"]
theorem scWorlds : GScope nWorlds ["program", "names"] (defScope sWorlds) := ⟨rfl, rfl, rfl, by decide +kernel, rfl, by decide +kernel, by decide +kernel⟩
section
variable {P : Program} {w : World} {K : PySem.W.Frag} {mg : Str → Option Value} {base : Heap} {f : Addr} {fd : FuncData} {k : Nat}
/-- the names whose worlds are wanted, rightly given -/
def spChosen (K : PySem.W.Frag) (C : Addr) : Sp := fun vs H Q _ => ∃ (v x : V) (S : List Rl) (bd : W), vs = [v, x] ∧ PgAt K C H v S ∧ (∀ r ∈ S, IsR r) ∧ (∀ z ∈ namesL S, z ∈ bd) ∧ bd.length ≤ 40 ∧
  ((x = .non ∧ ∀ H' t (ns : W), Same H H' → SqT K H' t (ns.map V.str) → IsW ns → (∀ z, z ∈ ns ↔ z ∈ namesL S) → Q (.ref t) H') ∨ ∃ ns : W, Dp K H x (wd ns) ∧ IsW ns ∧ (∀ z ∈ namesL S, z ∈ ns) ∧ ∀ H', Same H H' → Q x H')
theorem ok_chosen {C CP pN f1 f2 f3 f4 : Addr} {fd1 fd2 fd3 fd4 : FuncData} (F : Fun K "_chosen_names" "_chosen_names" sChosen f fd) (c : Cls K C) (hp : PropOf K C "names" pN f2)
    (G1 : FnOk P w K mg base (L2.CX P w) (k + 1) f1 fd1 ["thing"] (spCheckProgram K C CP)) (b1 : Binds K fd1 ["thing"] []) (k1 : PySem.W.keepIn K (.ref f1) = true) (m1 : mg "check_program" = some (.ref f1))
    (G2 : FnOk P w K mg base CX0 k f2 fd2 ["self"] (spNames K C)) (b2 : Binds K fd2 ["self"] [])
    (G3 : FnOk P w K mg base CX0 (k + 1) f3 fd3 ["thing"] (spIsWorld K)) (b3 : Binds K fd3 ["thing"] []) (k3 : PySem.W.keepIn K (.ref f3) = true) (m3 : mg "is_world" = some (.ref f3))
    (G4 : FnOk P w K mg base CX0 (k + 1) f4 fd4 ["names", "wanted"] (spHasAll K)) (b4 : Binds K fd4 ["names", "wanted"] []) (k4 : PySem.W.keepIn K (.ref f4) = true) (m4 : mg "has_all" = some (.ref f4)) :
    FnOk P w K mg base CX0 (k + 2) f fd ["program", "names"] (spChosen K C) := by
  refine F.ok scChosen (fun vs H Q E h => ?_) (fun cdv A outer s H vs Q E hr h => ?_)
  · obtain ⟨v, x, S, bd, rfl, _⟩ := h
    rfl
  obtain ⟨v, x, S, bd, rfl, hS, hI, hbd, lbd, h⟩ := h
  refine ⟨_, pss_cons (ps_expr (pe_call G1 hr (by rfl) m1 k1 b1 .nil passNo (pa_cons (pv 0) pa_nil)))
    (pss_cons (ps_set (i := 2) scChosen.nd rfl (.inl rfl) (pe_prop (pv 0) c hp G2 hr b2 .nil pass0 rfl))
    (pss_cons (ps_if (pt_cmpR op_isN (pv 1) pe_non (nomark _)) (pss_one (ps_ret (pv 2))) pss_nil)
    (pss_cons (ps_if (PW.pt (pw_or (pt_not (pt_val (pe_call G3 hr (by rfl) m3 k3 b3 .nil pass0 (pa_cons (pv 1) pa_nil)))) (pw_or1 (pt_not (pt_val (pe_call G4 hr (by rfl) m4 k4 b4 .nil pass0 (pa_cons (pv 1) (pa_cons (pv 2) pa_nil)))))))) pss_never pss_nil)
    (pss_one (ps_ret (pv 1)))))), ?_⟩
  obtain ⟨a, dx, t0, ys0, rfl, i1, i2, i3⟩ := id hS
  refine ⟨.ref a, rfl, .ref a, rfl, .inl ⟨S, hS, ?_⟩⟩
  refine ⟨.ref a, rfl, a, dx, _, rfl, i1, .ref a, S, bd, rfl, hS, hI, hbd, by omega, fun H1 t own s1 ht hown hmem => ?_⟩
  rcases h with ⟨rfl, q⟩ | ⟨ns, hx, hw, hsub, q⟩
  · exact ⟨.non, rfl, rfl, true, congrArg V.bl (decide_eq_true rfl), iteT ⟨.ref t, rfl, q H1 t own s1 ht hown hmem⟩⟩
  · have hx1 := dp_same s1 _ _ hx
    obtain ⟨b, rfl, hb⟩ := of_wd hx1
    refine ⟨.ref b, rfl, rfl, false, congrArg V.bl (decide_eq_false fun z => nomatch z), iteF ?_⟩
    refine ⟨.ref b, rfl, .ref b, wd ns, rfl, hx1, oddW_wd hw, fun H2 s2 => ⟨true, congrArg V.bl (worldD_wd hw), iteF ?_⟩⟩
    have e : sub own ns = true := by
      unfold sub
      rw [List.all_eq_true]
      intro z hz
      exact decide_eq_true (hsub z ((hmem z).mp hz))
    refine ⟨.ref b, rfl, .ref t, rfl, .ref b, .ref t, ns, own, rfl, .wd (dp_same s2 _ _ hx1), .wd (to_wd (same_tup s2 ht)), by have := hown.few; omega, fun H3 s3 => ⟨true, congrArg V.bl e, iteF ?_⟩⟩
    exact ⟨.ref b, rfl, q H3 (s1.trans (s2.trans s3))⟩
/-- the names, in one way -/
def spChosenM (K : PySem.W.Frag) (C : Addr) : Sp := fun vs H Q _ => ∃ (v x : V) (S : List Rl) (bd : W) (Nm : W → Prop), vs = [v, x] ∧ PgAt K C H v S ∧ (∀ r ∈ S, IsR r) ∧ (∀ z ∈ namesL S, z ∈ bd) ∧ bd.length ≤ 40 ∧
  ((x = .non ∧ ∀ ns : W, IsW ns → (∀ z, z ∈ ns ↔ z ∈ namesL S) → Nm ns) ∨ ∃ ns : W, Dp K H x (wd ns) ∧ IsW ns ∧ (∀ z ∈ namesL S, z ∈ ns) ∧ Nm ns) ∧
  ∀ H' t (ns : W), Same H H' → SqT K H' t (ns.map V.str) → IsW ns → (∀ z ∈ namesL S, z ∈ ns) → Nm ns → Q (.ref t) H'
theorem ok_chosenM {C : Addr} (G : FnOk P w K mg base CX0 k f fd ["program", "names"] (spChosen K C)) : FnOk P w K mg base CX0 k f fd ["program", "names"] (spChosenM K C) := G.imp fun vs H Q E h => by
  obtain ⟨v, x, S, bd, Nm, rfl, hS, hI, hbd, lbd, hx, q⟩ := h
  refine ⟨v, x, S, bd, rfl, hS, hI, hbd, lbd, ?_⟩
  rcases hx with ⟨rfl, hn⟩ | ⟨ns, hx, hw, hs, hn⟩
  · exact .inl ⟨rfl, fun H' t ns s ht hw hm => q H' t ns s ht hw (fun z hz => (hm z).mpr hz) (hn ns hw hm)⟩
  · obtain ⟨t, rfl, ht⟩ := of_wd hx
    exact .inr ⟨ns, hx, hw, hs, fun H' s => q H' t ns s (same_tup s ht) hw hs hn⟩
/-- worlds(program, names), all told: those in which the program agrees with itself -/
def okW (own : W) (S : List Rl) (t : W) : Bool := agreeI (S.map (numR own)) (num own t) (num own t)
def spWorlds (K : PySem.W.Frag) (C : Addr) : SpG := fun vs H Q _ => ∃ (v x : V) (S : List Rl) (bd : W), vs = [v, x] ∧ PgAt K C H v S ∧ (∀ r ∈ S, IsR r) ∧ S.length < 76 ∧ (∀ z ∈ namesL S, z ∈ bd) ∧ bd.length ≤ 10 ∧
  ((x = .non ∧ ∀ own, IsW own → (∀ z, z ∈ own ↔ z ∈ namesL S) → ∀ H' xs, Same H H' → TpAll H' xs ((everyW own).filter (okW own S)) → Q xs H') ∨
   ∃ ns, Dp K H x (wd ns) ∧ IsW ns ∧ ns.length ≤ 10 ∧ (∀ z ∈ namesL S, z ∈ ns) ∧ ∀ H' xs, Same H H' → TpAll H' xs ((everyW ns).filter (okW ns S)) → Q xs H')
theorem ok_worlds {C f1 f2 f3 f4 f5 f6 : Addr} {fd1 fd2 fd3 fd4 fd5 fd6 : FuncData} (F : FunD K "worlds" "worlds" (defArgs sWorlds) (defBody sWorlds) (defScope sWorlds) [.non] [] f fd)
    (G1 : FnOk P w K mg base CX0 k f1 fd1 ["program", "names"] (spChosenM K C)) (b1 : Binds K fd1 ["program", "names"] []) (k1 : PySem.W.keepIn K (.ref f1) = true) (m1 : mg "_chosen_names" = some (.ref f1))
    (G2 : FnOk P w K mg base CX0 k f2 fd2 ["names"] (spBitsOf K)) (b2 : Binds K fd2 ["names"] []) (k2 : PySem.W.keepIn K (.ref f2) = true) (m2 : mg "_bits_of" = some (.ref f2))
    (G3 : FnOk P w K mg base CX0 k f3 fd3 ["program", "bits"] (spNumbered K C)) (b3 : Binds K fd3 ["program", "bits"] []) (k3 : PySem.W.keepIn K (.ref f3) = true) (m3 : mg "_numbered" = some (.ref f3))
    (G4 : FnOk P w K mg base CX0 k f4 fd4 ["names"] (spEveryT K)) (b4 : Binds K fd4 ["names"] []) (k4 : PySem.W.keepIn K (.ref f4) = true) (m4 : mg "_every_world" = some (.ref f4))
    (G5 : FnOk P w K mg base CX0 k f5 fd5 ["world", "bits"] (spNumber K)) (b5 : Binds K fd5 ["world", "bits"] []) (k5 : PySem.W.keepIn K (.ref f5) = true) (m5 : mg "_number" = some (.ref f5))
    (G6 : FnOk P w K mg base CX0 k f6 fd6 ["rows", "here", "there"] (spAgree K)) (b6 : Binds K fd6 ["rows", "here", "there"] []) (k6 : PySem.W.keepIn K (.ref f6) = true) (m6 : mg "_agree" = some (.ref f6)) :
    CFn P w K mg base (k + 1) f fd ["program", "names"] (spWorlds K C) := by
  obtain ⟨oc, od, dV, kV, doc, pm, an, cdv, ct, osl, rfl, lk, hcd, _, _⟩ := F.ex
  refine cfn_of (N := nWorlds) lk hcd scWorlds (fun vs H Q E h => ?_) (fun A outer s H vs Q E pn hr h => ?_)
  · obtain ⟨v, x, S, bd, rfl, _⟩ := h
    rfl
  obtain ⟨v, x, S, bd, rfl, hS, hI, few, hbd, lbd, h⟩ := h
  refine ⟨_, css_cons (cs_ps (ps_set (i := 2) scWorlds.nd rfl (.inl rfl) (pe_call G1 hr (by rfl) m1 k1 b1 .nil pass0 (pa_cons (pv 0) (pa_cons (pv 1) pa_nil)))))
    (css_cons (cs_ps (ps_set (i := 3) scWorlds.nd rfl (.inl rfl) (pe_call G2 hr (by rfl) m2 k2 b2 .nil pass0 (pa_cons (pv 2) pa_nil))))
    (css_cons (cs_ps (ps_set (i := 4) scWorlds.nd rfl (.inl rfl) (pe_call G3 hr (by rfl) m3 k3 b3 .nil pass0 (pa_cons (pv 0) (pa_cons (pv 3) pa_nil)))))
    (css_cons (cs_for owns_gcx rfl (pi_list (pe_call G4 hr (by rfl) m4 k4 b4 .nil pass0 (pa_cons (pv 2) pa_nil))) (pg_name (i := 5) scWorlds.nd rfl (.inl rfl))
      (css_cons (cs_ps (ps_set (i := 6) scWorlds.nd rfl (.inl rfl) (pe_call G5 hr (by rfl) m5 k5 b5 .nil pass0 (pa_cons (pv 5) (pa_cons (pv 3) pa_nil)))))
      (css_cons (cs_if (pt_val (pe_call G6 hr (by rfl) m6 k6 b6 .nil pass0 (pa_cons (pv 4) (pa_cons (pv 6) (pa_cons (pv 6) pa_nil))))) (css_cons (cs_yield (pv 5)) css_nil) css_nil) css_nil)))
    css_nil))), ?_⟩
  obtain ⟨av, dx, t0, ys0, rfl, i1, i2, i3⟩ := id hS
  refine ⟨.ref av, rfl, x, rfl, ?_⟩
  dsimp only [tNil]
  refine ⟨.ref av, x, S, bd, (fun ns => ns.length ≤ 10 ∧ ∀ H' xs, Same H H' → TpAll H' xs ((everyW ns).filter (okW ns S)) → Q xs H'), rfl, hS, hI, hbd, by omega, ?_, fun H1 tx ns s1 htx hw hsub hns => ?_⟩
  · rcases h with ⟨e, q⟩ | ⟨ns, h1, h2, h3, h4, q⟩
    · exact .inl ⟨e, fun ns hw hm => ⟨Nat.le_trans (few_own hw hm hbd) lbd, q ns hw hm⟩⟩
    · exact .inr ⟨ns, h1, h2, h4, h3, q⟩
  obtain ⟨l10, q⟩ := hns
  have nd := upX_nodup hw.up
  refine ⟨.ref tx, rfl, ?_⟩
  dsimp only [tNil]
  refine ⟨tx, ns, rfl, htx, nd, by omega, fun H2 D s2 hDn hD => ?_⟩
  refine ⟨.ref av, rfl, .ref D, rfl, ?_⟩
  dsimp only [tNil]
  have s12 := s1.trans s2
  refine ⟨.ref av, D, S, ns, rfl, hS.same s12, hI, few, hD, nd, fun H3 l s3 hln hl => ?_⟩
  have s13 := s12.trans s3
  have hD3 := s3 _ _ hD
  refine ⟨.ref tx, rfl, ?_⟩
  dsimp only [tNil]
  refine ⟨tx, ns, rfl, same_tup (s2.trans s3) htx, l10, fun H4 lw s4 hlwn hlw => ?_⟩
  obtain ⟨ys4, hl4, hys4⟩ := id hlw
  have s14 := s13.trans s4
  have y4 : ys4.length = (everyW ns).length := hys4.len
  have el : (everyW ns).length ≤ 1024 := by
    rw [every_len]
    exact Nat.le_trans (Nat.pow_le_pow_right (by decide) l10) (by decide)
  refine ⟨lw, rfl, ⟨_, SqL.of hl4⟩, for_listG (xs := ys4) (fun i ys σ H5 => (∃ y5 y6, σ = [some (.ref av), some x, some (.ref tx), some (.ref D), some (.ref l), y5, y6]) ∧ Same H4 H5 ∧ TpAll H5 ys (((everyW ns).take i).filter (okW ns S))) ⟨⟨_, _, rfl⟩, fun _ _ e => e, .nil⟩ (fun i ys σ H5 _ hI5 => SqL.of (hI5.2.1 _ _ hl4)) (fun i u ys σ H5 hu hI5 => ?_) (fun ys σ H5 hI5 => ?_)⟩
  · obtain ⟨⟨y5, y6, rfl⟩, sm, hys⟩ := hI5
    obtain ⟨t, ht, hut⟩ := hys4.at' hu
    have hu5 : Dp K H5 u (wd t) := dp_same sm _ _ hut.wd
    have tsub := mem_every.mp (List.mem_of_getElem? ht)
    refine ⟨u, rfl, .ref D, rfl, ?_⟩
    dsimp only [tNil]
    refine ⟨u, D, t, ns, rfl, hu5, sm _ _ (s4 _ _ hD3), nd, nd.sublist tsub, by have := tsub.length_le; omega, fun H6 s6 => ?_⟩
    refine ⟨.ref l, rfl, .int (num ns t), rfl, .int (num ns t), rfl, ?_⟩
    dsimp only [tNil]
    refine ⟨l, num ns t, num ns t, S.map (numR ns), rfl, hl.same (s4.trans (sm.trans s6)), _, rfl, ?_⟩
    have ln : ys.length ≤ 1024 := by
      rw [hys.len]
      have := List.length_filter_le (okW ns S) ((everyW ns).take i)
      rw [List.length_take] at this
      omega
    have hys6 := TpAll.go (Tups.of s6) hys
    show if agreeI (S.map (numR ns)) (num ns t) (num ns t) = true then _ else _
    have et : ((everyW ns).take (i + 1)).filter (okW ns S) = ((everyW ns).take i).filter (okW ns S) ++ (if okW ns S t = true then [t] else []) := filt_take ht
    cases c : okW ns S t with
    | true =>
      rw [if_pos (show agreeI (S.map (numR ns)) (num ns t) (num ns t) = true from c)]
      refine ⟨Nat.lt_of_le_of_lt ln (by decide), u, rfl, ⟨_, _, rfl⟩, sm.trans s6, ?_⟩
      rw [et, c, if_pos rfl]
      obtain ⟨b, eb, hb⟩ := hut
      exact TpAll.app (.cons ⟨b, eb, (sm.trans s6) _ _ hb⟩ .nil) hys6
    | false =>
      rw [if_neg (by rw [show agreeI (S.map (numR ns)) (num ns t) (num ns t) = false from c]; decide)]
      refine ⟨⟨_, _, rfl⟩, sm.trans s6, ?_⟩
      rw [et, c, if_neg (by decide), List.append_nil]
      exact hys6
  · obtain ⟨⟨y5, y6, rfl⟩, sm, hys⟩ := hI5
    rw [y4, List.take_length] at hys
    exact q H5 ys (s14.trans sm) hys
end
end Rw
namespace Rw
open PySem PySem.Spec PyProof.Rows L2
/-! ### sets of worlds as numbers: the bit at i tells whether the world at i is in -/
def b01 (b : Bool) : Int := if b = true then 1 else 0
theorem b01_or (b : Bool) : b01 b = 0 ∨ b01 b = 1 := by cases b <;> simp [b01]
section
variable {α : Type}
def msk : List α → (α → Bool) → Int
  | [], _ => 0
  | w :: ws, p => b01 (p w) + 2 * msk ws p
theorem halvesA (c d : Bool) (x y : Int) : Builtin.bitAnd (b01 c + 2 * x) (b01 d + 2 * y) = b01 (c && d) + 2 * Builtin.bitAnd x y := by
  rw [PySem.W.kbt_halves]
  have hc := b01_or c
  have hd := b01_or d
  have e1 : (b01 c + 2 * x) / 2 = x := by omega
  have e2 : (b01 d + 2 * y) / 2 = y := by omega
  have e3 : (b01 c + 2 * x) % 2 = b01 c := by omega
  have e4 : (b01 d + 2 * y) % 2 = b01 d := by omega
  rw [e1, e2, e3, e4]
  cases c <;> cases d <;> simp [b01] <;> omega
theorem not_halves (c : Bool) (x : Int) : Builtin.bitNot (b01 c + 2 * x) = b01 (!c) + 2 * Builtin.bitNot x := by
  unfold Builtin.bitNot
  cases c <;> simp [b01] <;> omega
theorem halvesO (c d : Bool) (x y : Int) : Builtin.bitOr (b01 c + 2 * x) (b01 d + 2 * y) = b01 (c || d) + 2 * Builtin.bitOr x y := by
  unfold Builtin.bitOr
  rw [not_halves, not_halves, halvesA, not_halves]
  cases c <;> cases d <;> rfl
theorem msk_nn : ∀ (ws : List α) (p : α → Bool), 0 ≤ msk ws p
  | [], _ => Int.le_refl 0
  | w :: ws, p => by
    have h := msk_nn ws p
    have := b01_or (p w)
    unfold msk
    omega
theorem msk_and : ∀ (ws : List α) (p q : α → Bool), Builtin.bitAnd (msk ws p) (msk ws q) = msk ws fun w => p w && q w
  | [], _, _ => (by decide : Builtin.bitAnd 0 0 = 0)
  | w :: ws, p, q => by
    unfold msk
    rw [halvesA, msk_and ws p q]
theorem msk_diff : ∀ (ws : List α) (p q : α → Bool), Builtin.bitAnd (msk ws p) (Builtin.bitNot (msk ws q)) = msk ws fun w => p w && !q w
  | [], _, _ => (by decide : Builtin.bitAnd 0 (Builtin.bitNot 0) = 0)
  | w :: ws, p, q => by
    unfold msk
    rw [not_halves, halvesA, msk_diff ws p q]
theorem msk_or : ∀ (ws : List α) (p q : α → Bool), Builtin.bitOr (msk ws p) (msk ws q) = msk ws fun w => p w || q w
  | [], _, _ => (by decide : Builtin.bitOr 0 0 = 0)
  | w :: ws, p, q => by
    unfold msk
    rw [halvesO, msk_or ws p q]
theorem msk_all : ∀ ws : List α, (2 : Int) ^ ws.length - 1 = msk ws fun _ => true
  | [] => (by decide : (2 : Int) ^ 0 - 1 = 0)
  | w :: ws => by
    unfold msk
    rw [← msk_all ws, List.length_cons, Int.pow_succ]
    show (2 : Int) ^ ws.length * 2 - 1 = 1 + 2 * (2 ^ ws.length - 1)
    omega
theorem msk_none : ∀ ws : List α, msk ws (fun _ => false) = 0
  | [] => rfl
  | w :: ws => by
    unfold msk
    rw [msk_none ws]
    rfl
theorem msk_congr : ∀ {ws : List α} {p q : α → Bool}, (∀ w ∈ ws, p w = q w) → msk ws p = msk ws q
  | [], _, _, _ => rfl
  | w :: ws, p, q, h => by
    unfold msk
    rw [h w List.mem_cons_self, msk_congr fun x hx => h x (List.mem_cons_of_mem _ hx)]
theorem b01_inj {c d : Bool} (h : b01 c = b01 d) : c = d := by
  cases c <;> cases d <;> simp [b01] at h ⊢
theorem msk_eq : ∀ {ws : List α} {p q : α → Bool}, msk ws p = msk ws q ↔ ∀ w ∈ ws, p w = q w
  | [], _, _ => ⟨(fun _ _ z => nomatch z), fun _ => rfl⟩
  | w :: ws, p, q => by
    refine ⟨fun h => ?_, msk_congr⟩
    unfold msk at h
    have h1 := b01_or (p w)
    have h2 := b01_or (q w)
    have e1 : b01 (p w) = b01 (q w) := by omega
    have e2 : msk ws p = msk ws q := by omega
    intro x hx
    rcases List.mem_cons.mp hx with rfl | hx
    · exact b01_inj e1
    · exact msk_eq.mp e2 x hx
theorem msk_zero {ws : List α} {p : α → Bool} : msk ws p = 0 ↔ ∀ w ∈ ws, p w = false := by
  rw [← msk_none ws, msk_eq]
theorem msk_pos {ws : List α} {p : α → Bool} : 0 < msk ws p ↔ ∃ w ∈ ws, p w = true := by
  have nn := msk_nn ws p
  constructor
  · intro h
    refine Classical.byContradiction fun no => ?_
    have : msk ws p = 0 := msk_zero.mpr fun w hw => by
      cases e : p w with
      | false => rfl
      | true => exact absurd ⟨w, hw, e⟩ no
    omega
  · rintro ⟨w, hw, e⟩
    refine Classical.byContradiction fun no => ?_
    have z := msk_zero.mp (show msk ws p = 0 by omega) w hw
    rw [e] at z
    exact nomatch z
theorem msk_lt : ∀ (ws : List α) (p : α → Bool), msk ws p < 2 ^ ws.length
  | [], _ => (by decide : (0 : Int) < 1)
  | w :: ws, p => by
    have h := msk_lt ws p
    have := b01_or (p w)
    unfold msk
    rw [List.length_cons, Int.pow_succ]
    omega
/-- one world more -/
theorem msk_snoc : ∀ (ws : List α) (w : α) (p : α → Bool), msk (ws ++ [w]) p = msk ws p + (if p w = true then 2 ^ ws.length else 0)
  | [], w, p => by
    show b01 (p w) + 2 * 0 = 0 + _
    cases p w <;> simp [b01]
  | v :: ws, w, p => by
    rw [List.cons_append]
    unfold msk
    rw [msk_snoc ws w p, List.length_cons, Int.pow_succ]
    cases p w <;> simp <;> omega
theorem msk_orbit : ∀ (ws : List α) (p : α → Bool), Builtin.bitOr (msk ws p) (2 ^ ws.length) = msk ws p + 2 ^ ws.length
  | [], p => (by decide : Builtin.bitOr 0 1 = 0 + 1)
  | w :: ws, p => by
    have ih := msk_orbit ws p
    unfold msk
    rw [List.length_cons, Int.pow_succ]
    have e : (2 : Int) ^ ws.length * 2 = b01 false + 2 * 2 ^ ws.length := by simp [b01]; omega
    rw [e, halvesO, ih, Bool.or_false]
    simp [b01]
    omega
end
end Rw
namespace Rw
open PySem PySem.Spec PyProof.Rows L2
/-! ### _mark -/
theorem scMark : FnScope ["marks", "things", "bit", "thing"] ["marks", "things", "bit"] (defScope sMark) := ⟨rfl, rfl, rfl, by decide +kernel, rfl, by decide +kernel, by decide +kernel⟩
/-- a dict of numbers by names, by worlds -/
def MkS (H : Hp) (d : Addr) (n : Nat) (f : Str → Option Int) : Prop := ∃ kvs : List (Key × V), H d = some (.dK kvs) ∧ kvs.length ≤ n ∧ ∀ x : Str, valV kvs (.inr x) = (f x).map V.int
def MkT (H : Hp) (d : Addr) (n : Nat) (f : W → Option Int) : Prop := ∃ kvs : List (List Key × V), H d = some (.dT kvs) ∧ kvs.length ≤ n ∧ ∀ t : W, valV kvs (t.map Sum.inr) = (f t).map V.int
theorem keys_tup (t : W) : ((t.map Sum.inr : List Key).map kV) = t.map V.str := by
  rw [List.map_map]
  rfl
theorem inr_inj {a b : W} (h : (a.map Sum.inr : List Key) = b.map Sum.inr) : a = b := by
  have : Function.Injective (Sum.inr : Str → Key) := fun x y e => by injection e
  exact (List.map_inj_right fun x y e => this e).mp h
section
variable {P : Program} {w : World} {K : PySem.W.Frag} {mg : Str → Option Value} {base : Heap} {f : Addr} {fd : FuncData} {k : Nat}
def spMarkS (K : PySem.W.Frag) : Sp := fun vs H Q _ => ∃ (d a : Addr) (ns : W) (bit : Int) (n : Nat) (g : Str → Option Int), vs = [.ref d, .ref a, .int bit] ∧ MkS H d n g ∧ SqT K H a (ns.map V.str) ∧ ns.Nodup ∧ n + ns.length ≤ 1000 ∧
  ∀ H', (∀ b u, b ≠ d → H b = some u → H' b = some u) → MkS H' d (n + ns.length) (fun x => if x ∈ ns then some (Builtin.bitOr ((g x).getD 0) bit) else g x) → Q .non H'
theorem ok_markS (F : Fun K "_mark" "_mark" sMark f fd) : FnOk P w K mg base CX0 (k + 1) f fd ["marks", "things", "bit"] (spMarkS K) := by
  refine F.ok scMark (fun vs H Q E h => ?_) (fun cdv A outer s H vs Q E hr h => ?_)
  · obtain ⟨d, a, ns, bit, n, g, rfl, _⟩ := h
    rfl
  obtain ⟨d, a, ns, bit, n, g, rfl, hd, hT, nd, few, q⟩ := h
  have hu : (A.deeper (envOfC "_mark" (defScope sMark) s.heap.objs.size f cdv)).units + 1 < cLine := by have := hr.un; omega
  refine ⟨_, pss_one (ps_for PassesOwn.never rfl (pi_tup (pv 1)) (pg_name (i := 3) scMark.nd rfl (.inl rfl))
    (pss_one (ps_dput hu (pv 0) (pv 3) (pe_op op_or (pe_dget2 hu (pv 0) (pv 3) pe_int ⟨rfl, rfl, rfl, rfl⟩) (pv 2)) rfl))), ?_⟩
  let fi : Nat → Str → Option Int := fun i x => if x ∈ ns.take i then some (Builtin.bitOr ((g x).getD 0) bit) else g x
  have stay : ∀ H', (∀ b u, b ≠ d → H b = some u → H' b = some u) → SqT K H' a (ns.map V.str) := fun H' e => by
    obtain ⟨kvs, hk, _⟩ := hd
    have m : Mut (H d) := by rw [hk]; exact True.intro
    exact (Bar.stay (p := d) e m).seq hT
  refine ⟨.ref a, rfl, a, rfl, ⟨_, hT⟩, for_tup (xs := ns.map V.str) (fun i σ H1 => (∃ y3, σ = [some (.ref d), some (.ref a), some (.int bit), y3]) ∧ (∀ b u, b ≠ d → H b = some u → H1 b = some u) ∧ MkS H1 d (n + i) (fi i)) ⟨⟨_, rfl⟩, fun _ _ _ e => e, ?_⟩ (fun i σ H1 _ hI => stay _ hI.2.1) (fun i v σ H1 hv hI => ?_) (fun σ H1 hI => ?_)⟩
  · have e : fi 0 = g := by
      funext x
      show (if x ∈ ns.take 0 then _ else _) = _
      rw [if_neg (by simp)]
    rw [e]
    exact hd
  · obtain ⟨⟨y3, rfl⟩, keep, kvs, hk, hl, hv0⟩ := hI
    obtain ⟨z, hz, rfl⟩ := map_at hv
    have il : i < ns.length := (List.getElem?_eq_some_iff.mp hz).1
    have nz : z ∉ ns.take i := fun hm => by
      obtain ⟨j, hj, ej⟩ := List.mem_iff_getElem.mp hm
      rw [List.length_take] at hj
      rw [List.getElem_take] at ej
      have e3 : ns[j]? = some z := List.getElem?_eq_some_iff.mpr ⟨by omega, ej⟩
      have := nodup_ix nd e3 hz
      omega
    have vz : valV kvs (.inr z) = (g z).map V.int := by
      rw [hv0 z]
      show ((if z ∈ ns.take i then _ else _ : Option Int)).map _ = _
      rw [if_neg nz]
    refine ⟨.ref d, rfl, d, rfl, .inl ⟨kvs, .inl hk⟩, .str z, rfl, valV kvs (.inr z), DGet.k (k := .inr z) hk, ?_⟩
    have ev : (valV kvs (.inr z)).getD (V.int 0) = .int ((g z).getD 0) := by
      rw [vz]
      cases g z <;> rfl
    rw [ev]
    refine ⟨.int bit, rfl, (g z).getD 0, bit, rfl, rfl, .ref d, rfl, .str z, rfl, d, _, rfl, DPut.k (k := .inr z) hk (Nat.lt_of_le_of_lt (show kvs.length ≤ 1000 by omega) (by decide)), ⟨_, rfl⟩, fun b u nb e => ?_, _, upd_same, ?_, fun x => ?_⟩
    · rw [upd_ne nb]
      exact keep b u nb e
    · refine Nat.le_trans (length_putK _ _ _) ?_
      omega
    · have ef : fi (i + 1) x = if x ∈ ns.take i ++ [z] then some (Builtin.bitOr ((g x).getD 0) bit) else g x := by
        show (if x ∈ ns.take (i + 1) then _ else _) = _
        rw [take_snoc hz]
      rw [valV_put, ef]
      by_cases e : x = z
      · subst e
        rw [if_pos rfl, if_pos (by simp)]
        rfl
      · rw [if_neg (fun q => e (by injection q)), hv0 x]
        show ((if x ∈ ns.take i then _ else _ : Option Int)).map _ = _
        by_cases m : x ∈ ns.take i
        · rw [if_pos m, if_pos (by simp [m])]
        · rw [if_neg m, if_neg (by simp [m, e])]
  · obtain ⟨⟨y3, rfl⟩, keep, hM⟩ := hI
    rw [List.length_map] at hM
    have e : fi ns.length = fun x => if x ∈ ns then some (Builtin.bitOr ((g x).getD 0) bit) else g x := by
      funext x
      show (if x ∈ ns.take ns.length then _ else _) = _
      rw [List.take_length]
    rw [e] at hM
    exact q H1 keep hM
/-- one world marked -/
def spMarkT (K : PySem.W.Frag) : Sp := fun vs H Q _ => ∃ (d l : Addr) (y : V) (t : W) (bit : Int) (n : Nat) (g : W → Option Int), vs = [.ref d, .ref l, .int bit] ∧ MkT H d n g ∧ H l = some (.lst [y]) ∧ Tp H y t ∧ n + 1 ≤ 1000 ∧
  ∀ H', (∀ b u, b ≠ d → H b = some u → H' b = some u) → MkT H' d (n + 1) (fun x => if x = t then some (Builtin.bitOr ((g x).getD 0) bit) else g x) → Q .non H'
theorem ok_markT (F : Fun K "_mark" "_mark" sMark f fd) : FnOk P w K mg base CX0 (k + 1) f fd ["marks", "things", "bit"] (spMarkT K) := by
  refine F.ok scMark (fun vs H Q E h => ?_) (fun cdv A outer s H vs Q E hr h => ?_)
  · obtain ⟨d, l, y, t, bit, n, g, rfl, _⟩ := h
    rfl
  obtain ⟨d, l, y, t, bit, n, g, rfl, hd, hl, ⟨b, rfl, hb⟩, few, q⟩ := h
  have hu : (A.deeper (envOfC "_mark" (defScope sMark) s.heap.objs.size f cdv)).units + 1 < cLine := by have := hr.un; omega
  refine ⟨_, pss_one (ps_for PassesOwn.never rfl (pi_list (pv 1)) (pg_name (i := 3) scMark.nd rfl (.inl rfl))
    (pss_one (ps_dput hu (pv 0) (pv 3) (pe_op op_or (pe_dget2 hu (pv 0) (pv 3) pe_int ⟨rfl, rfl, rfl, rfl⟩) (pv 2)) rfl))), ?_⟩
  obtain ⟨kvs, hk, hlen, hv0⟩ := hd
  have nld : l ≠ d := fun z => by rw [z, hk] at hl; cases hl
  let H' : Hp := upd H d (.dT (putK kvs (t.map Sum.inr) (V.int (Builtin.bitOr ((g t).getD 0) bit))))
  have keep : ∀ b u, b ≠ d → H b = some u → H' b = some u := fun b u nb e => (upd_ne nb).trans e
  refine ⟨.ref l, rfl, l, rfl, ⟨_, SqL.of hl⟩, for_list (xs := [.ref b]) (fun i σ H1 => (∃ y3, σ = [some (.ref d), some (.ref l), some (.int bit), y3]) ∧ ((i = 0 ∧ H1 = H) ∨ (i = 1 ∧ H1 = H'))) ⟨⟨_, rfl⟩, .inl ⟨rfl, rfl⟩⟩ (fun i σ H1 _ hI => ?_) (fun i v σ H1 hv hI => ?_) (fun σ H1 hI => ?_)⟩
  · rcases hI.2 with ⟨_, rfl⟩ | ⟨_, rfl⟩
    · exact SqL.of hl
    · exact SqL.of (keep _ _ nld hl)
  · obtain ⟨⟨y3, rfl⟩, hc⟩ := hI
    have i0 : i = 0 := by
      have := (List.getElem?_eq_some_iff.mp hv).1
      rw [List.length_singleton] at this
      omega
    subst i0
    obtain rfl : v = .ref b := (Option.some.inj hv).symm
    have e1 : H1 = H := by
      rcases hc with ⟨_, e⟩ | ⟨e, _⟩
      · exact e
      · exact nomatch e
    subst e1
    have hb' : H1 b = some (.tup ((t.map Sum.inr : List Key).map kV)) := by rw [keys_tup]; exact hb
    refine ⟨.ref d, rfl, d, rfl, .inr ⟨kvs, .inl hk⟩, .ref b, rfl, valV kvs (t.map Sum.inr), DGet.t (k := t.map Sum.inr) hk hb', ?_⟩
    have ev : (valV kvs (t.map Sum.inr)).getD (V.int 0) = .int ((g t).getD 0) := by
      rw [hv0 t]
      cases g t <;> rfl
    rw [ev]
    exact ⟨.int bit, rfl, (g t).getD 0, bit, rfl, rfl, .ref d, rfl, .ref b, rfl, d, _, rfl, DPut.t (k := t.map Sum.inr) hk hb' (Nat.lt_of_le_of_lt (show kvs.length ≤ 1000 by omega) (by decide)), ⟨_, rfl⟩, .inr ⟨rfl, rfl⟩⟩
  · obtain ⟨⟨y3, rfl⟩, hc⟩ := hI
    have e1 : H1 = H' := by
      rcases hc with ⟨e, _⟩ | ⟨_, e⟩
      · exact nomatch e
      · exact e
    subst e1
    refine q H' keep ⟨_, upd_same, ?_, fun x => ?_⟩
    · refine Nat.le_trans (length_putK _ _ _) ?_
      omega
    · rw [valV_put]
      show _ = Option.map V.int (if x = t then some (Builtin.bitOr ((g x).getD 0) bit) else g x)
      by_cases e : x = t
      · subst e
        rw [if_pos rfl, if_pos rfl]
        rfl
      · rw [if_neg (fun q => e (inr_inj q)), if_neg e, hv0 x]
end
end Rw
namespace Rw
open PySem PySem.Spec PyProof.Rows L2
theorem for_enumL {K : PySem.W.Frag} {a : Addr} {xs : List V} {g : TG} {tb : TS} {D : Ends} {σ : L2.St} {H : Hp} (Pv : Nat → L2.St → Hp → Prop) (h0 : Pv 0 σ H) (hl : ∀ i σ H, i ≤ xs.length → Pv i σ H → SqL K H a xs)
    (hs : ∀ i x σ H T, xs[i]? = some x → Pv i σ H → H T = none → g (.ref T) σ (upd H T (.tup [.int (i : Int), x])) fun σ2 H2 => tb { nx := Pv (i + 1), rt := D.rt, bk := D.nx, ct := Pv (i + 1) } σ2 H2) (hd : ∀ σ H, Pv xs.length σ H → D.nx σ H) :
    ∃ W : Nat → Nat → L2.St → Hp → Prop, (∃ m, W 0 m σ H) ∧ ∀ i m σ H, W i m σ H → ((Ite K a).stop i H ∧ D.nx σ H) ∨ ((Ite K a).go i H ∧ ∃ N : L2.St → Hp → Prop, (∀ σ' H', N σ' H' → ∃ m', m' < m ∧ W (i + 1) m' σ' H') ∧
      ∀ x H', (Ite K a).yld i H x H' → g x σ H' fun σ2 H2 => tb { nx := N, rt := D.rt, bk := D.nx, ct := N } σ2 H2) := by
  refine ⟨fun i m σ H => m = xs.length - i ∧ i ≤ xs.length ∧ Pv i σ H, ⟨xs.length, by simp, Nat.zero_le _, h0⟩, ?_⟩
  rintro i m σ H ⟨rfl, hi, p⟩
  have hS := hl i σ H hi p
  by_cases hlt : i < xs.length
  · refine .inr ⟨⟨xs, xs[i], hS, List.getElem?_eq_getElem hlt⟩, Pv (i + 1), fun σ' H' p' => ⟨xs.length - (i + 1), by omega, rfl, hlt, p'⟩, fun y H' yy => ?_⟩
    obtain ⟨T, x, rfl, hT, rfl, hx⟩ := yy
    exact hs i x σ H T (hx xs hS) p hT
  · have e : i = xs.length := by omega
    subst e
    exact .inl ⟨⟨xs, hS, Nat.le_refl _⟩, hd σ H p⟩
/-! ### Table -/
theorem scTabInit : FnScope ["self", "chosen", "place", "here", "there", "bit"] ["self", "chosen"] (defScope sTabInit) := ⟨rfl, rfl, rfl, by decide +kernel, rfl, by decide +kernel, by decide +kernel⟩
/-- pairs that are tuples made here -/
def PrT (H : Hp) (v : V) (p : W × W) : Prop := ∃ c y z, v = .ref c ∧ H c = some (.tup [y, z]) ∧ Tp H y p.1 ∧ Tp H z p.2
def PrAll (H : Hp) (xs : List V) (R : List (W × W)) : Prop := xs.length = R.length ∧ ∀ (i : Nat) (v : V), xs[i]? = some v → ∃ p, R[i]? = some p ∧ PrT H v p
theorem PrT.go {H H' : Hp} (e : Tups H H') {v : V} {p : W × W} (h : PrT H v p) : PrT H' v p := by
  obtain ⟨c, y, z, r, h1, ⟨b1, r1, g1⟩, b2, r2, g2⟩ := h
  exact ⟨c, y, z, r, e _ _ h1, ⟨b1, r1, e _ _ g1⟩, b2, r2, e _ _ g2⟩
/-- a dict that tells a number by each name -/
def MkV (H : Hp) (d : Addr) (n : Nat) (v : Str → Int) : Prop := ∃ g, MkS H d n g ∧ ∀ x, (g x).getD 0 = v x
def TabAt (CT : Addr) (H : Hp) (v : V) (R : List (W × W)) : Prop := ∃ a dx d1 d2 fs, v = .ref a ∧ H a = some (.ins CT dx fs) ∧ fs.lookup ("every" : Str) = some (V.int (2 ^ R.length - 1)) ∧ fs.lookup ("_here" : Str) = some (V.ref d1) ∧ fs.lookup ("_there" : Str) = some (V.ref d2) ∧ (fs.lookup ("_unmet" : Str) = none ∧ fs.lookup ("against" : Str) = none) ∧
  MkV H d1 1000 (fun x => msk R fun p => decide (x ∈ p.1)) ∧ MkV H d2 1000 fun x => msk R fun p => decide (x ∈ p.2)
theorem putF_len (f : Str) (v : V) : ∀ fs : List (Str × V), (putF f v fs).length ≤ fs.length + 1
  | [] => Nat.le_refl _
  | (g, x) :: r => by
    unfold putF
    split
    · exact Nat.le_succ _
    · exact Nat.succ_le_succ (putF_len f v r)
/-- the table half made: its fields and its dicts -/
structure Tb (CT x dx : Addr) (H0 H : Hp) (fs : List (Str × V)) (ds : List Addr) : Prop where
  ins : H x = some (.ins CT dx fs)
  keep : ∀ b u, b ≠ x → H0 b = some u → H b = some u
  old : ∀ b ∈ ds, H0 b = none ∧ b ≠ x ∧ ∃ u, H b = some u
  nd : ds.Nodup
theorem Tb.put {CT x dx : Addr} {H0 H : Hp} {fs : List (Str × V)} {ds : List Addr} (h : Tb CT x dx H0 H fs ds) (hx : H0 x ≠ none) {d : Addr} (hd : H d = none) (o : HO) (f : Str) :
    (upd H d o) x = some (.ins CT dx fs) ∧ Tb CT x dx H0 (upd (upd H d o) x (.ins CT dx (putF f (.ref d) fs))) (putF f (.ref d) fs) (d :: ds) ∧ (upd (upd H d o) x (.ins CT dx (putF f (.ref d) fs))) d = some o ∧ ∀ b ∈ ds, (upd (upd H d o) x (.ins CT dx (putF f (.ref d) fs))) b = H b := by
  have nxd : x ≠ d := fun z => by rw [← z, h.ins] at hd; cases hd
  have e1 : (upd H d o) x = some (.ins CT dx fs) := (upd_ne nxd).trans h.ins
  have hd0 : H0 d = none := by
    cases e : H0 d with
    | none => rfl
    | some u =>
      rw [h.keep d u nxd.symm e] at hd
      cases hd
  have old : ∀ b ∈ ds, (upd (upd H d o) x (.ins CT dx (putF f (.ref d) fs))) b = H b := fun b hb => by
    obtain ⟨_, nb, u, hu⟩ := h.old b hb
    rw [upd_ne nb, upd_ne (fun z => by rw [z, hd] at hu; cases hu)]
  have at_ : (upd (upd H d o) x (.ins CT dx (putF f (.ref d) fs))) d = some o := by
    rw [upd_ne nxd.symm]
    exact upd_same
  refine ⟨e1, ⟨upd_same, fun b u nb e => ?_, fun b hb => ?_, List.nodup_cons.mpr ⟨fun hb => ?_, h.nd⟩⟩, at_, old⟩
  · have hb := h.keep b u nb e
    rw [upd_ne nb, upd_ne (fun z => by rw [z, hd] at hb; cases hb)]
    exact hb
  · rcases List.mem_cons.mp hb with rfl | hb
    · exact ⟨hd0, nxd.symm, _, at_⟩
    · obtain ⟨g1, g2, u, g3⟩ := h.old b hb
      exact ⟨g1, g2, u, (old b hb).trans g3⟩
  · obtain ⟨_, _, u, hu⟩ := h.old d hb
    rw [hd] at hu
    cases hu
theorem MkS.go {H H' : Hp} {d : Addr} {n : Nat} {g : Str → Option Int} (h : MkS H d n g) (e : ∀ u, H d = some u → H' d = some u) : MkS H' d n g := by
  obtain ⟨kvs, h1, h2⟩ := h
  exact ⟨kvs, e _ h1, h2⟩
theorem MkV.go {H H' : Hp} {d : Addr} {n : Nat} {v : Str → Int} (h : MkV H d n v) (e : ∀ u, H d = some u → H' d = some u) : MkV H' d n v := by
  obtain ⟨g, h1, h2⟩ := h
  exact ⟨g, h1.go e, h2⟩
theorem MkT.go {H H' : Hp} {d : Addr} {n : Nat} {g : W → Option Int} (h : MkT H d n g) (e : ∀ u, H d = some u → H' d = some u) : MkT H' d n g := by
  obtain ⟨kvs, h1, h2⟩ := h
  exact ⟨kvs, e _ h1, h2⟩
theorem MkV.le {H : Hp} {d : Addr} {n m : Nat} {v : Str → Int} (h : MkV H d n v) (l : n ≤ m) : MkV H d m v := by
  obtain ⟨g, ⟨kvs, h1, h2, h3⟩, h4⟩ := h
  exact ⟨g, ⟨kvs, h1, Nat.le_trans h2 l, h3⟩, h4⟩
/-- one pair more is marked -/
theorem mark_more {R : List (W × W)} {i : Nat} {p : W × W} (hp : R[i]? = some p) (sel : W × W → W) {g : Str → Option Int} (hg : ∀ x, (g x).getD 0 = msk (R.take i) fun q => decide (x ∈ sel q)) (x : Str) :
    ((if x ∈ sel p then some (Builtin.bitOr ((g x).getD 0) (2 ^ i)) else g x).getD 0) = msk (R.take (i + 1)) fun q => decide (x ∈ sel q) := by
  have il : i < R.length := (List.getElem?_eq_some_iff.mp hp).1
  have tl : (R.take i).length = i := by rw [List.length_take]; omega
  rw [take_snoc hp, msk_snoc, tl]
  by_cases m : x ∈ sel p
  · rw [if_pos m, if_pos (decide_eq_true m)]
    show Builtin.bitOr ((g x).getD 0) (2 ^ i) = _
    rw [hg x]
    have z := msk_orbit (R.take i) fun q => decide (x ∈ sel q)
    rw [tl] at z
    exact z
  · rw [if_neg m, if_neg (by simp [m]), hg x, Int.add_zero]
structure NoTab (K : PySem.W.Frag) (CT : Addr) : Prop where
  c : Cls K CT
  n1 : NoAttr K CT "every"
  n2 : NoAttr K CT "_here"
  n3 : NoAttr K CT "_there"
  n4 : NoAttr K CT "_own"
  n5 : NoAttr K CT "_around"
section
variable {P : Program} {w : World} {K : PySem.W.Frag} {mg : Str → Option Value} {base : Heap} {f : Addr} {fd : FuncData} {k : Nat}
def spTabInit (K : PySem.W.Frag) (CT : Addr) : Sp := fun vs H Q _ => ∃ (x dx l : Addr) (xs : List V) (R : List (W × W)), vs = [.ref x, .ref l] ∧ H x = some (.ins CT dx []) ∧ H l = some (.lst xs) ∧ PrAll H xs R ∧ (∀ p ∈ R, IsW p.1 ∧ IsW p.2 ∧ p.1.length ≤ 10 ∧ p.2.length ≤ 10) ∧ R.length ≤ 90 ∧
  ∀ H', (∀ b u, b ≠ x → H b = some u → H' b = some u) → TabAt CT H' (.ref x) R → Q .non H'
theorem ok_tabInit {CT f1 : Addr} {fd1 : FuncData} (F : Fun K "__init__" "Table.__init__" sTabInit f fd) (T : Bl mg) (N : NoTab K CT)
    (G1 : FnOk P w K mg base CX0 k f1 fd1 ["marks", "things", "bit"] (spMarkS K)) (G2 : FnOk P w K mg base CX0 k f1 fd1 ["marks", "things", "bit"] (spMarkT K)) (b1 : Binds K fd1 ["marks", "things", "bit"] []) (k1 : PySem.W.keepIn K (.ref f1) = true) (m1 : mg "_mark" = some (.ref f1)) :
    FnOk P w K mg base CX0 (k + 1) f fd ["self", "chosen"] (spTabInit K CT) := by
  refine F.ok scTabInit (fun vs H Q E h => ?_) (fun cdv A outer s H vs Q E hr h => ?_)
  · obtain ⟨x, dx, l, xs, R, rfl, _⟩ := h
    rfl
  obtain ⟨x, dx, l, xs, R, rfl, hx, hl, hR, hW, few, q⟩ := h
  have hu : (A.deeper (envOfC "Table.__init__" (defScope sTabInit) s.heap.objs.size f cdv)).units + 1 < cLine := by have := hr.un; omega
  refine ⟨_, pss_cons (ps_fld (pv 0) (pe_op op_sub (pe_op op_shl pe_int (pe_callB call_len_seq (by rfl) T.len PySem.boot_len (pa_cons (pv 1) pa_nil))) pe_int) rfl)
    (pss_cons (ps_fld (pv 0) pe_dnewK rfl)
    (pss_cons (ps_fld (pv 0) pe_dnewK rfl)
    (pss_cons (ps_fld (pv 0) pe_dnewT rfl)
    (pss_cons (ps_fld (pv 0) pe_dnewT rfl)
    (pss_one (ps_for PassesOwn.never rfl (pi_enum (by rfl) T.enum (pa_cons (pv 1) pa_nil)) (pg_tup (by rfl) (pgs_cons (pg_name (i := 2) scTabInit.nd rfl (.inl rfl)) (pgs_cons (pg_tup (by rfl) (pgs_cons (pg_name (i := 3) scTabInit.nd rfl (.inl rfl)) (pgs_cons (pg_name (i := 4) scTabInit.nd rfl (.inl rfl)) pgs_nil))) pgs_nil)))
      (pss_cons (ps_set (i := 5) scTabInit.nd rfl (.inl rfl) (pe_op op_shl pe_int (pv 2)))
      (pss_cons (ps_expr (pe_call G1 hr (by rfl) m1 k1 b1 .nil pass0 (pa_cons (pe_fld (pv 0) rfl) (pa_cons (pv 3) (pa_cons (pv 5) pa_nil)))))
      (pss_cons (ps_expr (pe_call G1 hr (by rfl) m1 k1 b1 .nil pass0 (pa_cons (pe_fld (pv 0) rfl) (pa_cons (pv 4) (pa_cons (pv 5) pa_nil)))))
      (pss_cons (ps_expr (pe_call G2 hr (by rfl) m1 k1 b1 .nil pass0 (pa_cons (pe_fld (pv 0) rfl) (pa_cons (pe_lst (pa_cons (pv 4) pa_nil)) (pa_cons (pv 5) pa_nil)))))
      (pss_one (ps_if (pt_cmpR (op_eqD hr.units) (pv 3) (pv 4) (nomark _)) (pss_one (ps_dput hu (pe_fld (pv 0) rfl) (pv 4) (pv 5) rfl)) pss_nil)))))))))))), ?_⟩
  have xl := hR.1
  have nlx : l ≠ x := fun z => by rw [z, hx] at hl; cases hl
  refine ⟨.ref l, rfl, l, xs, rfl, .inl (SqL.of hl), 1, (xs.length : Int), rfl, rfl, ⟨by omega, by omega, by decide⟩, _, 1, rfl, rfl, .ref x, rfl, x, CT, dx, _, rfl, hx, N.c, N.n1, by show 0 < 1000; decide, fun d1 hd1 => ?_⟩
  let ev : V := .int ((1 : Int) * 2 ^ ((xs.length : Int)).toNat - 1)
  have hx0 : H x ≠ none := by rw [hx]; exact fun z => nomatch z
  have b0 : Tb CT x dx H (upd H x (.ins CT dx (putF "every" ev []))) (putF "every" ev []) [] := ⟨upd_same, fun b u nb e => (upd_ne nb).trans e, (fun _ z => nomatch z), List.nodup_nil⟩
  obtain ⟨p1, c1, h1, o1⟩ := b0.put hx0 hd1 (.dK []) "_here"
  have l0 : (putF "every" ev []).length ≤ 1 := putF_len _ _ _
  have l1 := putF_len "_here" (.ref d1) (putF "every" ev [])
  refine ⟨.ref x, rfl, x, CT, dx, _, rfl, p1, N.c, N.n2, by omega, fun d2 hd2 => ?_⟩
  obtain ⟨p2, c2, h2, o2⟩ := c1.put hx0 hd2 (.dK []) "_there"
  have l2 := putF_len "_there" (.ref d2) (putF "_here" (.ref d1) (putF "every" ev []))
  refine ⟨.ref x, rfl, x, CT, dx, _, rfl, p2, N.c, N.n3, by omega, fun d3 hd3 => ?_⟩
  obtain ⟨p3, c3, h3, o3⟩ := c2.put hx0 hd3 (.dT []) "_own"
  have l3 := putF_len "_own" (.ref d3) (putF "_there" (.ref d2) (putF "_here" (.ref d1) (putF "every" ev [])))
  refine ⟨.ref x, rfl, x, CT, dx, _, rfl, p3, N.c, N.n4, by omega, fun d4 hd4 => ?_⟩
  obtain ⟨p4, c4, h4, o4⟩ := c3.put hx0 hd4 (.dT []) "_around"
  refine ⟨.ref x, rfl, x, CT, dx, _, rfl, p4, N.c, N.n5, by omega, ?_⟩
  let F5 : List (Str × V) := putF "_around" (.ref d4) (putF "_own" (.ref d3) (putF "_there" (.ref d2) (putF "_here" (.ref d1) (putF "every" ev []))))
  have g1 := (o4 d1 (by simp)).trans ((o3 d1 (by simp)).trans ((o2 d1 (by simp)).trans h1))
  have g2 := (o4 d2 (by simp)).trans ((o3 d2 (by simp)).trans h2)
  have g3 := (o4 d3 (by simp)).trans h3
  have lk : ∀ f : Str, F5.lookup f = if f = "_around" then some (.ref d4) else if f = "_own" then some (.ref d3) else if f = "_there" then some (.ref d2) else if f = "_here" then some (.ref d1) else if f = "every" then some ev else none := fun f => by
    show (putF _ _ _).lookup f = _
    rw [lookup_putF, lookup_putF, lookup_putF, lookup_putF, lookup_putF]
    rfl
  have k1_ : F5.lookup ("every" : Str) = some (.int (2 ^ R.length - 1)) := by
    rw [lk]
    show some (V.int ((1 : Int) * 2 ^ ((xs.length : Int)).toNat - 1)) = _
    rw [Int.one_mul, xl]
    rfl
  have k2_ : F5.lookup ("_here" : Str) = some (.ref d1) := by rw [lk]; rfl
  have k3_ : F5.lookup ("_there" : Str) = some (.ref d2) := by rw [lk]; rfl
  have k4_ : F5.lookup ("_own" : Str) = some (.ref d3) := by rw [lk]; rfl
  have k5_ : F5.lookup ("_around" : Str) = some (.ref d4) := by rw [lk]; rfl
  have hl5 := c4.keep l _ nlx hl
  obtain ⟨i5, keep5, old5, nd5⟩ := c4
  have i5 : _ = some (HO.ins CT dx F5) := i5
  clear p1 p2 p3 p4 c1 c2 c3 h1 h2 h3 o1 o2 o3 o4 b0 hd1 hd2 hd3 hd4
  generalize hHH : (upd (upd _ d4 (HO.dT [])) x (HO.ins CT dx (putF "_around" (V.ref d4) _)) : Hp) = H5 at i5 keep5 old5 g1 g2 g3 h4 hl5 ⊢
  have n1x : d1 ≠ x := (old5 d1 (by simp)).2.1
  have n2x : d2 ≠ x := (old5 d2 (by simp)).2.1
  have n3x : d3 ≠ x := (old5 d3 (by simp)).2.1
  have n4x : d4 ≠ x := (old5 d4 (by simp)).2.1
  have n12 : d1 ≠ d2 := by rintro rfl; simp at nd5
  have n13 : d1 ≠ d3 := by rintro rfl; simp at nd5
  have n14 : d1 ≠ d4 := by rintro rfl; simp at nd5
  have n23 : d2 ≠ d3 := by rintro rfl; simp at nd5
  have n24 : d2 ≠ d4 := by rintro rfl; simp at nd5
  have n34 : d3 ≠ d4 := by rintro rfl; simp at nd5
  let Kp : Hp → Prop := fun H6 => ∀ b u, b ≠ x → H b = some u → H6 b = some u
  let J : Nat → Hp → Prop := fun i H6 => H6 x = some (.ins CT dx F5) ∧ MkV H6 d1 (10 * i) (fun z => msk (R.take i) fun p => decide (z ∈ p.1)) ∧ MkV H6 d2 (10 * i) (fun z => msk (R.take i) fun p => decide (z ∈ p.2)) ∧ (∃ g, MkT H6 d3 i g) ∧ (∃ g, MkT H6 d4 i g) ∧ Kp H6
  have nil : ∀ (kvs : List (Key × V)), kvs = [] → ∀ x : Str, valV kvs (.inr x) = ((fun _ : Str => (none : Option Int)) x).map V.int := fun _ e _ => by rw [e]; rfl
  have kn : ∀ d, H d = none → ∀ H6 H7 : Hp, Kp H6 → (∀ b u, b ≠ d → H6 b = some u → H7 b = some u) → Kp H7 := fun d hd H6 H7 k e b u nb eb => e b u (fun z => by rw [z, hd] at eb; cases eb) (k b u nb eb)
  refine ⟨.ref l, rfl, l, xs, rfl, SqL.of hl5, for_enumL (xs := xs) (fun i σ H6 => (∃ y2 y3 y4 y5, σ = [some (.ref x), some (.ref l), y2, y3, y4, y5]) ∧ J i H6) ⟨⟨_, _, _, _, rfl⟩, i5, ⟨_, ⟨[], g1, Nat.zero_le _, nil _ rfl⟩, fun _ => rfl⟩, ⟨_, ⟨[], g2, Nat.zero_le _, nil _ rfl⟩, fun _ => rfl⟩, ⟨fun _ => none, [], g3, Nat.zero_le _, fun _ => rfl⟩, ⟨fun _ => none, [], h4, Nat.zero_le _, fun _ => rfl⟩, keep5⟩ (fun i σ H6 _ hI => SqL.of (hI.2.2.2.2.2.2 l _ nlx hl)) (fun i v σ H6 T0 hv hI hT => ?_) (fun σ H6 hI => ?_)⟩
  · obtain ⟨⟨y2, y3, y4, y5, rfl⟩, hx6, m1_, m2_, ⟨ga, m3_⟩, ⟨gb, m4_⟩, kp⟩ := hI
    obtain ⟨p, hp, c, y, z, rfl, hc, ⟨a1, rfl, ha1⟩, ⟨a2, rfl, ha2⟩⟩ := hR.2 i v hv
    obtain ⟨w1, w2, len1, len2⟩ := hW p (List.mem_of_getElem? hp)
    have il : i < R.length := (List.getElem?_eq_some_iff.mp hp).1
    have ntx : ∀ b us, H b = some (.tup us) → b ≠ x := fun b us e z => by rw [z, hx] at e; cases e
    have tup6 : ∀ b us, H b = some (.tup us) → H6 b = some (.tup us) := fun b us e => kp b _ (ntx b us e) e
    have sT := same_new hT (.tup [.int (i : Int), .ref c])
    have hd1 := (old5 d1 (by simp)).1
    have hd2 := (old5 d2 (by simp)).1
    have hd3 := (old5 d3 (by simp)).1
    have hd4 := (old5 d4 (by simp)).1
    refine ⟨T0, [.int (i : Int), .ref c], rfl, SqT.of upd_same, rfl, .int (i : Int), [.ref c], rfl, .ref c, [], rfl, c, [.ref a1, .ref a2], rfl, SqT.of (sT _ _ (tup6 _ _ hc)), rfl, .ref a1, [.ref a2], rfl, .ref a2, [], rfl, rfl, rfl, ?_⟩
    refine ⟨.int (i : Int), rfl, 1, (i : Int), rfl, rfl, ⟨by omega, by omega, by decide⟩, ?_⟩
    have eb : ((1 : Int) * 2 ^ ((i : Int)).toNat) = 2 ^ i := by rw [Int.one_mul]; rfl
    let bt : Int := (1 : Int) * 2 ^ ((i : Int)).toNat
    obtain ⟨u1, s1_, v1_⟩ := m1_
    obtain ⟨u2, s2_, v2_⟩ := m2_
    have kpT : Kp (upd H6 T0 (.tup [.int (i : Int), .ref c])) := fun b u nb e => sT _ _ (kp b u nb e)
    -- _mark(self._here, here, bit)
    refine ⟨.ref x, rfl, x, CT, dx, F5, .ref d1, rfl, sT _ _ hx6, N.c, N.n2, k2_, .ref a1, rfl, .int bt, rfl, ?_⟩
    dsimp only [tNil]
    refine ⟨d1, a1, p.1, bt, 10 * i, u1, rfl, s1_.go fun u e => sT _ _ e, SqT.of (kpT _ _ (ntx _ _ ha1) ha1), upX_nodup w1.up, by omega, fun H7 e7 mk7 => ?_⟩
    have kp7 := kn d1 hd1 _ _ kpT e7
    have hx7 := e7 x _ n1x.symm (sT _ _ hx6)
    -- _mark(self._there, there, bit)
    refine ⟨.ref x, rfl, x, CT, dx, F5, .ref d2, rfl, hx7, N.c, N.n3, k3_, .ref a2, rfl, .int bt, rfl, ?_⟩
    dsimp only [tNil]
    refine ⟨d2, a2, p.2, bt, 10 * i, u2, rfl, s2_.go fun u e => e7 d2 _ n12.symm (sT _ _ e), SqT.of (kp7 _ _ (ntx _ _ ha2) ha2), upX_nodup w2.up, by omega, fun H8 e8 mk8 => ?_⟩
    have kp8 := kn d2 hd2 _ _ kp7 e8
    have hx8 := e8 x _ n2x.symm hx7
    -- _mark(self._around, [there], bit)
    refine ⟨.ref x, rfl, x, CT, dx, F5, .ref d4, rfl, hx8, N.c, N.n5, k5_, .ref a2, rfl, by show 1 ≤ sizeLine; decide, fun l9 hl9 => ⟨.int bt, rfl, ?_⟩⟩
    dsimp only [tNil]
    have s9 := same_new hl9 (.lst [.ref a2])
    have kp8' : Kp (upd H8 l9 (.lst [.ref a2])) := fun b u nb e => s9 _ _ (kp8 b u nb e)
    refine ⟨d4, l9, .ref a2, p.2, bt, i, gb, rfl, m4_.go fun u e => s9 _ _ (e8 d4 _ n24.symm (e7 d4 _ n14.symm (sT _ _ e))), upd_same, ⟨a2, rfl, kp8' _ _ (ntx _ _ ha2) ha2⟩, by omega, fun H9 e9 mk9 => ?_⟩
    have kp9 := kn d4 hd4 _ _ kp8' e9
    have hx9 := e9 x _ n4x.symm (s9 _ _ hx8)
    have m3_9 : MkT H9 d3 i ga := m3_.go fun u e => e9 d3 _ n34 (s9 _ _ (e8 d3 _ n23.symm (e7 d3 _ n13.symm (sT _ _ e))))
    have m1_9 : MkV H9 d1 (10 * (i + 1)) (fun z => msk (R.take (i + 1)) fun q => decide (z ∈ q.1)) := by
      refine MkV.le (n := 10 * i + p.1.length) ⟨_, mk7.go fun u e => e9 d1 _ n14 (s9 _ _ (e8 d1 _ n12 e)), fun z => ?_⟩ (by omega)
      show (if z ∈ p.1 then some (Builtin.bitOr ((u1 z).getD 0) bt) else u1 z).getD 0 = _
      rw [show bt = 2 ^ i from eb]
      exact mark_more hp (·.1) v1_ z
    have m2_9 : MkV H9 d2 (10 * (i + 1)) (fun z => msk (R.take (i + 1)) fun q => decide (z ∈ q.2)) := by
      refine MkV.le (n := 10 * i + p.2.length) ⟨_, mk8.go fun u e => e9 d2 _ n24 (s9 _ _ e), fun z => ?_⟩ (by omega)
      show (if z ∈ p.2 then some (Builtin.bitOr ((u2 z).getD 0) bt) else u2 z).getD 0 = _
      rw [show bt = 2 ^ i from eb]
      exact mark_more hp (·.2) v2_ z
    -- if here == there
    refine ⟨.ref a1, rfl, .ref a2, rfl, wd p.1, wd p.2, to_wd (SqT.of (kp9 _ _ (ntx _ _ ha1) ha1)), to_wd (SqT.of (kp9 _ _ (ntx _ _ ha2) ha2)), shaped_wd w1, shaped_wd w2, _, rfl, ite2 (fun _ => ?_) (fun _ => ?_)⟩
    · obtain ⟨kvs, hk3, hl3, hv3⟩ := m3_9
      have hb9 : H9 a2 = some (.tup ((p.2.map Sum.inr : List Key).map kV)) := by
        rw [keys_tup]
        exact kp9 _ _ (ntx _ _ ha2) ha2
      let HA : Hp := upd H9 d3 (.dT (putK kvs (p.2.map Sum.inr) (V.int bt)))
      have eA : ∀ b u, b ≠ d3 → H9 b = some u → HA b = some u := fun b u nb e => (upd_ne nb).trans e
      refine ⟨.int bt, rfl, .ref x, rfl, x, CT, dx, F5, .ref d3, rfl, hx9, N.c, N.n4, k4_, .ref a2, rfl, d3, HA, rfl, DPut.t (k := p.2.map Sum.inr) hk3 hb9 (Nat.lt_of_le_of_lt (show kvs.length ≤ 1000 by omega) (by decide)), ?_⟩
      refine ⟨⟨_, _, _, _, rfl⟩, eA x _ n3x.symm hx9, m1_9.go fun u e => eA d1 _ n13 e, m2_9.go fun u e => eA d2 _ n23 e, ⟨fun t => if t = p.2 then some bt else ga t, _, upd_same, ?_, fun t => ?_⟩, ⟨_, mk9.go fun u e => eA d4 _ n34.symm e⟩, kn d3 hd3 _ _ kp9 eA⟩
      · refine Nat.le_trans (length_putK _ _ _) ?_
        omega
      · rw [valV_put]
        show _ = Option.map V.int (if t = p.2 then some bt else ga t)
        by_cases e : t = p.2
        · subst e
          rw [if_pos rfl, if_pos rfl]
          rfl
        · rw [if_neg (fun q => e (inr_inj q)), if_neg e, hv3 t]
    · obtain ⟨kvs, hk3, hl3, hv3⟩ := m3_9
      exact ⟨⟨_, _, _, _, rfl⟩, hx9, m1_9, m2_9, ⟨ga, kvs, hk3, by omega, hv3⟩, ⟨_, mk9⟩, kp9⟩
  · obtain ⟨⟨y2, y3, y4, y5, rfl⟩, hx6, m1, m2, _, _, kp⟩ := hI
    rw [xl, List.take_length] at m1 m2
    exact q H6 kp ⟨x, dx, d1, d2, F5, rfl, hx6, k1_, k2_, k3_, ⟨by rw [lk]; rfl, by rw [lk]; rfl⟩, m1.le (by omega), m2.le (by omega)⟩
end
end Rw
namespace Rw
open PySem PySem.Spec PyProof.Rows L2
/-! ### against, _unmet -/
abbrev nUnmet : List Str := ["self", "row", "asked", "heads", "denied", "needs", "bars", "unmet", "name"]
theorem scAgainst : FnScope ["self", "row"] ["self", "row"] (defScope sAgainst) := ⟨rfl, rfl, rfl, by decide +kernel, rfl, by decide +kernel, by decide +kernel⟩
theorem scUnmet : FnScope nUnmet ["self", "row", "asked"] (defScope sUnmet) := ⟨rfl, rfl, rfl, by decide +kernel, rfl, by decide +kernel, by decide +kernel⟩
/-- what a rule is unmet by, its names asked for by sel -/
def unB (sel : W × W → W) (r : Rl) (p : W × W) : Bool := r.2.2.1.all (fun x => decide (x ∈ sel p)) && r.2.1.all (fun x => decide (x ∈ p.2)) && r.1.all (fun x => !decide (x ∈ sel p)) && r.2.2.2.all fun x => !decide (x ∈ p.2)
theorem MkV.get {H : Hp} {d : Addr} {n : Nat} {v : Str → Int} (h : MkV H d n v) : ∃ kvs : List (Key × V), H d = some (.dK kvs) ∧ ∀ z : Str, (valV kvs (.inr z)).getD (V.int 0) = .int (v z) := by
  obtain ⟨g, ⟨kvs, h1, _, h3⟩, h4⟩ := h
  refine ⟨kvs, h1, fun z => ?_⟩
  rw [h3 z, ← h4 z]
  cases g z <;> rfl
theorem all_snoc {ns : W} {i : Nat} {z : Str} {q : Str → Bool} (h : ns[i]? = some z) : (ns.take (i + 1)).all q = ((ns.take i).all q && q z) := by
  rw [take_snoc h, List.all_append, List.all_cons, List.all_nil, Bool.and_true]
section
variable {P : Program} {w : World} {K : PySem.W.Frag} {mg : Str → Option Value} {base : Heap} {f : Addr} {fd : FuncData} {k : Nat}
def spUnmet (K : PySem.W.Frag) (CT : Addr) : Sp := fun vs H Q _ => ∃ (v x : V) (d : Addr) (R : List (W × W)) (r : Rl) (sel : W × W → W), vs = [v, x, .ref d] ∧ TabAt CT H v R ∧ Dp K H x (rd r) ∧ IsR r ∧ MkV H d 1000 (fun x => msk R fun p => decide (x ∈ sel p)) ∧
  ∀ H', Same H H' → Q (.int (msk R (unB sel r))) H'
theorem ok_unmet {CT : Addr} (F : Fun K "_unmet" "Table._unmet" sUnmet f fd) (N : NoTab K CT) : FnOk P w K mg base CX0 (k + 1) f fd ["self", "row", "asked"] (spUnmet K CT) := by
  refine F.ok scUnmet (fun vs H Q E h => ?_) (fun cdv A outer s H vs Q E hr h => ?_)
  · obtain ⟨v, x, d, R, r, sel, rfl, _⟩ := h
    rfl
  obtain ⟨v, x, d, R, r, sel, rfl, ⟨a, dx, d1, d2, fs, rfl, hi, l1, l2, l3, ⟨l4, l5⟩, m1, m2⟩, hx, hI, hd, q⟩ := h
  have hu : (A.deeper (envOfC "Table._unmet" (defScope sUnmet) s.heap.objs.size f cdv)).units + 1 < cLine := by have := hr.un; omega
  refine ⟨_, pss_cons (ps_asg (pv 1) (pg_tup (by rfl) (pgs_cons (pg_name (i := 3) scUnmet.nd rfl (.inl rfl)) (pgs_cons (pg_name (i := 4) scUnmet.nd rfl (.inl rfl)) (pgs_cons (pg_name (i := 5) scUnmet.nd rfl (.inl rfl)) (pgs_cons (pg_name (i := 6) scUnmet.nd rfl (.inl rfl)) pgs_nil))))))
    (pss_cons (ps_set (i := 7) scUnmet.nd rfl (.inl rfl) (pe_fld (pv 0) rfl))
    (pss_cons (ps_for PassesOwn.never rfl (pi_tup (pv 5)) (pg_name (i := 8) scUnmet.nd rfl (.inl rfl)) (pss_one (ps_set (i := 7) scUnmet.nd rfl (.inl rfl) (pe_op op_and (pv 7) (pe_dget2 hu (pv 2) (pv 8) pe_int ⟨rfl, rfl, rfl, rfl⟩)))))
    (pss_cons (ps_for PassesOwn.never rfl (pi_tup (pv 4)) (pg_name (i := 8) scUnmet.nd rfl (.inl rfl)) (pss_one (ps_set (i := 7) scUnmet.nd rfl (.inl rfl) (pe_op op_and (pv 7) (pe_dget2 hu (pe_fld (pv 0) rfl) (pv 8) pe_int ⟨rfl, rfl, rfl, rfl⟩)))))
    (pss_cons (ps_for PassesOwn.never rfl (pi_tup (pv 3)) (pg_name (i := 8) scUnmet.nd rfl (.inl rfl)) (pss_one (ps_set (i := 7) scUnmet.nd rfl (.inl rfl) (pe_op op_and (pv 7) (pe_un un_inv (pe_dget2 hu (pv 2) (pv 8) pe_int ⟨rfl, rfl, rfl, rfl⟩))))))
    (pss_cons (ps_for PassesOwn.never rfl (pi_tup (pv 6)) (pg_name (i := 8) scUnmet.nd rfl (.inl rfl)) (pss_one (ps_set (i := 7) scUnmet.nd rfl (.inl rfl) (pe_op op_and (pv 7) (pe_un un_inv (pe_dget2 hu (pe_fld (pv 0) rfl) (pv 8) pe_int ⟨rfl, rfl, rfl, rfl⟩))))))
    (pss_one (ps_ret (pv 7)))))))), ?_⟩
  obtain ⟨b0, v1, v2, v3, v4, rfl, hT, h1, h2, h3, h4⟩ := of_rd hx
  obtain ⟨a1, rfl, t1⟩ := of_wd h1
  obtain ⟨a2, rfl, t2⟩ := of_wd h2
  obtain ⟨a3, rfl, t3⟩ := of_wd h3
  obtain ⟨a4, rfl, t4⟩ := of_wd h4
  obtain ⟨kd, hkd, gd⟩ := hd.get
  obtain ⟨kt, hkt, gt⟩ := m2.get
  refine ⟨.ref b0, rfl, b0, _, rfl, hT, rfl, _, _, rfl, _, _, rfl, _, _, rfl, _, [], rfl, rfl, ?_⟩
  refine ⟨.ref a, rfl, a, CT, dx, fs, _, rfl, hi, N.c, N.n1, l1, ?_⟩
  have e0 : (2 : Int) ^ R.length - 1 = msk R fun _ => true := msk_all R
  rw [e0]
  let q1 : Nat → W × W → Bool := fun i p => (r.2.2.1.take i).all fun x => decide (x ∈ sel p)
  let q2 : Nat → W × W → Bool := fun i p => r.2.2.1.all (fun x => decide (x ∈ sel p)) && (r.2.1.take i).all fun x => decide (x ∈ p.2)
  let q3 : Nat → W × W → Bool := fun i p => r.2.2.1.all (fun x => decide (x ∈ sel p)) && r.2.1.all (fun x => decide (x ∈ p.2)) && (r.1.take i).all fun x => !decide (x ∈ sel p)
  let q4 : Nat → W × W → Bool := fun i p => r.2.2.1.all (fun x => decide (x ∈ sel p)) && r.2.1.all (fun x => decide (x ∈ p.2)) && r.1.all (fun x => !decide (x ∈ sel p)) && (r.2.2.2.take i).all fun x => !decide (x ∈ p.2)
  -- needs
  refine ⟨.ref a3, rfl, a3, rfl, ⟨_, t3⟩, for_tup (xs := r.2.2.1.map V.str) (fun i σ H1 => (∃ y8, σ = [some (.ref a), some (.ref b0), some (.ref d), some (.ref a1), some (.ref a2), some (.ref a3), some (.ref a4), some (.int (msk R (q1 i))), y8]) ∧ H1 = H) ⟨⟨_, rfl⟩, rfl⟩ (fun i σ H1 _ hI => by rw [hI.2]; exact t3) (fun i v σ H1 hv hI => ?_) (fun σ H1 hI => ?_)⟩
  · obtain ⟨⟨y8, rfl⟩, rfl⟩ := hI
    obtain ⟨z, hz, rfl⟩ := map_at hv
    refine ⟨.int (msk R (q1 i)), rfl, .ref d, rfl, d, rfl, .inl ⟨kd, .inl hkd⟩, .str z, rfl, valV kd (.inr z), DGet.k (k := .inr z) hkd, ?_⟩
    rw [gd z]
    refine ⟨_, _, rfl, rfl, ⟨some (.str z), ?_⟩, rfl⟩
    have e : (fun p => q1 i p && decide (z ∈ sel p)) = q1 (i + 1) := by
      funext p
      exact (all_snoc hz).symm
    have ez : Builtin.bitAnd (msk R (q1 i)) (msk R fun p => decide (z ∈ sel p)) = msk R (q1 (i + 1)) := by rw [msk_and, e]
    rw [← ez]
    rfl
  obtain ⟨⟨y8, rfl⟩, rfl⟩ := hI
  rw [List.length_map]
  have f1 : q1 r.2.2.1.length = q2 0 := by
    funext p
    show (r.2.2.1.take r.2.2.1.length).all _ = (_ && true)
    rw [List.take_length, Bool.and_true]
  rw [f1]
  -- denied
  refine ⟨.ref a2, rfl, a2, rfl, ⟨_, t2⟩, for_tup (xs := r.2.1.map V.str) (fun i σ H2 => (∃ y8, σ = [some (.ref a), some (.ref b0), some (.ref d), some (.ref a1), some (.ref a2), some (.ref a3), some (.ref a4), some (.int (msk R (q2 i))), y8]) ∧ H2 = H1) ⟨⟨_, rfl⟩, rfl⟩ (fun i σ H2 _ hI => by rw [hI.2]; exact t2) (fun i v σ H2 hv hI => ?_) (fun σ H2 hI => ?_)⟩
  · obtain ⟨⟨y8, rfl⟩, rfl⟩ := hI
    obtain ⟨z, hz, rfl⟩ := map_at hv
    refine ⟨.int (msk R (q2 i)), rfl, .ref a, rfl, a, CT, dx, fs, _, rfl, hi, N.c, N.n3, l3, d2, rfl, .inl ⟨kt, .inl hkt⟩, .str z, rfl, valV kt (.inr z), DGet.k (k := .inr z) hkt, ?_⟩
    rw [gt z]
    refine ⟨_, _, rfl, rfl, ⟨some (.str z), ?_⟩, rfl⟩
    have e : (fun p => q2 i p && decide (z ∈ p.2)) = q2 (i + 1) := by
      funext p
      show ((_ && _) && _) = (_ && (r.2.1.take (i + 1)).all _)
      rw [all_snoc hz, Bool.and_assoc]
    have ez : Builtin.bitAnd (msk R (q2 i)) (msk R fun p => decide (z ∈ p.2)) = msk R (q2 (i + 1)) := by rw [msk_and, e]
    rw [← ez]
    rfl
  obtain ⟨⟨y8, rfl⟩, rfl⟩ := hI
  rw [List.length_map]
  have f2 : q2 r.2.1.length = q3 0 := by
    funext p
    show (_ && (r.2.1.take r.2.1.length).all _) = (_ && true)
    rw [List.take_length, Bool.and_true]
  rw [f2]
  -- heads
  refine ⟨.ref a1, rfl, a1, rfl, ⟨_, t1⟩, for_tup (xs := r.1.map V.str) (fun i σ H3 => (∃ y8, σ = [some (.ref a), some (.ref b0), some (.ref d), some (.ref a1), some (.ref a2), some (.ref a3), some (.ref a4), some (.int (msk R (q3 i))), y8]) ∧ H3 = H2) ⟨⟨_, rfl⟩, rfl⟩ (fun i σ H3 _ hI => by rw [hI.2]; exact t1) (fun i v σ H3 hv hI => ?_) (fun σ H3 hI => ?_)⟩
  · obtain ⟨⟨y8, rfl⟩, rfl⟩ := hI
    obtain ⟨z, hz, rfl⟩ := map_at hv
    refine ⟨.int (msk R (q3 i)), rfl, .ref d, rfl, d, rfl, .inl ⟨kd, .inl hkd⟩, .str z, rfl, valV kd (.inr z), DGet.k (k := .inr z) hkd, ?_⟩
    rw [gd z]
    refine ⟨_, rfl, _, _, rfl, rfl, ⟨some (.str z), ?_⟩, rfl⟩
    have e : (fun p => q3 i p && !decide (z ∈ sel p)) = q3 (i + 1) := by
      funext p
      show ((_ && _) && _) = (_ && (r.1.take (i + 1)).all _)
      rw [all_snoc hz, Bool.and_assoc]
    have ez : Builtin.bitAnd (msk R (q3 i)) (Builtin.bitNot (msk R fun p => decide (z ∈ sel p))) = msk R (q3 (i + 1)) := by rw [msk_diff, e]
    rw [← ez]
    rfl
  obtain ⟨⟨y8, rfl⟩, rfl⟩ := hI
  rw [List.length_map]
  have f3 : q3 r.1.length = q4 0 := by
    funext p
    show (_ && (r.1.take r.1.length).all _) = (_ && true)
    rw [List.take_length, Bool.and_true]
  rw [f3]
  -- bars
  refine ⟨.ref a4, rfl, a4, rfl, ⟨_, t4⟩, for_tup (xs := r.2.2.2.map V.str) (fun i σ H4 => (∃ y8, σ = [some (.ref a), some (.ref b0), some (.ref d), some (.ref a1), some (.ref a2), some (.ref a3), some (.ref a4), some (.int (msk R (q4 i))), y8]) ∧ H4 = H3) ⟨⟨_, rfl⟩, rfl⟩ (fun i σ H4 _ hI => by rw [hI.2]; exact t4) (fun i v σ H4 hv hI => ?_) (fun σ H4 hI => ?_)⟩
  · obtain ⟨⟨y8, rfl⟩, rfl⟩ := hI
    obtain ⟨z, hz, rfl⟩ := map_at hv
    refine ⟨.int (msk R (q4 i)), rfl, .ref a, rfl, a, CT, dx, fs, _, rfl, hi, N.c, N.n3, l3, d2, rfl, .inl ⟨kt, .inl hkt⟩, .str z, rfl, valV kt (.inr z), DGet.k (k := .inr z) hkt, ?_⟩
    rw [gt z]
    refine ⟨_, rfl, _, _, rfl, rfl, ⟨some (.str z), ?_⟩, rfl⟩
    have e : (fun p => q4 i p && !decide (z ∈ p.2)) = q4 (i + 1) := by
      funext p
      show ((_ && _) && _) = (_ && (r.2.2.2.take (i + 1)).all _)
      rw [all_snoc hz, Bool.and_assoc]
    have ez : Builtin.bitAnd (msk R (q4 i)) (Builtin.bitNot (msk R fun p => decide (z ∈ p.2))) = msk R (q4 (i + 1)) := by rw [msk_diff, e]
    rw [← ez]
    rfl
  obtain ⟨⟨y8, rfl⟩, rfl⟩ := hI
  rw [List.length_map]
  have f4 : q4 r.2.2.2.length = unB sel r := by
    funext p
    show (_ && (r.2.2.2.take r.2.2.2.length).all _) = _
    rw [List.take_length]
    rfl
  rw [f4]
  exact ⟨_, rfl, q _ fun _ _ e => e⟩
def spAgainst (K : PySem.W.Frag) (CT : Addr) : Sp := fun vs H Q _ => ∃ (v x : V) (R : List (W × W)) (r : Rl), vs = [v, x] ∧ TabAt CT H v R ∧ Dp K H x (rd r) ∧ IsR r ∧ ∀ H', Same H H' → Q (.int (msk R fun p => unB (·.2) r p || unB (·.1) r p)) H'
theorem ok_against {CT f1 : Addr} {fd1 : FuncData} (F : Fun K "against" "Table.against" sAgainst f fd) (N : NoTab K CT) (hm : Meth K CT "_unmet" f1)
    (G1 : FnOk P w K mg base CX0 k f1 fd1 ["self", "row", "asked"] (spUnmet K CT)) (b1 : Binds K fd1 ["self", "row", "asked"] []) : FnOk P w K mg base CX0 (k + 1) f fd ["self", "row"] (spAgainst K CT) := by
  refine F.ok scAgainst (fun vs H Q E h => ?_) (fun cdv A outer s H vs Q E hr h => ?_)
  · obtain ⟨v, x, R, r, rfl, _⟩ := h
    rfl
  obtain ⟨v, x, R, r, rfl, hT, hx, hI, q⟩ := h
  refine ⟨_, pss_one (ps_ret (pe_op op_or (pe_meth (pv 0) N.c hm G1 hr b1 .nil pass0 (pa_cons (pv 1) (pa_cons (pe_fld (pv 0) rfl) pa_nil))) (pe_meth (pv 0) N.c hm G1 hr b1 .nil pass0 (pa_cons (pv 1) (pa_cons (pe_fld (pv 0) rfl) pa_nil))))), ?_⟩
  obtain ⟨a, dx, d1, d2, fs, rfl, hi, l1, l2, l3, ⟨l4, l5⟩, m1, m2⟩ := id hT
  have tab : ∀ {H1 : Hp}, Same H H1 → TabAt CT H1 (.ref a) R := fun s => ⟨a, dx, d1, d2, fs, rfl, s _ _ hi, l1, l2, l3, ⟨l4, l5⟩, m1.go fun u e => s _ _ e, m2.go fun u e => s _ _ e⟩
  refine ⟨.ref a, rfl, a, dx, fs, rfl, hi, l4, x, rfl, .ref a, rfl, a, CT, dx, fs, .ref d2, rfl, hi, N.c, N.n3, l3, ?_⟩
  dsimp only [tNil]
  refine ⟨.ref a, x, d2, R, r, (·.2), rfl, hT, hx, hI, m2, fun H1 s1 => ?_⟩
  refine ⟨.ref a, rfl, a, dx, fs, rfl, s1 _ _ hi, l4, x, rfl, .ref a, rfl, a, CT, dx, fs, .ref d1, rfl, s1 _ _ hi, N.c, N.n2, l2, ?_⟩
  dsimp only [tNil]
  refine ⟨.ref a, x, d1, R, r, (·.1), rfl, tab s1, dp_same s1 _ _ hx, hI, m1.go fun u e => s1 _ _ e, fun H2 s2 => ?_⟩
  refine ⟨_, _, rfl, rfl, ?_⟩
  have e := msk_or R (unB (·.2) r) (unB (·.1) r)
  have z := q H2 (s1.trans s2)
  rw [← e] at z
  exact z
end
end Rw
namespace Rw
open PySem PySem.Spec PyProof.Rows L2
/-! ### any(xs), all(xs) of a list of numbers -/
theorem ints_at : ∀ {us : List Value} {ns : List Int}, IntsAre us ns → us.length = ns.length ∧ ∀ (i : Nat) (v : Value), us[i]? = some v → ∃ t, v = .int (ns.getD i 0) t
  | _, _, .nil => ⟨rfl, fun i v h => by simp at h⟩
  | _, _, .cons n t h => by
    obtain ⟨e, r⟩ := ints_at h
    refine ⟨by rw [List.length_cons, List.length_cons, e], fun i v hv => ?_⟩
    cases i with
    | zero =>
      cases hv
      exact ⟨t, rfl⟩
    | succ i => exact r i v hv
theorem truth_ints {prog : Program} {w : World} {A : Around} {ns : List Int} {its : List Value} (e : IntsAre its ns) :
    TruthOf prog w A (fun i v => its.toArray[i]? = some v) (fun i => ns.getD i 0 != 0) := fun i v s Q E hv hq => by
  obtain ⟨t, rfl⟩ := (ints_at e).2 i v (by simpa using hv)
  exact PySem.P.truthy_int hq
theorem any_rangeI : ∀ ns : List Int, (List.range ns.length).any (fun i => ns.getD i 0 != 0) = ns.any fun n => n != 0
  | [] => rfl
  | b :: ns => by
    rw [List.length_cons, List.range_succ_eq_map, List.any_cons, List.any_map, List.any_cons, ← any_rangeI ns]
    rfl
theorem all_rangeI : ∀ ns : List Int, (List.range ns.length).all (fun i => ns.getD i 0 != 0) = ns.all fun n => n != 0
  | [] => rfl
  | b :: ns => by
    rw [List.length_cons, List.range_succ_eq_map, List.all_cons, List.all_map, List.all_cons, ← all_rangeI ns]
    rfl
section
variable {X : Cx}
def rAnyI (K : PySem.W.Frag) : List V → Hp → VK → Prop := fun vs H Q => ∃ (a : Addr) (ns : List Int), vs = [V.ref a] ∧ SqL K H a (ns.map V.int) ∧ Q (.bl (ns.any fun n => n != 0)) H
def rAllI (K : PySem.W.Frag) : List V → Hp → VK → Prop := fun vs H Q => ∃ (a : Addr) (ns : List Int), vs = [V.ref a] ∧ SqL K H a (ns.map V.int) ∧ Q (.bl (ns.all fun n => n != 0)) H
theorem cr_anyI (hc : X.calm = true) : CallR X (.builtin "any") (rAnyI X.K) := by
  intro pins s σ H vs us Q I r h
  obtain ⟨a, ns, rfl, hs, q⟩ := h
  obtain ⟨its, rv, hl, _⟩ := I.list hs
  rw [Vals.ref1 r]
  have hi := rv.ints
  refine call_any_walk (iter_any hl.isList fun s₂ e2 st hne => ?_)
  subst e2
  refine ⟨_, _, _, _, _, _, _, rfl, Walks.list (A := X.A.in1) (I.ok.hd hc) _ a hne its.toArray, st, truth_ints hi, fun h' tk hk => ⟨.bl _, H, I.kept fun b o eo => hk b o (fun hm => ?_) (Heap.get?_push_of_some _ eo), ?_, q⟩⟩
  · rcases List.mem_cons.mp hm with e1 | hm
    · exact absurd (e1 ▸ Heap.lt_size eo) (Nat.lt_irrefl _)
    · cases hm
  · show Value.bool _ = Value.bool _
    rw [← any_rangeI, List.size_toArray, (ints_at hi).1]
theorem cr_allI (hc : X.calm = true) : CallR X (.builtin "all") (rAllI X.K) := by
  intro pins s σ H vs us Q I r h
  obtain ⟨a, ns, rfl, hs, q⟩ := h
  obtain ⟨its, rv, hl, _⟩ := I.list hs
  rw [Vals.ref1 r]
  have hi := rv.ints
  refine call_all_walk (iter_any hl.isList fun s₂ e2 st hne => ?_)
  subst e2
  refine ⟨_, _, _, _, _, _, _, rfl, Walks.list (A := X.A.in1) (I.ok.hd hc) _ a hne its.toArray, st, truth_ints hi, fun h' tk hk => ⟨.bl _, H, I.kept fun b o eo => hk b o (fun hm => ?_) (Heap.get?_push_of_some _ eo), ?_, q⟩⟩
  · rcases List.mem_cons.mp hm with e1 | hm
    · exact absurd (e1 ▸ Heap.lt_size eo) (Nat.lt_irrefl _)
    · cases hm
  · show Value.bool _ = Value.bool _
    rw [← all_rangeI, List.size_toArray, (ints_at hi).1]
end
end Rw
namespace Rw
open PySem PySem.Spec PyProof.Rows L2
/-! ### _union, _shared, _takes_just -/
theorem scUnion : FnScope ["taken", "found", "own"] ["taken"] (defScope sUnion) := ⟨rfl, rfl, rfl, by decide +kernel, rfl, by decide +kernel, by decide +kernel⟩
theorem scShared : FnScope ["taken", "once", "twice", "own"] ["taken"] (defScope sShared) := ⟨rfl, rfl, rfl, by decide +kernel, rfl, by decide +kernel, by decide +kernel⟩
theorem scTakesJust : FnScope ["taken", "wanted", "shared", "own"] ["taken", "wanted"] (defScope sTakesJust) := ⟨rfl, rfl, rfl, by decide +kernel, rfl, by decide +kernel, by decide +kernel⟩
abbrev PW2 : Type := W × W
abbrev Prd : Type := PW2 → Bool
def mks (R : List PW2) (T : List Prd) : List V := T.map fun p => V.int (msk R p)
def onceB (T : List Prd) (a : PW2) : Bool := T.any fun p => p a
def twiceB : List Prd → Prd
  | [], _ => false
  | p :: T, a => (p a && onceB T a) || twiceB T a
theorem once_snoc {T : List Prd} {i : Nat} {p : Prd} (h : T[i]? = some p) (a : PW2) : onceB (T.take (i + 1)) a = (onceB (T.take i) a || p a) := by
  unfold onceB
  rw [take_snoc h, List.any_append, List.any_cons, List.any_nil, Bool.or_false]
theorem twice_app (p : Prd) (a : PW2) : ∀ T : List Prd, twiceB (T ++ [p]) a = (twiceB T a || (onceB T a && p a))
  | [] => by simp [twiceB, onceB]
  | q :: T => by
    have e : onceB (T ++ [p]) a = (onceB T a || p a) := by
      unfold onceB
      rw [List.any_append, List.any_cons, List.any_nil, Bool.or_false]
    have e2 : onceB (q :: T) a = (q a || onceB T a) := by
      unfold onceB
      rw [List.any_cons]
    rw [List.cons_append]
    unfold twiceB
    rw [twice_app p a T, e, e2]
    cases q a <;> cases onceB T a <;> cases p a <;> cases twiceB T a <;> rfl
theorem twice_snoc {T : List Prd} {i : Nat} {p : Prd} (h : T[i]? = some p) (a : PW2) : twiceB (T.take (i + 1)) a = (twiceB (T.take i) a || (onceB (T.take i) a && p a)) := by
  rw [take_snoc h, twice_app]
section
variable {P : Program} {w : World} {K : PySem.W.Frag} {mg : Str → Option Value} {base : Heap} {f : Addr} {fd : FuncData} {k : Nat}
def spUnion (K : PySem.W.Frag) : Sp := fun vs H Q _ => ∃ (l : Addr) (R : List PW2) (T : List Prd), vs = [.ref l] ∧ SqL K H l (mks R T) ∧ Q (.int (msk R (onceB T))) H
theorem ok_union (F : Fun K "_union" "_union" sUnion f fd) : FnOk P w K mg base CX0 (k + 1) f fd ["taken"] (spUnion K) := by
  refine F.ok scUnion (fun vs H Q E h => ?_) (fun cdv A outer s H vs Q E hr h => ?_)
  · obtain ⟨l, R, T, rfl, _⟩ := h
    rfl
  obtain ⟨l, R, T, rfl, hl, q⟩ := h
  refine ⟨_, pss_cons (ps_set (i := 1) scUnion.nd rfl (.inl rfl) pe_int)
    (pss_cons (ps_for PassesOwn.never rfl (pi_list (pv 0)) (pg_name (i := 2) scUnion.nd rfl (.inl rfl)) (pss_one (ps_set (i := 1) scUnion.nd rfl (.inl rfl) (pe_op op_or (pv 1) (pv 2)))))
    (pss_one (ps_ret (pv 1)))), ?_⟩
  have e0 : (0 : Int) = msk R (onceB []) := (msk_none R).symm
  refine ⟨.ref l, rfl, l, rfl, ⟨_, hl⟩, for_list (xs := mks R T) (fun i σ H1 => (∃ y2, σ = [some (.ref l), some (.int (msk R (onceB (T.take i)))), y2]) ∧ H1 = H) ⟨⟨none, by rw [List.take_zero, ← e0]; rfl⟩, rfl⟩ (fun i σ H1 _ hI => by rw [hI.2]; exact hl) (fun i v σ H1 hv hI => ?_) (fun σ H1 hI => ?_)⟩
  · obtain ⟨⟨y2, rfl⟩, rfl⟩ := hI
    obtain ⟨p, hp, rfl⟩ := map_at hv
    refine ⟨_, rfl, _, rfl, _, _, rfl, rfl, ⟨some (.int (msk R p)), ?_⟩, rfl⟩
    have ez : Builtin.bitOr (msk R (onceB (T.take i))) (msk R p) = msk R (onceB (T.take (i + 1))) := by
      rw [msk_or]
      congr 1
      funext a
      exact (once_snoc hp a).symm
    rw [← ez]
    rfl
  · obtain ⟨⟨y2, rfl⟩, rfl⟩ := hI
    have tl : (mks R T).length = T.length := List.length_map _
    rw [tl, List.take_length]
    exact ⟨_, rfl, q⟩
def spShared (K : PySem.W.Frag) : Sp := fun vs H Q _ => ∃ (l : Addr) (R : List PW2) (T : List Prd), vs = [.ref l] ∧ SqL K H l (mks R T) ∧ ∀ H', Same H H' → Q (.int (msk R (twiceB T))) H'
theorem ok_shared (F : Fun K "_shared" "_shared" sShared f fd) : FnOk P w K mg base CX0 (k + 1) f fd ["taken"] (spShared K) := by
  refine F.ok scShared (fun vs H Q E h => ?_) (fun cdv A outer s H vs Q E hr h => ?_)
  · obtain ⟨l, R, T, rfl, _⟩ := h
    rfl
  obtain ⟨l, R, T, rfl, hl, q⟩ := h
  refine ⟨_, pss_cons (ps_asg (pe_tup (pa_cons pe_int (pa_cons pe_int pa_nil))) (pg_tup (by rfl) (pgs_cons (pg_name (i := 1) scShared.nd rfl (.inl rfl)) (pgs_cons (pg_name (i := 2) scShared.nd rfl (.inl rfl)) pgs_nil))))
    (pss_cons (ps_for PassesOwn.never rfl (pi_list (pv 0)) (pg_name (i := 3) scShared.nd rfl (.inl rfl))
      (pss_cons (ps_set (i := 2) scShared.nd rfl (.inl rfl) (pe_op op_or (pv 2) (pe_op op_and (pv 1) (pv 3))))
      (pss_one (ps_set (i := 1) scShared.nd rfl (.inl rfl) (pe_op op_or (pv 1) (pv 3))))))
    (pss_one (ps_ret (pv 2)))), ?_⟩
  have e0 : (0 : Int) = msk R (onceB []) := (msk_none R).symm
  have e1 : (0 : Int) = msk R (twiceB []) := (msk_none R).symm
  refine ⟨by show 2 ≤ sizeLine; decide, fun t ht => ?_⟩
  have st := same_new ht (.tup [.int 0, .int 0])
  refine ⟨t, [.int 0, .int 0], rfl, SqT.of upd_same, rfl, .int 0, [.int 0], rfl, .int 0, [], rfl, rfl, ?_⟩
  refine ⟨.ref l, rfl, l, rfl, ⟨_, st.seq hl⟩, for_list (xs := mks R T) (fun i σ H1 => (∃ y3, σ = [some (.ref l), some (.int (msk R (onceB (T.take i)))), some (.int (msk R (twiceB (T.take i)))), y3]) ∧ Same H H1) ⟨⟨none, by rw [List.take_zero, ← e0, ← e1]; rfl⟩, st⟩ (fun i σ H1 _ hI => hI.2.seq hl) (fun i v σ H1 hv hI => ?_) (fun σ H1 hI => ?_)⟩
  · obtain ⟨⟨y3, rfl⟩, sm⟩ := hI
    obtain ⟨p, hp, rfl⟩ := map_at hv
    refine ⟨_, rfl, _, rfl, _, rfl, _, _, rfl, rfl, _, _, rfl, rfl, _, rfl, _, rfl, _, _, rfl, rfl, ⟨some (.int (msk R p)), ?_⟩, sm⟩
    have ez : Builtin.bitOr (msk R (onceB (T.take i))) (msk R p) = msk R (onceB (T.take (i + 1))) := by
      rw [msk_or]
      congr 1
      funext a
      exact (once_snoc hp a).symm
    have ey : Builtin.bitOr (msk R (twiceB (T.take i))) (Builtin.bitAnd (msk R (onceB (T.take i))) (msk R p)) = msk R (twiceB (T.take (i + 1))) := by
      rw [msk_and, msk_or]
      congr 1
      funext a
      exact (twice_snoc hp a).symm
    rw [← ez, ← ey]
    rfl
  · obtain ⟨⟨y3, rfl⟩, sm⟩ := hI
    have tl : (mks R T).length = T.length := List.length_map _
    rw [tl, List.take_length]
    exact ⟨_, rfl, q _ sm⟩
/-- the masks take all that is wanted, and each something alone -/
def tjB (R : List PW2) (T : List Prd) : Bool := decide (msk R (onceB T) = msk R fun _ => true) && T.all fun p => msk R (fun a => p a && !twiceB T a) != 0
def spTakesJust (K : PySem.W.Frag) : Sp := fun vs H Q _ => ∃ (l : Addr) (R : List PW2) (T : List Prd), vs = [.ref l, .int (msk R fun _ => true)] ∧ SqL K H l (mks R T) ∧ T.length ≤ 1000 ∧ ∀ H', Same H H' → Q (.bl (tjB R T)) H'
theorem ok_takesJust {f1 f2 : Addr} {fd1 fd2 : FuncData} (F : Fun K "_takes_just" "_takes_just" sTakesJust f fd) (T : Bl mg)
    (G1 : FnOk P w K mg base CX0 k f1 fd1 ["taken"] (spShared K)) (b1 : Binds K fd1 ["taken"] []) (k1 : PySem.W.keepIn K (.ref f1) = true) (m1 : mg "_shared" = some (.ref f1))
    (G2 : FnOk P w K mg base CX0 k f2 fd2 ["taken"] (spUnion K)) (b2 : Binds K fd2 ["taken"] []) (k2 : PySem.W.keepIn K (.ref f2) = true) (m2 : mg "_union" = some (.ref f2)) : FnOk P w K mg base CX0 (k + 1) f fd ["taken", "wanted"] (spTakesJust K) := by
  refine F.ok scTakesJust (fun vs H Q E h => ?_) (fun cdv A outer s H vs Q E hr h => ?_)
  · obtain ⟨l, R, T, rfl, _⟩ := h
    rfl
  obtain ⟨l, R, U, rfl, hl, few, q⟩ := h
  refine ⟨_, pss_cons (ps_set (i := 2) scTakesJust.nd rfl (.inr rfl) (pe_call G1 hr (by rfl) m1 k1 b1 .nil pass0 (pa_cons (pv 0) pa_nil)))
    (pss_one (ps_ret (pe_and (pe_cmpR op_eq (pe_call G2 hr (by rfl) m2 k2 b2 .nil pass0 (pa_cons (pv 0) pa_nil)) (pv 1) (nomark _)) (pe_one (pe_callB (cr_allI rfl) (by rfl) T.all (by decide +kernel) (pa_cons (pe_lc (own := [("own", 3)]) (g := gName 3) (by rfl) scTakesJust.nd (pi_list (pv 0)) (blkOk_by (N := ["taken", "wanted", "shared", "own"]) (sc := defScope sTakesJust) (by decide +kernel))
      (fun _ _ _ _ _ => pg_name (i := 3) scTakesJust.nd rfl (Or.inl rfl)) (fun _ _ _ _ _ => pts_nil) (fun _ _ _ _ _ => pe_op op_and (pv 3) (pe_un un_inv (pv 2)))) pa_nil)))))), ?_⟩
  refine ⟨.ref l, rfl, ?_⟩
  dsimp only [tNil]
  refine ⟨l, R, U, rfl, hl, fun H1 s1 => ?_⟩
  refine ⟨.ref l, rfl, ?_⟩
  dsimp only [tNil]
  refine ⟨l, R, U, rfl, s1.seq hl, ?_⟩
  refine ⟨_, rfl, rfl, decide (msk R (onceB U) = msk R fun _ => true), ?_, ?_⟩
  · by_cases e : msk R (onceB U) = msk R fun _ => true
    · rw [decide_eq_true e, decide_eq_true (by rw [e])]
    · rw [decide_eq_false e, decide_eq_false (fun q => e (by injection q))]
  refine ite2 (fun e => ?_) (fun e => ?_)
  · refine ⟨.ref l, rfl, l, rfl, ⟨_, s1.seq hl⟩, fun D hD => ?_⟩
    refine lc_list (xs := mks R U) (fun i H2 => Same H1 H2 ∧ H2 D = some (.lst ((U.take i).map fun p => V.int (msk R fun a => p a && !twiceB U a)))) ⟨same_new hD _, upd_same⟩ (fun i H2 _ hI => (s1.trans hI.1).seq hl) (fun i v H2 hv hI => ?_) (fun H2 hI => ?_)
    · obtain ⟨sm, hd⟩ := hI
      obtain ⟨p, hp, rfl⟩ := map_at hv
      have il : i < U.length := (List.getElem?_eq_some_iff.mp hp).1
      refine ⟨rfl, _, rfl, _, rfl, _, rfl, _, _, rfl, rfl, _, hd, small_line' (by rw [List.length_map, List.length_take]; omega), same_put sm hD, ?_⟩
      rw [upd_same, take_snoc hp, List.map_append]
      show some (HO.lst (_ ++ [V.int (Builtin.bitAnd (msk R p) (Builtin.bitNot (msk R (twiceB U))))])) = _
      rw [msk_diff R p (twiceB U)]
      rfl
    · obtain ⟨sm, hd⟩ := hI
      have ul : (mks R U).length = U.length := List.length_map _
      rw [ul, List.take_length] at hd
      refine ⟨D, U.map fun p => msk R fun a => p a && !twiceB U a, rfl, ?_, ?_⟩
      · rw [List.map_map]
        exact SqL.of hd
      · have z := q H2 (s1.trans sm)
        unfold tjB at z
        rw [e, Bool.true_and] at z
        rw [List.all_map]
        exact z
  · have z := q H1 s1
    unfold tjB at z
    rw [Bool.eq_false_iff.mpr e, Bool.false_and] at z
    exact z
end
end Rw
namespace Rw
open PySem PySem.Spec PyProof.Rows L2
/-! ### _is_least_cure -/
abbrev nLeastCure : List Str := ["part", "taken", "every", "others", "left", "place", "own"]
theorem scLeastCure : FnScope nLeastCure ["part", "taken", "every"] (defScope sLeastCure) := ⟨rfl, rfl, rfl, by decide +kernel, rfl, by decide +kernel, by decide +kernel⟩
/-- places, as values -/
def nV (n : Nat) : V := .int (n : Int)
theorem inV_nat (z : Nat) : ∀ ns : List Nat, inV (nV z) (ns.map nV) = decide (z ∈ ns)
  | [] => by simp [inV]
  | x :: ns => by
    have ih := inV_nat z ns
    unfold inV at ih ⊢
    rw [List.map_cons, List.any_cons, ih]
    show (((x : Int) == (z : Int)) || decide (z ∈ ns)) = decide (z ∈ x :: ns)
    by_cases h : x = z
    · subst h
      simp
    · have h' : z ≠ x := fun e => h e.symm
      have h2 : ¬ (x : Int) = z := by omega
      simp [h2, h']
theorem flat_nats (ns : List Nat) : (ns.map nV).all flatV = true := by
  rw [List.all_map, List.all_eq_true]
  exact fun _ _ => rfl
/-- the masks at other places -/
def othT (T : List Prd) (pl : List Nat) : List Prd := (T.zipIdx.filter fun q => !decide (q.2 ∈ pl)).map (·.1)
def othI (T : List Prd) (pl : List Nat) (i : Nat) : List Prd := ((T.zipIdx.take i).filter fun q => !decide (q.2 ∈ pl)).map (·.1)
theorem oth_step {T : List Prd} {pl : List Nat} {i : Nat} {p : Prd} (h : T[i]? = some p) : othI T pl (i + 1) = othI T pl i ++ (if (!decide (i ∈ pl)) = true then [p] else []) := by
  have hz : T.zipIdx[i]? = some (p, i) := by rw [List.getElem?_zipIdx, h]; simp
  unfold othI
  rw [take_snoc hz, List.filter_append, List.map_append]
  congr 1
  by_cases m : i ∈ pl <;> simp [m]
def lcB (R : List PW2) (T : List Prd) (pl : List Nat) : Bool := decide (0 < msk R fun a => !onceB (othT T pl) a) && !(pl.any fun n => msk R (fun a => !onceB (othT T pl) a && !(T.getD n fun _ => false) a) != 0)
section
variable {P : Program} {w : World} {K : PySem.W.Frag} {mg : Str → Option Value} {base : Heap} {f : Addr} {fd : FuncData} {k : Nat}
def spLeastCure (K : PySem.W.Frag) : Sp := fun vs H Q _ => ∃ (a l : Addr) (R : List PW2) (T : List Prd) (pl : List Nat), vs = [.ref a, .ref l, .int (msk R fun _ => true)] ∧ SqT K H a (pl.map nV) ∧ SqL K H l (mks R T) ∧ T.length ≤ 1000 ∧ pl.length ≤ 1000 ∧ (∀ n ∈ pl, n < T.length) ∧ ∀ H', Same H H' → Q (.bl (lcB R T pl)) H'
theorem ok_leastCure {f1 : Addr} {fd1 : FuncData} (F : Fun K "_is_least_cure" "_is_least_cure" sLeastCure f fd) (T : Bl mg)
    (G1 : FnOk P w K mg base CX0 k f1 fd1 ["taken"] (spUnion K)) (b1 : Binds K fd1 ["taken"] []) (k1 : PySem.W.keepIn K (.ref f1) = true) (m1 : mg "_union" = some (.ref f1)) : FnOk P w K mg base CX0 (k + 1) f fd ["part", "taken", "every"] (spLeastCure K) := by
  refine F.ok scLeastCure (fun vs H Q E h => ?_) (fun cdv A outer s H vs Q E hr h => ?_)
  · obtain ⟨a, l, R, U, pl, rfl, _⟩ := h
    rfl
  obtain ⟨a, l, R, U, pl, rfl, hT, hl, few, few2, hpl, q⟩ := h
  refine ⟨_, pss_cons (ps_setLc (i := 3) (own := [("place", 5), ("own", 6)]) (g := gTup K 2 (gCons (gName 5) (gCons (gName 6) gNil))) (by rfl) scLeastCure.nd rfl rfl (sw_true rfl rfl rfl (by decide +kernel)) (pi_enum (by rfl) T.enum (pa_cons (pv 1) pa_nil)) (blkOk_by (N := nLeastCure) (sc := defScope sLeastCure) (by decide +kernel))
      (fun _ _ _ _ _ => pg_tup (by rfl) (pgs_cons (pg_name (i := 5) scLeastCure.nd rfl (Or.inl rfl)) (pgs_cons (pg_name (i := 6) scLeastCure.nd rfl (Or.inl rfl)) pgs_nil))) (fun _ _ _ _ _ => pts_one (pt_cmpR (r := rIn K true) op_notIn_seq (pv 5) (pv 0) (by rfl))) (fun _ _ _ _ _ => pv 6))
    (pss_cons (ps_set (i := 4) scLeastCure.nd rfl (.inr rfl) (pe_op op_and (pv 2) (pe_un un_inv (pe_call G1 hr (by rfl) m1 k1 b1 .nil pass0 (pa_cons (pv 3) pa_nil)))))
    (pss_one (ps_ret (pe_and (pe_cmpR op_gt (pv 4) pe_int (nomark _)) (pe_one (pe_not (pe_callB (cr_anyI rfl) (by rfl) T.any (by decide +kernel) (pa_cons (pe_lc (own := [("place", 5)]) (g := gName 5) (by rfl) scLeastCure.nd (pi_tup (pv 0)) (blkOk_by (N := nLeastCure) (sc := defScope sLeastCure) (by decide +kernel))
      (fun _ _ _ _ _ => pg_name (i := 5) scLeastCure.nd rfl (Or.inl rfl)) (fun _ _ _ _ _ => pts_nil) (fun _ _ _ _ _ => pe_op op_and (pv 4) (pe_un un_inv (pe_ix (r := rIxL K) ix_list (pv 1) (pv 5) (fun _ _ => rfl))))) pa_nil)))))))), ?_⟩
  have ul : (mks R U).length = U.length := List.length_map _
  refine ⟨.ref l, rfl, l, mks R U, rfl, hl, fun D hD => ?_⟩
  refine lc_it walk_enum (fun i H2 => Same H H2 ∧ H2 D = some (.lst (mks R (othI U pl i)))) ⟨same_new hD _, upd_same⟩ (fun i H2 _ h => h.1.seq hl) (fun i x H2 H3 hi h hy => ?_) (fun H2 h => ?_)
  · obtain ⟨sm, hd⟩ := h
    obtain ⟨t, x1, x2, rfl, ht, rfl, e1, e2⟩ := hy
    cases e1
    obtain ⟨p, hp, rfl⟩ := map_at e2
    have tD : t ≠ D := fun e => by rw [e, hd] at ht; cases ht
    have st := same_new ht (.tup [.int (i : Nat), V.int (msk R p)])
    have sm3 := sm.trans st
    have hd3 := st _ _ hd
    have os := oth_step (pl := pl) hp
    refine ⟨t, [.int (i : Nat), V.int (msk R p)], rfl, SqT.of upd_same, rfl, .int (i : Nat), [V.int (msk R p)], rfl, V.int (msk R p), [], rfl, rfl, rfl, .int (i : Nat), rfl, .ref a, rfl, a, pl.map nV, rfl, .inr (same_tup sm3 hT), rfl, flat_nats pl, _, rfl, ?_⟩
    rw [show inV (V.int (i : Nat)) (pl.map nV) = decide (i ∈ pl) from inV_nat i pl]
    refine ite2 (fun e => ?_) (fun e => ?_)
    · refine ⟨_, rfl, _, hd3, small_line' ?_, same_put sm3 hD, ?_⟩
      · unfold mks othI
        rw [List.length_map, List.length_map]
        have := List.length_filter_le (fun q : Prd × Nat => !decide (q.2 ∈ pl)) (U.zipIdx.take i)
        rw [List.length_take, List.length_zipIdx] at this
        omega
      · rw [upd_same, os, if_pos (show (!decide (i ∈ pl)) = true from e)]
        unfold mks
        rw [List.map_append]
        rfl
    · refine ⟨sm3, ?_⟩
      rw [os, if_neg (show ¬ (!decide (i ∈ pl)) = true from e), List.append_nil]
      exact hd3
  obtain ⟨sm, hd⟩ := h
  have eo : othI U pl (mks R U).length = othT U pl := by
    unfold othI othT
    rw [ul, List.take_of_length_le (by rw [List.length_zipIdx]; exact Nat.le_refl _)]
  rw [eo] at hd
  refine ⟨_, rfl, .ref D, rfl, ?_⟩
  dsimp only [tNil]
  refine ⟨D, R, othT U pl, rfl, SqL.of hd, ?_⟩
  refine ⟨_, rfl, _, _, rfl, rfl, ?_⟩
  have el : Builtin.bitAnd (msk R fun _ => true) (Builtin.bitNot (msk R (onceB (othT U pl)))) = msk R fun a => !onceB (othT U pl) a := by
    rw [msk_diff]
    rfl
  let lf : Prd := fun a => !onceB (othT U pl) a
  refine ⟨_, rfl, _, 0, rfl, rfl, decide (0 < msk R lf), ?_, ite2 (fun e => ?_) (fun e => ?_)⟩
  · show V.bl (decide (Builtin.bitAnd _ _ > 0)) = _
    rw [el]
  · refine ⟨.ref a, rfl, a, rfl, ⟨_, same_tup sm hT⟩, fun D2 hD2 => ?_⟩
    let wf : Nat → Int := fun n => msk R fun a => lf a && !(U.getD n fun _ => false) a
    refine lc_tup (xs := pl.map nV) (fun i H3 => Same H2 H3 ∧ H3 D2 = some (.lst ((pl.take i).map fun n => V.int (wf n)))) ⟨same_new hD2 _, upd_same⟩ (fun i H3 _ h => same_tup (sm.trans h.1) hT) (fun i v H3 hv h => ?_) (fun H3 h => ?_)
    · obtain ⟨s3, hd3⟩ := h
      obtain ⟨n, hn, rfl⟩ := map_at hv
      have nl := hpl n (List.mem_of_getElem? hn)
      have hg : (mks R U)[n]? = some (V.int (msk R (U.getD n fun _ => false))) := by
        unfold mks
        rw [List.getElem?_map, List.getD_eq_getElem?_getD, List.getElem?_eq_getElem nl]
        rfl
      refine ⟨rfl, _, rfl, .ref l, rfl, nV n, rfl, l, _, n, _, rfl, rfl, (sm.trans s3).seq hl, atI_nat (j := n) hg, _, rfl, _, _, rfl, rfl, _, hd3, small_line' (by rw [List.length_map, List.length_take]; omega), same_put s3 hD2, ?_⟩
      rw [upd_same, take_snoc hn, List.map_append]
      show some (HO.lst (_ ++ [V.int (Builtin.bitAnd (Builtin.bitAnd (msk R fun _ => true) (Builtin.bitNot (msk R (onceB (othT U pl))))) (Builtin.bitNot (msk R (U.getD n fun _ => false))))])) = _
      rw [el, msk_diff]
      rfl
    · obtain ⟨s3, hd3⟩ := h
      rw [List.length_map, List.take_length] at hd3
      refine ⟨D2, pl.map wf, rfl, ?_, ?_⟩
      · rw [List.map_map]
        exact SqL.of hd3
      · have z := q H3 (sm.trans s3)
        unfold lcB at z
        rw [show decide (0 < msk R fun a => !onceB (othT U pl) a) = true from e, Bool.true_and] at z
        rw [List.any_map]
        exact ⟨_, rfl, z⟩
  · have z := q H2 sm
    unfold lcB at z
    rw [show decide (0 < msk R fun a => !onceB (othT U pl) a) = false from Bool.eq_false_iff.mpr e, Bool.false_and] at z
    exact z
end
end Rw
namespace Rw
open PySem PySem.Spec PyProof.Rows L2
/-! ### _parts -/
abbrev nParts : List Str := ["many", "found", "shorter", "longer", "part", "start", "place"]
theorem scParts : FnScope nParts ["many"] (defScope sParts) := ⟨rfl, rfl, rfl, by decide +kernel, rfl, by decide +kernel, by decide +kernel⟩
def stN (p : List Nat) : Nat := match p.getLast? with
  | some n => n + 1
  | none => 0
def moreN (m : Nat) (p : List Nat) : List (List Nat) := (List.range (m - stN p)).map fun i => p ++ [stN p + i]
def nextN (m : Nat) (L : List (List Nat)) : List (List Nat) := L.flatMap (moreN m)
def lvlN (m : Nat) : Nat → List (List Nat)
  | 0 => [[]]
  | j + 1 => nextN m (lvlN m j)
def fndN (m : Nat) : Nat → List (List Nat)
  | 0 => [[]]
  | j + 1 => fndN m j ++ lvlN m (j + 1)
def partsN (m : Nat) : List (List Nat) := fndN m 9
theorem fnd_few : ∀ m, m ≤ 8 → ∀ j, j ≤ 9 → (fndN m j).length ≤ 256 ∧ (lvlN m j).length ≤ 256 ∧ ∀ p ∈ lvlN m j, p.length ≤ 9 ∧ stN p ≤ m := by decide +kernel
theorem lvl_end : ∀ m, m ≤ 8 → lvlN m 9 = [] := by decide +kernel
theorem fnd_end : ∀ m, m ≤ 8 → ∀ j, j ≤ 9 → lvlN m j = [] → fndN m j = partsN m := by decide +kernel
theorem parts_lt : ∀ m, m ≤ 8 → ∀ p ∈ partsN m, ∀ n ∈ p, n < m := by decide +kernel
/-- parts that are tuples made here -/
def Nt (H : Hp) (y : V) (p : List Nat) : Prop := ∃ b, y = .ref b ∧ H b = some (.tup (p.map nV))
inductive NtAll (H : Hp) : List V → List (List Nat) → Prop
  | nil : NtAll H [] []
  | cons {y ys p L} : Nt H y p → NtAll H ys L → NtAll H (y :: ys) (p :: L)
theorem NtAll.len {H : Hp} : ∀ {ys : List V} {L : List (List Nat)}, NtAll H ys L → ys.length = L.length
  | _, _, .nil => rfl
  | _, _, .cons _ t => by rw [List.length_cons, List.length_cons, t.len]
theorem NtAll.at' {H : Hp} : ∀ {ys : List V} {L : List (List Nat)} {i : Nat} {y : V}, NtAll H ys L → ys[i]? = some y → ∃ p, L[i]? = some p ∧ Nt H y p
  | _, _, _, _, .nil, e => by simp at e
  | _, _, 0, _, .cons h _, e => ⟨_, rfl, by rw [← Option.some.inj e]; exact h⟩
  | _, _, i + 1, _, .cons _ t, e => t.at' (i := i) e
theorem NtAll.app {H : Hp} {zs : List V} {L' : List (List Nat)} (h2 : NtAll H zs L') : ∀ {ys : List V} {L : List (List Nat)}, NtAll H ys L → NtAll H (ys ++ zs) (L ++ L')
  | _, _, .nil => h2
  | _, _, .cons h t => .cons h (NtAll.app h2 t)
theorem NtAll.go {H H' : Hp} (e : Tups H H') : ∀ {ys : List V} {L : List (List Nat)}, NtAll H ys L → NtAll H' ys L
  | _, _, .nil => .nil
  | _, _, .cons ⟨b, r, h⟩ t => .cons ⟨b, r, e _ _ h⟩ (NtAll.go e t)
section
variable {P : Program} {w : World} {K : PySem.W.Frag} {mg : Str → Option Value} {base : Heap} {f : Addr} {fd : FuncData} {k : Nat}
def spParts : Sp := fun vs H Q _ => ∃ m : Nat, vs = [nV m] ∧ m ≤ 8 ∧ ∀ H' l ys, Same H H' → H l = none → H' l = some (.lst ys) → NtAll H' ys (partsN m) → Q (.ref l) H'
theorem ok_parts (F : Fun K "_parts" "_parts" sParts f fd) (T : Bl mg) : FnOk P w K mg base CX0 (k + 1) f fd ["many"] spParts := by
  refine F.ok scParts (fun vs H Q E h => ?_) (fun cdv A outer s H vs Q E hr h => ?_)
  · obtain ⟨m, rfl, _⟩ := h
    rfl
  obtain ⟨m, rfl, m8, q⟩ := h
  refine ⟨_, pss_cons (ps_set (i := 1) scParts.nd rfl (.inl rfl) (pe_lst (pa_cons (pe_tup pa_nil) pa_nil)))
    (pss_cons (ps_set (i := 2) scParts.nd rfl (.inl rfl) (pe_lst (pa_cons (pe_tup pa_nil) pa_nil)))
    (pss_cons (ps_while PassesOwn.never (pt_truth (pv 2) fun _ => rfl)
      (pss_cons (ps_set (i := 3) scParts.nd rfl (.inl rfl) (pe_lst pa_nil))
      (pss_cons (ps_for PassesOwn.never rfl (pi_list (pv 2)) (pg_name (i := 4) scParts.nd rfl (.inr rfl))
        (pss_mid (ps_set (i := 5) scParts.nd rfl (.inl rfl) (pe_ifExp (pt_truth (pv 4) fun _ => rfl) (pe_op op_add (pe_ix ix_tup (pv 4) (pe_un un_neg pe_int) (fun _ _ => rfl)) pe_int) pe_int))
        (pss_one (ps_expr (pe_bm PySem.F.plainAttrs_list PySem.F.slot_list_extend PySem.F.type_list_extend mt_extend (pv 3) (pa_cons (pe_lc (own := [("place", 6)]) (g := gName 6) (te := tTup (StX.tStar K (tVar 4) (tCons (tVar 6) tNil))) (by rfl) scParts.nd (pi_range2 rfl T.range (pa_cons (pv 5) (pa_cons (pv 0) pa_nil))) (blkOk_by (N := nParts) (sc := defScope sParts) (by decide +kernel))
          (fun _ _ _ _ _ => pg_name (i := 6) scParts.nd rfl (Or.inl rfl)) (fun _ _ _ _ _ => pts_nil) (fun _ _ _ _ _ => pe_tup (StX.pa_star (pv 4) (pa_cons (pv 6) pa_nil)))) pa_nil))))))
      (pss_cons (ps_expr (pe_bm PySem.F.plainAttrs_list PySem.F.slot_list_extend PySem.F.type_list_extend mt_extend (pv 1) (pa_cons (pv 3) pa_nil)))
      (pss_one (ps_set (i := 2) scParts.nd rfl (.inl rfl) (pv 3)))))))
    (pss_one (ps_ret (pv 1))))), ?_⟩
  refine ⟨by show 0 ≤ sizeLine; decide, fun t0 ht0 => ⟨by show 1 ≤ sizeLine; decide, fun l0 hl0 => ?_⟩⟩
  have s1 := same_new ht0 (.tup [])
  have s2 := same_new hl0 (.lst [.ref t0])
  refine ⟨by show 0 ≤ sizeLine; decide, fun t1 ht1 => ⟨by show 1 ≤ sizeLine; decide, fun l1 hl1 => ?_⟩⟩
  have s3 := same_new ht1 (.tup [])
  have s4 := same_new hl1 (.lst [.ref t1])
  have s12 := s1.trans s2
  have s34 := s3.trans s4
  have n01 : l0 ≠ l1 := by
    rintro rfl
    have := s3 _ _ (upd_same (H := upd H t0 (.tup [])) (a := l0) (o := .lst [.ref t0]))
    rw [hl1] at this
    cases this
  refine ⟨fun n σ H' => ∃ (j : Nat) (l3 : Addr) (y3 y4 y5 : Option V) (ys zs : List V), n + j = 10 ∧ j ≤ 9 ∧ σ = [some (nV m), some (.ref l0), some (.ref l3), y3, y4, y5, none] ∧ Same H H' ∧ H' l0 = some (.lst ys) ∧ NtAll H' ys (fndN m j) ∧ H' l3 = some (.lst zs) ∧ NtAll H' zs (lvlN m j) ∧ l0 ≠ l3,
    ⟨10, 0, l1, _, _, _, _, _, rfl, Nat.zero_le _, rfl, s12.trans s34, s34 _ _ upd_same, .cons ⟨t0, rfl, (s2.trans s34) _ _ upd_same⟩ .nil, upd_same, .cons ⟨t1, rfl, s4 _ _ upd_same⟩ .nil, n01⟩, fun n σ H' hW => ?_⟩
  have hl0n : H l0 = none := none_back s1 hl0
  obtain ⟨j, l3, y3, y4, y5, ys, zs, nj, j9, rfl, sm, hf, hys, hs, hzs, ne⟩ := hW
  refine ⟨.ref l3, rfl, !zs.isEmpty, .inl ⟨zs, SqL.of hs, rfl⟩, ?_⟩
  cases zs with
  | nil =>
    rw [show (!([] : List V).isEmpty) = false from rfl, if_neg Bool.false_ne_true]
    have e : lvlN m j = [] := List.length_eq_zero_iff.mp hzs.len.symm
    refine ⟨.ref l0, rfl, q H' l0 ys sm hl0n hf ?_⟩
    rw [← fnd_end m m8 j j9 e]
    exact hys
  | cons z0 zs0 =>
    rw [show (!(z0 :: zs0).isEmpty) = true from rfl, if_pos rfl]
    have zne : (z0 :: zs0).length ≠ 0 := by simp
    generalize z0 :: zs0 = zs at hs hzs zne
    have j8 : j ≤ 8 := by
      refine Nat.le_of_lt_succ (Nat.lt_of_le_of_ne j9 fun e => ?_)
      subst e
      rw [lvl_end m m8] at hzs
      exact zne hzs.len
    refine ⟨fun σ' H'' => ∃ (j : Nat) (l3 : Addr) (y3 y4 y5 : Option V) (ys zs : List V), n - 1 + j = 10 ∧ j ≤ 9 ∧ σ' = [some (nV m), some (.ref l0), some (.ref l3), y3, y4, y5, none] ∧ Same H H'' ∧ H'' l0 = some (.lst ys) ∧ NtAll H'' ys (fndN m j) ∧ H'' l3 = some (.lst zs) ∧ NtAll H'' zs (lvlN m j) ∧ l0 ≠ l3, fun σ' H'' h => ⟨n - 1, by omega, h⟩, ?_⟩
    refine ⟨by show 0 ≤ sizeLine; decide, fun lg hlg => ?_⟩
    have sg := same_new hlg (.lst [])
    have nlg0 : l0 ≠ lg := fun z => by rw [← z, hf] at hlg; cases hlg
    have nlg3 : l3 ≠ lg := fun z => by rw [← z, hs] at hlg; cases hlg
    have hgS : (upd H' lg (.lst [])) lg = some (.lst []) := upd_same
    let HG : Hp := upd H' lg (.lst [])
    refine ⟨.ref l3, rfl, l3, rfl, ⟨_, SqL.of (sg _ _ hs)⟩, for_list (xs := zs) (fun i σ H2 => (∃ y4 y5, σ = [some (nV m), some (.ref l0), some (.ref l3), some (.ref lg), y4, y5, none]) ∧ (∀ b u, b ≠ lg → HG b = some u → H2 b = some u) ∧ ∃ gs, H2 lg = some (.lst gs) ∧ NtAll H2 gs (((lvlN m j).take i).flatMap (moreN m))) ⟨⟨_, _, rfl⟩, fun _ _ _ e => e, [], hgS, .nil⟩ (fun i σ H2 _ hI => SqL.of (hI.2.1 _ _ nlg3 (sg _ _ hs))) (fun i v σ H2 hv hI => ?_) (fun σ H2 hI => ?_)⟩
    · obtain ⟨⟨y4', y5', rfl⟩, kp, gs, hg, hgs⟩ := hI
      obtain ⟨p, hp, b, rfl, hb⟩ := hzs.at' hv
      have nbg : b ≠ lg := fun z => by rw [z, hlg] at hb; cases hb
      have hb2 := kp b _ nbg (sg _ _ hb)
      obtain ⟨_, fw, fp⟩ := fnd_few m m8 j j9
      obtain ⟨p9, stm⟩ := fp p (List.mem_of_getElem? hp)
      refine ⟨fun σ' H3 => σ' = [some (nV m), some (.ref l0), some (.ref l3), some (.ref lg), some (.ref b), some (nV (stN p)), none] ∧ H3 = H2, ?_, fun σ' H3 hI3 => ?_⟩
      · refine ⟨.ref b, rfl, !(p.map nV).isEmpty, .inr (.inl ⟨_, SqT.of hb2, rfl⟩), ?_⟩
        rcases List.eq_nil_or_concat p with rfl | ⟨p0, x0, rfl⟩
        · exact iteF ⟨rfl, rfl⟩
        · have e1 : (!((p0.concat x0).map nV).isEmpty) = true := by simp
          rw [e1]
          have e2 : stN (p0.concat x0) = x0 + 1 := by
            unfold stN
            simp
          refine iteT ⟨.ref b, rfl, 1, rfl, b, _, -1, nV x0, rfl, rfl, SqT.of hb2, ?_, _, 1, rfl, rfl, ?_⟩
          · have el : ((p0.concat x0).map nV).length = p0.length + 1 := by simp
            unfold atI ixN
            rw [el, if_neg (by decide), if_pos (by omega)]
            show ((p0.concat x0).map nV)[(-1 + ((p0.length + 1 : Nat) : Int)).toNat]? = _
            rw [show (-1 + ((p0.length + 1 : Nat) : Int)).toNat = p0.length by omega]
            simp
          · rw [e2]
            exact ⟨rfl, rfl⟩
      obtain ⟨rfl, rfl⟩ := hI3
      refine ⟨.ref lg, rfl, .inl ⟨rfl, gs, SqL.of hg⟩, .int (stN p), rfl, nV m, rfl, stN p, m, rfl, ⟨by omega, by omega, by omega, by omega⟩, fun D hD => ?_⟩
      rw [show ((m : Int) - (stN p : Int)).toNat = m - stN p by omega]
      refine lc_range (lo := (stN p : Int)) (n := m - stN p) (fun i H4 => Same H3 H4 ∧ ∃ hs, H4 D = some (.lst hs) ∧ NtAll H4 hs ((List.range i).map fun i => p ++ [stN p + i])) ⟨same_new hD _, [], upd_same, .nil⟩ (fun i H4 hi hI4 => ?_) (fun H4 hI4 => ?_)
      · obtain ⟨s4, hs4, hd4, hn4⟩ := hI4
        have hb4 := s4 _ _ hb2
        refine ⟨rfl, .ref b, rfl, b, _, rfl, .inl (SqT.of hb4), _, rfl, ?_⟩
        have ev : (p.map nV ++ [V.int ((stN p : Int) + (i : Int))]) = (p ++ [stN p + i]).map nV := by
          rw [List.map_append]
          show _ = _ ++ [V.int ((stN p + i : Nat) : Int)]
          rw [Int.natCast_add]
        refine ⟨by
          show (p.map nV ++ [V.int ((stN p : Int) + (i : Int))]).length ≤ sizeLine
          rw [List.length_append, List.length_map]
          exact small_line (by show p.length + 1 ≤ 10000; omega), fun u hu => ?_⟩
        have s5 := same_new hu (.tup ((p ++ [stN p + i]).map nV))
        have hd5 : (upd H4 u (.tup ((p ++ [stN p + i]).map nV))) D = some (.lst hs4) := s5 _ _ hd4
        rw [← ev] at s5 hd5
        have g5 := Tups.put (o := .lst (hs4 ++ [.ref u])) hd5
        refine ⟨hs4, hd5, small_line' ?_, same_put (s4.trans s5) hD, hs4 ++ [.ref u], upd_same, ?_⟩
        · rw [hn4.len, List.length_map, List.length_range]
          omega
        · rw [List.range_succ, List.map_append]
          refine NtAll.app (.cons ⟨u, rfl, g5 _ _ ?_⟩ .nil) (hn4.go ((Tups.of s5).trans g5))
          rw [← ev]
          exact upd_same
      · obtain ⟨s4, hs4, hd4, hn4⟩ := hI4
        have hg4 := s4 _ _ hg
        refine ⟨lg, D, gs, hs4, rfl, rfl, hg4, hd4, ?_, ?_⟩
        · have c1 : (((lvlN m j).take i).flatMap (moreN m)).length ≤ (lvlN m (j + 1)).length := by
            show _ ≤ ((lvlN m j).flatMap (moreN m)).length
            conv => rhs; rw [← List.take_append_drop i (lvlN m j), List.flatMap_append, List.length_append]
            exact Nat.le_add_right _ _
          have c2 := (fnd_few m m8 (j + 1) (by omega)).2.1
          rw [hgs.len, hn4.len, List.length_map, List.length_range]
          exact small_line (by omega)
        · have g4 := Tups.put (o := .lst (gs ++ hs4)) hg4
          refine ⟨⟨_, _, rfl⟩, fun b' u nb e => (upd_ne nb).trans (s4 _ _ (kp b' u nb e)), gs ++ hs4, upd_same, ?_⟩
          rw [take_snoc hp, List.flatMap_append, List.flatMap_cons, List.flatMap_nil, List.append_nil]
          exact NtAll.app (hn4.go g4) (hgs.go ((Tups.of s4).trans g4))
    · obtain ⟨⟨y4', y5', rfl⟩, kp, gs, hg, hgs⟩ := hI
      rw [hzs.len, List.take_length] at hgs
      have hgs : NtAll H2 gs (lvlN m (j + 1)) := hgs
      have hf2 := kp _ _ nlg0 (sg _ _ hf)
      have tup : Tups H' H2 := fun b us e => kp b _ (fun z => by rw [z, hlg] at e; cases e) (sg _ _ e)
      have hys2 := hys.go tup
      obtain ⟨fw1, _, _⟩ := fnd_few m m8 j j9
      obtain ⟨_, fw2, _⟩ := fnd_few m m8 (j + 1) (by omega)
      refine ⟨.ref l0, rfl, .inl ⟨rfl, ys, SqL.of hf2⟩, .ref lg, rfl, l0, lg, ys, gs, rfl, rfl, hf2, hg, small_line (by rw [hys.len, hgs.len]; omega), .ref lg, rfl, ?_⟩
      have tp2 := Tups.put (o := .lst (ys ++ gs)) hf2
      refine ⟨j + 1, lg, _, _, _, ys ++ gs, gs, by omega, by omega, rfl, fun b u e => ?_, upd_same, NtAll.app (hgs.go tp2) (hys2.go tp2), ?_, hgs.go tp2, nlg0⟩
      · have e' := sm b u e
        have nb0 : b ≠ l0 := fun z => by rw [z, hl0n] at e; cases e
        rw [upd_ne nb0]
        exact kp b u (fun z => by rw [z, hlg] at e'; cases e') (sg _ _ e')
      · rw [upd_ne nlg0.symm]
        exact hg
end
end Rw
namespace Rw
open PySem PySem.Spec PyProof.Rows L2
/-! ### _picked -/
theorem scPicked : FnScope ["program", "part", "rows", "place"] ["program", "part"] (defScope sPicked) := ⟨rfl, rfl, rfl, by decide +kernel, rfl, by decide +kernel, by decide +kernel⟩
def pickL (S : List Rl) (p : List Nat) : List Rl := p.filterMap fun n => S[n]?
theorem pick_len (S : List Rl) (p : List Nat) : (pickL S p).length ≤ p.length := List.length_filterMap_le _ _
section
variable {P : Program} {w : World} {K : PySem.W.Frag} {mg : Str → Option Value} {base : Heap} {f : Addr} {fd : FuncData} {k : Nat}
def spPicked (K : PySem.W.Frag) (C : Addr) : Sp := fun vs H Q _ => ∃ (v y : V) (S : List Rl) (p : List Nat), vs = [v, y] ∧ PgAt K C H v S ∧ (∀ r ∈ S, IsR r) ∧ Nt H y p ∧ (∀ n ∈ p, n < S.length) ∧ p.length < 76 ∧ ∀ H' v' S', Same H H' → Srt S' (pickL S p) → S'.length < 76 → PgAt K C H' v' S' → Q v' H'
theorem ok_picked {C fI pr f2 : Addr} {fd2 : FuncData} (F : Fun K "_picked" "_picked" sPicked f fd) (c : Cls K C) (hp : PropOf K C "rules" pr f2) (M : Mk K C fI) (GI : FnR P w K mg base CX0 (k + 1) fI (spInit K C)) (mP : mg "Program" = some (.ref C))
    (G2 : FnOk P w K mg base CX0 k f2 fd2 ["self"] (spRules K C)) (b2 : Binds K fd2 ["self"] []) : FnOk P w K mg base CX0 (k + 3) f fd ["program", "part"] (spPicked K C) := by
  refine F.ok scPicked (fun vs H Q E h => ?_) (fun cdv A outer s H vs Q E hr h => ?_)
  · obtain ⟨v, y, S, p, rfl, _⟩ := h
    rfl
  obtain ⟨v, y, S, p, rfl, hS, hI, ⟨b, rfl, hb⟩, hlt, few, q⟩ := h
  refine ⟨_, pss_cons (ps_setLc (i := 2) (own := [("place", 3)]) (g := gName 3) (by rfl) scPicked.nd rfl rfl (sw_true rfl rfl rfl (by decide +kernel)) (pi_tup (pv 1)) (blkOk_by (N := ["program", "part", "rows", "place"]) (sc := defScope sPicked) (by decide +kernel))
      (fun _ _ _ _ _ => pg_name (i := 3) scPicked.nd rfl (Or.inl rfl)) (fun _ _ _ _ _ => pts_nil) (fun _ _ _ _ _ => pe_ix (r := rIxT K) ix_tup (pe_prop (pv 0) c hp G2 (hr.mono (by omega)) b2 .nil pass0 rfl) (pv 3) (fun _ _ => rfl)))
    (pss_one (ps_ret (pe_makeS M GI hr (by rfl) mP pass0 (pv 2)))), ?_⟩
  obtain ⟨av, dx, t0, ys0, rfl, i1, i2, i3⟩ := id hS
  refine ⟨.ref b, rfl, b, rfl, ⟨_, SqT.of hb⟩, fun D hD => ?_⟩
  refine lc_tup (xs := p.map nV) (fun i H1 => Same H H1 ∧ ∃ zs, H1 D = some (.lst zs) ∧ DpAll K H1 zs ((pickL S (p.take i)).map rd)) ⟨same_new hD _, [], upd_same, .nil⟩ (fun i H1 _ hI => SqT.of (hI.1 _ _ hb)) (fun i v H1 hv hI1 => ?_) (fun H1 hI1 => ?_)
  · obtain ⟨sm, zs, hd, hzs⟩ := hI1
    obtain ⟨n, hn, rfl⟩ := map_at hv
    have nl := hlt n (List.mem_of_getElem? hn)
    have il : i < p.length := (List.getElem?_eq_some_iff.mp hn).1
    refine ⟨rfl, .ref av, rfl, av, dx, _, rfl, sm _ _ i1, .ref av, S, rfl, hS.same sm, fun t ys ht hys => ?_⟩
    have yl : ys.length = S.length := by rw [dpAll_len hys, List.length_map]
    have hg : ys[n]? = some ys[n] := List.getElem?_eq_getElem (by omega)
    obtain ⟨dd, hdd, hxd⟩ := dpAll_at' hys hg
    obtain ⟨r, hr0, rfl⟩ := map_at hdd
    have m1 : Mut (H1 D) := by rw [hd]; exact True.intro
    have st := Stay.put m1 (.lst (zs ++ [ys[n]]))
    have pl := pick_len S (p.take i)
    rw [List.length_take] at pl
    refine ⟨nV n, rfl, t, ys, n, ys[n], rfl, rfl, ht, atI_nat (j := n) hg, zs, hd, small_line' (by rw [dpAll_len hzs, List.length_map]; omega), same_put sm hD, zs ++ [ys[n]], upd_same, ?_⟩
    have ep : pickL S (p.take (i + 1)) = pickL S (p.take i) ++ [r] := by
      unfold pickL
      rw [take_snoc hn, List.filterMap_append, List.filterMap_cons, hr0]
      rfl
    rw [ep, List.map_append]
    exact dpAll_app (st.dpAll _ _ (okDs_rd _) hzs) (.cons (st.rd hxd) .nil)
  · obtain ⟨sm, zs, hd, hzs⟩ := hI1
    rw [List.length_map, List.take_length] at hzs
    have pl := pick_len S p
    refine ⟨.ref D, rfl, D, zs, rfl, .inr (SqL.of hd), made_ok hzs (fun r hr => ?_) (by omega) fun H' v' S' s' hS' hl' hv' => q H' v' S' (sm.trans s') hS' hl' hv'⟩
    obtain ⟨n, _, hn⟩ := List.mem_filterMap.mp hr
    exact hI r (List.mem_of_getElem? hn)
end
end Rw
namespace Rw
open PySem PySem.Spec PyProof.Rows L2
/-! ### _taken_worlds -/
abbrev nTaken : List Str := ["program", "free", "names", "found", "table", "world", "row"]
theorem scTaken : FnScope nTaken ["program"] (defScope sTaken) := ⟨rfl, rfl, rfl, by decide +kernel, rfl, by decide +kernel, by decide +kernel⟩
theorem noStop {K : PySem.W.Frag} : NoStop K (fun _ _ _ => False) := fun _ _ _ h => h.elim
theorem okW_nil (ns t : W) : okW ns [] t = true := rfl
theorem every_nil (ns : W) : (everyW ns).filter (okW ns []) = everyW ns := List.filter_eq_self.mpr fun t _ => okW_nil ns t
/-- the worlds over own, each as the pair with itself -/
def diag (own : W) : List PW2 := (everyW own).map fun t => (t, t)
/-- what a rule takes -/
def tkB (r : Rl) (p : PW2) : Bool := unB (·.2) r p || unB (·.1) r p
section
variable {P : Program} {w : World} {K : PySem.W.Frag} {mg : Str → Option Value} {base : Heap} {f : Addr} {fd : FuncData} {k : Nat}
theorem asg_i {t : TE} {i : Nat} {u : TS} {D : Ends} {σ : L2.St} {H : Hp} (h : t σ H fun x H1 => u D (σ.set i (some x)) H1) : tSeq (tAsg t (gName i)) u D σ H := h
theorem make0_ok {C : Addr} {Q : VK} {E : XK} {σ : L2.St} {H : Hp} (q : ∀ H' v S, Same H H' → Srt S [] → S.length < 76 → PgAt K C H' v S → Q v H') : StX.tMakeR C (spInit K C) E tNil σ H Q :=
  made_ok (C := C) (L := []) (Q := Q) .nil (fun _ z => nomatch z) (by decide) q
theorem TabAt.same {CT : Addr} {H H1 : Hp} {v : V} {R : List PW2} (h : TabAt CT H v R) (s : Same H H1) : TabAt CT H1 v R := by
  obtain ⟨a, dx, d1, d2, fs, rfl, hi, l1, l2, l3, l4, m1, m2⟩ := h
  exact ⟨a, dx, d1, d2, fs, rfl, s _ _ hi, l1, l2, l3, l4, m1.go fun u e => s _ _ e, m2.go fun u e => s _ _ e⟩
def spTaken (K : PySem.W.Frag) (C : Addr) : Sp := fun vs H Q _ => ∃ (v : V) (S : List Rl) (bd : W), vs = [v] ∧ PgAt K C H v S ∧ (∀ r ∈ S, IsR r) ∧ S.length < 76 ∧ (∀ z ∈ namesL S, z ∈ bd) ∧ bd.length ≤ 6 ∧
  ∀ H' t l (own : W), Same H H' → IsW own → (∀ z, z ∈ own ↔ z ∈ namesL S) → SqT K H' t [.int (msk (diag own) fun _ => true), .ref l] → SqL K H' l (mks (diag own) (S.map tkB)) → Q (.ref t) H'
theorem ok_taken {C CT fI fT f1 pN fN pR fR fW : Addr} {fd1 fdN fdR fdW : FuncData} (F : Fun K "_taken_worlds" "_taken_worlds" sTaken f fd) (T : Bl mg) (c : Cls K C) (N : NoTab K CT) (hpN : PropOf K C "names" pN fN) (hpR : PropOf K C "rules" pR fR)
    (M : Mk K C fI) (GI : FnR P w K mg base CX0 (k + 2) fI (spInit K C)) (mP : mg "Program" = some (.ref C)) (MT : Mk K CT fT) (GT : FnR P w K mg base CX0 (k + 2) fT (spTabInit K CT)) (mT : mg "Table" = some (.ref CT))
    (GN : FnOk P w K mg base CX0 (k + 2) fN fdN ["self"] (spNames K C)) (bN : Binds K fdN ["self"] []) (GR : FnOk P w K mg base CX0 (k + 2) fR fdR ["self"] (spRules K C)) (bR : Binds K fdR ["self"] [])
    (GW : CFn P w K mg base k fW fdW ["program", "names"] (spWorlds K C)) (bW : Binds K fdW ["program", "names"] []) (kW : PySem.W.keepIn K (.ref fW) = true) (mW : mg "worlds" = some (.ref fW))
    (hA : Meth K CT "against" f1) (GA : FnOk P w K mg base CX0 (k + 3) f1 fd1 ["self", "row"] (spAgainst K CT)) (bA : Binds K fd1 ["self", "row"] []) : FnOk P w K mg base CX0 (k + 4) f fd ["program"] (spTaken K C) := by
  refine F.ok scTaken (fun vs H Q E h => ?_) (fun cdv A outer s H vs Q E hr h => ?_)
  · obtain ⟨v, S, bd, rfl, _⟩ := h
    rfl
  obtain ⟨v, S, bd, rfl, hS, hI, few, hbd, lbd, q⟩ := h
  have hrW : Room k (A.deeper (envOfC "_taken_worlds" (defScope sTaken) s.heap.objs.size f cdv)) := hr.mono (by omega)
  refine ⟨_, pss_cons (ps_set (i := 1) scTaken.nd rfl (.inl rfl) (pe_makeR0 M GI hr (by rfl) mP pass0))
    (pss_cons (ps_set (i := 2) scTaken.nd rfl (.inl rfl) (pe_prop (pv 0) c hpN GN hr bN .nil pass0 rfl))
    (pss_cons (ps_set (i := 3) scTaken.nd rfl (.inl rfl) (pe_listG (pgen_call (gfn_c GW) hrW (by rfl) mW kW bW .nil (pa_cons (pv 1) (pa_cons (pv 2) pa_nil))) passNo noStop hr (by rfl) T.list (by decide +kernel)))
    (pss_cons (ps_set (i := 4) scTaken.nd rfl (.inr rfl) (StX.pe_makeR MT GT hr (by rfl) mT pass0 (pa_cons (pe_lc (own := [("world", 5)]) (g := gName 5) (te := tTup (tCons (tVar 5) (tCons (tVar 5) tNil))) (by rfl) scTaken.nd (pi_list (pv 3)) (blkOk_by (N := nTaken) (sc := defScope sTaken) (by decide +kernel))
        (fun _ _ _ _ _ => pg_name (i := 5) scTaken.nd rfl (Or.inl rfl)) (fun _ _ _ _ _ => pts_nil) (fun _ _ _ _ _ => pe_tup (pa_cons (pv 5) (pa_cons (pv 5) pa_nil)))) pa_nil)))
    (pss_one (ps_ret (pe_tup (pa_cons (pe_fld (pv 4) rfl) (pa_cons (pe_lc (own := [("row", 6)]) (g := gName 6) (by rfl) scTaken.nd (pi_tup (pe_prop (pv 0) c hpR GR hr bR .nil pass0 rfl)) (blkOk_by (N := nTaken) (sc := defScope sTaken) (by decide +kernel))
        (fun _ _ _ _ _ => pg_name (i := 6) scTaken.nd rfl (Or.inl rfl)) (fun _ _ _ _ _ => pts_nil) (fun _ _ _ _ _ => pe_meth (pv 4) N.c hA GA hr bA .nil pass0 (pa_cons (pv 6) pa_nil))) pa_nil)))))))), ?_⟩
  show tSeq (tAsg (StX.tMakeR C (spInit K C) E0 tNil) (gName 1)) _ _ _ _
  refine asg_i (make0_ok fun H1 vf S0 s1 hS0 hl0 hvf => ?_)
  obtain rfl : S0 = [] := List.eq_nil_iff_forall_not_mem.mpr fun r hr => nomatch (hS0.mem r).mp hr
  obtain ⟨av, dx, t0, ys0, rfl, i1, i2, i3⟩ := id hS
  have hS1 := hS.same s1
  refine ⟨.ref av, rfl, av, dx, _, rfl, s1 _ _ i1, .ref av, S, bd, rfl, hS1, hI, hbd, by omega, fun H2 t2 own s2 ht2 hw hm => ?_⟩
  have lo : own.length ≤ 6 := Nat.le_trans (few_own hw hm hbd) lbd
  refine ⟨vf, rfl, .ref t2, rfl, ?_⟩
  show spWorlds K C [vf, .ref t2] _ _ (fun _ _ _ => False)
  refine ⟨vf, .ref t2, [], [], rfl, hvf.same s2, (fun _ z => nomatch z), by decide, (fun _ z => nomatch z), by decide, .inr ⟨own, to_wd ht2, hw, by omega, (fun _ z => nomatch z), fun H3 xs s3 hxs l3 hl3 => ?_⟩⟩
  rw [every_nil] at hxs
  have s4 := same_new hl3 (.lst xs)
  have h4l : (upd H3 l3 (.lst xs)) l3 = some (.lst xs) := upd_same
  have hx4 : TpAll (upd H3 l3 (.lst xs)) xs (everyW own) := hxs.go (Tups.of s4)
  have s14 := s1.trans (s2.trans (s3.trans s4))
  generalize upd H3 l3 (.lst xs) = H4 at s4 h4l hx4 s14
  have xl : xs.length = (everyW own).length := hx4.len
  have el : (everyW own).length ≤ 64 := by
    rw [every_len]
    exact Nat.le_trans (Nat.pow_le_pow_right (by decide) lo) (by decide)
  refine ⟨.ref l3, rfl, l3, rfl, ⟨_, SqL.of h4l⟩, fun D hD => ?_⟩
  refine lc_list (xs := xs) (fun i H5 => Same H4 H5 ∧ ∃ zs, H5 D = some (.lst zs) ∧ zs.length = i ∧ ∀ (j : Nat) (v : V), zs[j]? = some v → ∃ t, (everyW own)[j]? = some t ∧ PrT H5 v (t, t)) ⟨same_new hD _, [], upd_same, rfl, fun j v e => by simp at e⟩ (fun i H5 _ hI => SqL.of (hI.1 _ _ h4l)) (fun i u H5 hu hI5 => ?_) (fun H5 hI5 => ?_)
  · obtain ⟨sm, zs, hd, zl, hz⟩ := hI5
    obtain ⟨t, ht, tp⟩ := hx4.at' hu
    have il : i < xs.length := (List.getElem?_eq_some_iff.mp hu).1
    refine ⟨rfl, u, rfl, u, rfl, by show 2 ≤ sizeLine; decide, fun T0 hT0 => ?_⟩
    have s6 := same_new hT0 (.tup [u, u])
    have hd6 := s6 _ _ hd
    have g6 := Tups.put (o := .lst (zs ++ [.ref T0])) hd6
    have gA := (Tups.of s6).trans g6
    refine ⟨zs, hd6, small_line' (by omega), same_put (sm.trans s6) hD, zs ++ [.ref T0], upd_same, by rw [List.length_append, zl]; rfl, fun j v e => ?_⟩
    by_cases c : j < zs.length
    · rw [List.getElem?_append_left c] at e
      obtain ⟨t', h1, h2⟩ := hz j v e
      exact ⟨t', h1, h2.go gA⟩
    · have ej : j = i := by
        have := (List.getElem?_eq_some_iff.mp e).1
        rw [List.length_append, List.length_singleton] at this
        omega
      subst ej
      rw [List.getElem?_append_right (by omega), zl, Nat.sub_self] at e
      obtain rfl : V.ref T0 = v := Option.some.inj e
      obtain ⟨b', eb, hb'⟩ := tp
      have tp6 : Tp (upd (upd H5 T0 (.tup [u, u])) D (.lst (zs ++ [.ref T0]))) u t := ⟨b', eb, gA _ _ (sm _ _ hb')⟩
      exact ⟨t, ht, T0, u, u, rfl, g6 _ _ upd_same, tp6, tp6⟩
  obtain ⟨s5, zs, hd, zl, hz⟩ := hI5
  intro x2 dx2 hx2 hdx2 ne2
  have s6 := same_new hdx2 (.own x2)
  have hx2' : (upd H5 dx2 (.own x2)) x2 = none := by
    rw [upd_ne ne2.symm]
    exact hx2
  have s7 := same_new hx2' (.ins CT dx2 [])
  have s57 := s6.trans s7
  refine ⟨x2, dx2, D, zs, diag own, rfl, upd_same, s57 _ _ hd, ⟨by unfold diag; rw [zl, List.length_map, xl], fun j v e => ?_⟩, fun p hp => ?_, by unfold diag; rw [List.length_map]; omega, fun H6 keep tab => ⟨rfl, ?_⟩⟩
  · obtain ⟨t, h1, h2⟩ := hz j v e
    exact ⟨(t, t), by unfold diag; rw [List.getElem?_map, h1]; rfl, h2.go (Tups.of s57)⟩
  · unfold diag at hp
    obtain ⟨t, ht, rfl⟩ := List.mem_map.mp hp
    have ts := mem_every.mp ht
    have wt : IsW t := ⟨fun x hx => hw.names x (ts.subset hx), List.Pairwise.sublist ts hw.up, Nat.le_trans ts.length_le hw.few⟩
    have tl := ts.length_le
    exact ⟨wt, wt, by show t.length ≤ 10; omega, by show t.length ≤ 10; omega⟩
  have s16 : Same H H6 := fun b u e => keep b u (fun z => by
    have := s5 _ _ (s14 _ _ e)
    rw [z, hx2] at this
    cases this) (s57 _ _ (s5 _ _ (s14 _ _ e)))
  obtain ⟨a2, dx3, e1, e2, fs, ea2, hi, l1, l2, l3', ⟨l4, l5⟩, m1, m2⟩ := id tab
  cases ea2
  have hS6 := hS.same s16
  refine ⟨.ref x2, rfl, x2, CT, dx3, fs, _, rfl, hi, N.c, N.n1, l1, .ref av, rfl, av, dx, _, rfl, s16 _ _ i1, .ref av, S, rfl, hS6, fun tr yr htr hyr => ?_⟩
  have yl : yr.length = S.length := by rw [dpAll_len hyr, List.length_map]
  refine ⟨tr, rfl, ⟨_, htr⟩, fun D2 hD2 => ?_⟩
  refine lc_tup (xs := yr) (fun i H7 => Same H6 H7 ∧ H7 D2 = some (.lst (mks (diag own) ((S.take i).map tkB)))) ⟨same_new hD2 _, upd_same⟩ (fun i H7 _ hI => same_tup hI.1 htr) (fun i u H7 hu hI7 => ?_) (fun H7 hI7 => ?_)
  · obtain ⟨sm, hd7⟩ := hI7
    obtain ⟨dd, hdd, hud⟩ := dpAll_at' hyr hu
    obtain ⟨r, hr0, rfl⟩ := map_at hdd
    have il : i < S.length := (List.getElem?_eq_some_iff.mp hr0).1
    refine ⟨rfl, .ref x2, rfl, x2, dx3, fs, rfl, sm _ _ hi, l5, u, rfl, ?_⟩
    dsimp only [tNil]
    refine ⟨.ref x2, u, diag own, r, rfl, tab.same sm, dp_same sm _ _ hud, hI r (List.mem_of_getElem? hr0), fun H8 s8 => ?_⟩
    refine ⟨_, s8 _ _ hd7, small_line' (by unfold mks; rw [List.length_map, List.length_map, List.length_take]; omega), same_put (sm.trans s8) hD2, ?_⟩
    rw [upd_same, take_snoc hr0, List.map_append]
    unfold mks
    rw [List.map_append]
    rfl
  · obtain ⟨sm, hd7⟩ := hI7
    rw [yl, List.take_length] at hd7
    refine ⟨by show 2 ≤ sizeLine; decide, fun t9 ht9 => ?_⟩
    have s9 := same_new ht9 (.tup [.int (2 ^ (diag own).length - 1), .ref D2])
    have ee := msk_all (diag own)
    refine q _ t9 D2 own (s16.trans (sm.trans s9)) hw hm ?_ (SqL.of (s9 _ _ hd7))
    rw [← ee]
    exact SqT.of upd_same
end
end Rw
namespace Rw
open PySem PySem.Spec PyProof.Rows L2
/-! ### a + b, a - b of instances of one class, v in a, len(a): by the class's own methods -/
section
variable {X : Cx}
def rBinP (C : Addr) (sp : Sp) (E : XK) : R2 := fun x y H Q => ∃ a dx fs b dy gs, x = .ref a ∧ y = .ref b ∧ H a = some (.ins C dx fs) ∧ H b = some (.ins C dy gs) ∧ sp [x, y] H Q E
theorem op_binP {CX : CXT} {op : Operator} {C g : Addr} {n : Nat} {sp : Sp} {E : XK} (hc : PySem.W.selfFirst X.K C = true) (hs : PySem.W.findIn X.K (.ref C) (PySem.dunder op.info.2) = some (some (.ref g))) (hf : PySem.W.isFn X.K (.ref g) = true) (F : FnR X.prog X.w X.K X.mg X.base CX n g sp) (hr : Room n X.A) (hx : Passes CX X E) :
    OpR X (binaryOp op) (rBinP C sp E) := by
  intro pins s σ H x y v u Q I rx ry h
  obtain ⟨a, dx, fs, b, dy, gs, rfl, rfl, ha, hb, q⟩ := h
  obtain rfl : v = Value.ref a := rx
  obtain rfl : u = Value.ref b := ry
  obtain ⟨mA, J, _⟩ := ins_get I.hok ha
  obtain ⟨mB, J', _⟩ := ins_get I.hok hb
  obtain ⟨od, J, _⟩ := J.look
  obtain ⟨od', J', _⟩ := J'.look
  obtain ⟨m, hF⟩ := I.fr
  refine PySem.W.binop_K hF I.ok.mod.kin J J'.type hc hs hf ?_
  refine wpAny_mono (wpAny_call (run_fnR F hr hx I (vs := [.ref a, .ref b]) (.cons rfl (.cons rfl .nil)) q)) (fun r s' h => ?_) fun e s' h => h
  obtain ⟨z, H', I', r, q⟩ := h
  exact SlX.cmpback r ⟨z, H', I', r, q⟩
/-- v in a: the method tells a bool -/
def rInP (C : Addr) (sp : Sp) (E : XK) : R2 := fun x y H Q => ∃ b dy gs, y = .ref b ∧ H b = some (.ins C dy gs) ∧ sp [y, x] H (fun v H' => ∃ t, v = .bl t ∧ Q (.bl t) H') E
theorem op_inP {CX : CXT} {C g : Addr} {n : Nat} {sp : Sp} {E : XK} (hs : PySem.W.findIn X.K (.ref C) "__contains__" = some (some (.ref g))) (hf : PySem.W.isFn X.K (.ref g) = true) (F : FnR X.prog X.w X.K X.mg X.base CX n g sp) (hr : Room n X.A) (hx : Passes CX X E) :
    OpR X (compareOp .In) (rInP C sp E) := by
  intro pins s σ H x y v u Q I rx ry h
  obtain ⟨b, dy, gs, rfl, hb, q⟩ := h
  obtain rfl : u = Value.ref b := ry
  obtain ⟨mB, J, _⟩ := ins_get I.hok hb
  obtain ⟨od, J, _⟩ := J.look
  obtain ⟨m, hF⟩ := I.fr
  refine PySem.W.in_K hF I.ok.mod.kin J hs hf ?_
  refine wpAny_mono (wpAny_call (run_fnR F hr hx I (vs := [.ref b, x]) (.cons rfl (.cons rx .nil)) q)) (fun r s' h => ?_) fun e s' h => h
  obtain ⟨z, H', I', r, t, rfl, q⟩ := h
  obtain rfl : _ = Value.bool t := r
  exact wpAny_pure ⟨.bl t, H', I', rfl, q⟩
/-- len(a) -/
def rLenP (C : Addr) (sp : Sp) (E : XK) : List V → Hp → VK → Prop := fun xs H Q => ∃ b dy gs, xs = [.ref b] ∧ H b = some (.ins C dy gs) ∧ sp xs H (fun v H' => ∃ i : Int, v = .int i ∧ 0 ≤ i ∧ i < 2 ^ 62 ∧ Q (.int i) H') E
theorem call_lenP {CX : CXT} {C g : Addr} {n : Nat} {sp : Sp} {E : XK} (hs : PySem.W.findIn X.K (.ref C) "__len__" = some (some (.ref g))) (hf : PySem.W.isFn X.K (.ref g) = true) (F : FnR X.prog X.w X.K X.mg X.base CX n g sp) (hr : Room (n + 1) X.A) (hx : Passes CX X E) :
    CallR X (.builtin "len") (rLenP C sp E) := by
  intro pins s σ H xs us Q I r h
  obtain ⟨b, dy, gs, rfl, hb, q⟩ := h
  rw [Vals.ref1 r]
  obtain ⟨mB, J, _⟩ := ins_get I.hok hb
  obtain ⟨od, J, _⟩ := J.look
  obtain ⟨m, hF⟩ := I.fr
  refine PySem.W.len_K hF I.ok.mod.kin J hs hf ?_
  have e0 := I.env0
  have e1 : Env0 X.prog X.w X.K X.mg X.base X.A.in1 X.stack s H := ⟨e0.frames, e0.mod, e0.bs, e0.bsz, e0.funs, e0.frf, e0.hok, e0.bare⟩
  refine wpAny_call (codeAny_mono (F X.A.in1 X.stack s H [.ref b] [.ref b] _ E hr.in1 e1 (.cons rfl .nil) q) fun r s' h => ?_)
  cases r with
  | error e => exact hx pins σ H s e s' I h
  | ok f =>
    cases f with
    | ret v =>
      obtain ⟨z, H', I', r, i, rfl, i0, i1, q⟩ := I.after h
      obtain ⟨t, rfl⟩ := r
      exact ⟨⟨i0, by omega⟩, .int i, H', I'.tok _, ⟨_, rfl⟩, q⟩
    | _ => exact h.elim
end
end Rw
namespace Rw
open PySem PySem.Spec PyProof.Rows L2
/-! ### Program's kind, +, in, len, == -/
theorem scAdd : FnScope ["self", "other", "rows"] ["self", "other"] (defScope sAdd) := ⟨rfl, rfl, rfl, by decide +kernel, rfl, by decide +kernel, by decide +kernel⟩
theorem scContains : FnScope ["self", "thing"] ["self", "thing"] (defScope sContains) := ⟨rfl, rfl, rfl, by decide +kernel, rfl, by decide +kernel, by decide +kernel⟩
theorem scPLen : FnScope ["self"] ["self"] (defScope sPLen) := ⟨rfl, rfl, rfl, by decide +kernel, rfl, by decide +kernel, by decide +kernel⟩
theorem scPEq : FnScope ["self", "other"] ["self", "other"] (defScope sPEq) := ⟨rfl, rfl, rfl, by decide +kernel, rfl, by decide +kernel, by decide +kernel⟩
def rLenK (K : PySem.W.Frag) : List V → Hp → VK → Prop := fun xs H Q => ∃ p ys, xs = [V.ref p] ∧ (SqL K H p ys ∨ SqT K H p ys) ∧ Q (.int ys.length) H
def kindS (S : List Rl) : Str := if S.any (fun r => decide (0 < r.2.1.length)) then ("any" : Str) else if S.any (fun r => decide (1 < r.1.length)) then ("plain" : Str) else ("single" : Str)
theorem catA_w {K : PySem.W.Frag} {H : Hp} {a b : Addr} {xs ys : List V} {Q : VK} (ha : SqT K H a xs) (hb : SqT K H b ys) (hz : xs.length + ys.length ≤ sizeLine) (q : ∀ c H0, Same H H0 → SqT K H0 c (xs ++ ys) → Q (.ref c) H0) : rCatA K (.ref a) (.ref b) H Q := by
  refine ⟨a, b, xs, ys, rfl, rfl, ha, hb, hz, fun e => ?_, fun _ e => ?_, fun _ _ p hp => ?_⟩
  · subst e
    exact q b H (fun _ _ e => e) hb
  · subst e
    exact q a H (fun _ _ e => e) (by rw [List.append_nil]; exact ha)
  · exact q p _ (same_new hp _) (SqT.of upd_same)
theorem ty_ins {K : PySem.W.Frag} {C : Addr} {mg : Str → Option Value} (G : PgC K mg C) {H : Hp} {a dx : Addr} {fs : List (Str × V)} (h : H a = some (.ins C dx fs)) : TyX K H (.ref a) (.ref C) := .base (.ins h G.cls G.cg G.sp G.tk G.mro)
end Rw
namespace Rw
open PySem PySem.Spec PyProof.Rows L2
/-! ### rules as data -/
theorem eqv_rds : ∀ a b : List Rl, PyData.eqvAll (a.map rd) (b.map rd) = decide (a = b)
  | [], [] => by simp [PyData.eqvAll]
  | [], _ :: _ => by simp [PyData.eqvAll]
  | _ :: _, [] => by simp [PyData.eqvAll]
  | x :: a, y :: b => by
    rw [List.map_cons, List.map_cons, PyData.eqvAll, eqv_rds a b, eqv_rd]
    by_cases h : x = y
    · subst h
      by_cases h2 : a = b <;> simp [h2]
    · simp [h]
theorem lay_rdsAll {S : List Rl} (h : ∀ r ∈ S, IsR r) : PyData.canLayAll0 (S.map rd) = true ∧ PyData.depthAll (S.map rd) ≤ 2 := by
  induction S with
  | nil => exact ⟨rfl, Nat.zero_le _⟩
  | cons r S ih =>
    obtain ⟨h1, h2⟩ := List.forall_mem_cons.mp h
    obtain ⟨i1, i2⟩ := ih h2
    have d := depth_rd r
    refine ⟨?_, ?_⟩
    · rw [List.map_cons, PyData.canLayAll0, lay_rd h1, i1]
      rfl
    · rw [List.map_cons, PyData.depthAll]
      omega
theorem shaped_rdT {S : List Rl} (h : ∀ r ∈ S, IsR r) : SeqAt.shaped (.tuple (S.map rd)) = true := by
  obtain ⟨i1, i2⟩ := lay_rdsAll h
  refine shaped_of ?_ ?_
  · rw [PyData.canLay0]
    exact i1
  · rw [PyData.depth]
    omega
section
variable {P : Program} {w : World} {K : PySem.W.Frag} {mg : Str → Option Value} {base : Heap} {f : Addr} {fd : FuncData} {k : Nat}
/-- one + other -/
def spAdd (K : PySem.W.Frag) (C CP : Addr) : Sp := fun vs H Q E => ∃ (x y : V) (S1 : List Rl), vs = [x, y] ∧ PgAt K C H x S1 ∧ (∀ r ∈ S1, IsR r) ∧
  ((∃ S2 : List Rl, PgAt K C H y S2 ∧ (∀ r ∈ S2, IsR r) ∧ S1.length + S2.length < 76 ∧ ∀ H' v S, Same H H' → Srt S (S1 ++ S2) → S.length < 76 → PgAt K C H' v S → Q v H') ∨
   (∃ d, Dp K H y d ∧ ∀ dx, H dx = none → E (.ref CP) (some dx) (upd H dx (.xd [(("thing" : Str), y)]))))
theorem ok_add {C CP fI : Addr} (F : Fun K "__add__" "Program.__add__" sAdd f fd) (T : Bl mg) (G : PgC K mg C) (n : NoAttr K C "_rules") (X : ErrT P w K mg base k "NotAProgram" "thing" CP) (M : Mk K C fI) (GI : FnR P w K mg base CX0 k fI (spInit K C)) : FnOk P w K mg base (L2.CX P w) (k + 2) f fd ["self", "other"] (spAdd K C CP) := by
  obtain ⟨fE, fdE, i1, i2, i3, i4⟩ := X.ex
  refine F.okX scAdd (fun vs H Q E h => ?_) (fun cdv A outer s H vs Q E hr h => ?_)
  · obtain ⟨x, y, S, rfl, _⟩ := h
    rfl
  obtain ⟨x, y, S1, rfl, ⟨a, dx, t, ys, rfl, h1, h2, h3⟩, hI, h⟩ := h
  refine ⟨_, pss_cons (ps_if (pt_not (pt_val (pe_callB call_isi (by rfl) T.isi PyProof.Rows.boot_isinstance (pa_cons (pv 1) (pa_cons (pe_glob (v := .ref C) (by rfl) G.m rfl) pa_nil)))))
      (pss_one (ps_raise rfl (takes_of rfl rfl rfl rfl) (pmk_oex X.oex i1 i2 i3 hr i4 .nil pass0 (by rfl) X.m (pa_cons (pv 1) pa_nil)))) pss_nil)
    (pss_cons (ps_set (i := 2) scAdd.nd rfl (.inl rfl) (pe_op op_catA (pe_fld (pv 0) rfl) (pe_fld (pv 1) rfl)))
    (pss_one (ps_ret (pe_makeS M GI hr (by rfl) G.m pass0 (pv 2))))), ?_⟩
  rcases h with ⟨S2, ⟨b, dy, u, zs, rfl, g1, g2, g3⟩, hI2, few, q⟩ | ⟨d, hd, q⟩
  · refine ⟨.ref b, rfl, .ref b, .ref C, .ref C, .ref C, true, rfl, .own C, ty_ins G g1, G.yes, true, rfl, iteF ?_⟩
    refine ⟨.ref a, rfl, a, C, dx, _, .ref t, rfl, h1, G.cls, n, rfl, .ref b, rfl, b, C, dy, _, .ref u, rfl, g1, G.cls, n, rfl, ?_⟩
    have l1 := dpAll_len h3
    have l2 := dpAll_len g3
    rw [List.length_map] at l1 l2
    refine catA_w h2 g2 (small_line (by omega)) fun c H1 s1 hc => ?_
    have hx : DpAll K H1 (ys ++ zs) ((S1 ++ S2).map rd) := by
      rw [List.map_append]
      exact dps_app12 ((Stay.same s1).dpAll _ _ (okDs_rd S2) g3) ((Stay.same s1).dpAll _ _ (okDs_rd S1) h3)
    have hL : ∀ r ∈ S1 ++ S2, IsR r := fun r hr => (List.mem_append.mp hr).elim (hI r) (hI2 r)
    exact ⟨.ref c, rfl, c, _, rfl, .inl hc, made_ok hx hL (by rw [List.length_append]; exact few) fun H' v S s2 => q H' v S (s1.trans s2)⟩
  · exact ⟨y, rfl, y, .ref C, .type (tyName d), .ref C, false, rfl, .own C, tyx_dp hd, G.odd d, false, rfl, iteT ⟨y, rfl, err_made q⟩⟩
/-- len(one) -/
def spPLen (K : PySem.W.Frag) (C : Addr) : Sp := fun vs H Q _ => ∃ (v : V) (S : List Rl), vs = [v] ∧ PgAt K C H v S ∧ Q (.int (S.length : Nat)) H
theorem ok_pLen {C : Addr} (F : Fun K "__len__" "Program.__len__" sPLen f fd) (T : Bl mg) (c : Cls K C) (n : NoAttr K C "_rules") : FnOk P w K mg base CX0 (k + 1) f fd ["self"] (spPLen K C) := by
  refine F.ok scPLen (fun vs H Q E h => ?_) (fun cdv A outer s H vs Q E hr h => ?_)
  · obtain ⟨v, S, rfl, _⟩ := h
    rfl
  obtain ⟨v, S, rfl, ⟨a, dx, t, ys, rfl, h1, h2, h3⟩, q⟩ := h
  refine ⟨_, pss_one (ps_ret (pe_callB call_len_seq (by rfl) T.len PySem.boot_len (pa_cons (pe_fld (pv 0) rfl) pa_nil))), ?_⟩
  refine ⟨.ref a, rfl, a, C, dx, _, .ref t, rfl, h1, c, n, rfl, t, _, rfl, .inr h2, ?_⟩
  rw [dpAll_len h3, List.length_map]
  exact q
/-- one == other -/
def spPEqG (K : PySem.W.Frag) (C : Addr) : Sp := fun vs H Q _ => ∃ (x y : V) (S1 : List Rl), vs = [x, y] ∧ PgAt K C H x S1 ∧ (∀ r ∈ S1, IsR r) ∧ ((∃ S2, PgAt K C H y S2 ∧ (∀ r ∈ S2, IsR r) ∧ Q (.bl (decide (S1 = S2))) H) ∨ (∃ d, Dp K H y d ∧ Q (.bl false) H))
theorem ok_pEqG {C : Addr} (F : Fun K "__eq__" "Program.__eq__" sPEq f fd) (T : Bl mg) (G : PgC K mg C) (n : NoAttr K C "_rules") : FnOk P w K mg base CX0 (k + 1) f fd ["self", "other"] (spPEqG K C) := by
  refine F.ok scPEq (fun vs H Q E h => ?_) (fun cdv A outer s H vs Q E hr h => ?_)
  · obtain ⟨x, y, S, rfl, _⟩ := h
    rfl
  obtain ⟨x, y, S1, rfl, ⟨a, dx, t, ys, rfl, h1, h2, h3⟩, hI, h⟩ := h
  refine ⟨_, pss_one (ps_ret (pe_and (pe_callB call_isi (by rfl) T.isi PyProof.Rows.boot_isinstance (pa_cons (pv 1) (pa_cons (pe_glob (v := .ref C) (by rfl) G.m rfl) pa_nil))) (pe_one (pe_cmpR (op_eqD hr.units) (pe_fld (pv 0) rfl) (pe_fld (pv 1) rfl) (nomark _))))), ?_⟩
  rcases h with ⟨S2, ⟨b, dy, u, zs, rfl, g1, g2, g3⟩, hI2, q⟩ | ⟨d, hd, q⟩
  · refine ⟨.ref b, rfl, .ref b, .ref C, .ref C, .ref C, true, rfl, .own C, ty_ins G g1, G.yes, true, rfl, iteT ?_⟩
    refine ⟨.ref a, rfl, a, C, dx, _, .ref t, rfl, h1, G.cls, n, rfl, .ref b, rfl, b, C, dy, _, .ref u, rfl, g1, G.cls, n, rfl, ?_⟩
    refine ⟨.tuple (S1.map rd), .tuple (S2.map rd), .tup h2 h3, .tup g2 g3, shaped_rdT hI, shaped_rdT hI2, ?_⟩
    rw [PyData.eqv, eqv_rds]
    exact q
  · exact ⟨y, rfl, y, .ref C, .type (tyName d), .ref C, false, rfl, .own C, tyx_dp hd, G.odd d, false, rfl, iteF q⟩
end
end Rw
namespace Rw
open PySem PySem.Spec PyProof.Rows L2
/-! ### conflicts, cures -/
abbrev nConf : List Str := ["program", "every", "taken", "found", "part", "place"]
abbrev nCures : List Str := ["program", "every", "taken", "found", "part"]
theorem scConflicts : FnScope nConf ["program"] (defScope sConflicts) := ⟨rfl, rfl, rfl, by decide +kernel, rfl, by decide +kernel, by decide +kernel⟩
theorem scCures : FnScope ["program", "every", "taken", "found", "part"] ["program"] (defScope sCures) := ⟨rfl, rfl, rfl, by decide +kernel, rfl, by decide +kernel, by decide +kernel⟩
theorem parts_len9 : ∀ m, m ≤ 8 → (partsN m).length ≤ 256 ∧ ∀ p ∈ partsN m, p.length ≤ 9 := by decide +kernel
def pickT (T : List Prd) (p : List Nat) : List Prd := p.filterMap fun n => T[n]?
theorem ok_rdsY : ∀ S : List Rl, okDs (S.map rd) = true
  | [] => by simp [okDs]
  | r :: S => by
    rw [List.map_cons, okDs, ok_rd, ok_rdsY S]
    rfl
theorem PgAt.putL {K : PySem.W.Frag} {C D : Addr} {H : Hp} {v : V} {S : List Rl} {zs : List V} (h : PgAt K C H v S) (hd : H D = some (.lst zs)) (o : HO) : PgAt K C (upd H D o) v S := by
  obtain ⟨a, dx, t, ys, h1, h2, h3, h4⟩ := h
  have md : Mut (H D) := by
    rw [hd]
    exact True.intro
  have st := Stay.put md o
  have aD : a ≠ D := fun e => by rw [e, hd] at h2; cases h2
  exact ⟨a, dx, t, ys, h1, by rw [upd_ne aD]; exact h2, st.seq h3, st.dpAll _ _ (ok_rdsY S) h4⟩
/-- a list of programs -/
def PgL (K : PySem.W.Frag) (C : Addr) (H : Hp) (l : Addr) (Ls : List (List Rl)) : Prop := ∃ ys, H l = some (.lst ys) ∧ ys.length = Ls.length ∧ ∀ (i : Nat) (v : V), ys[i]? = some v → ∃ L S', Ls[i]? = some L ∧ Srt S' L ∧ S'.length < 76 ∧ PgAt K C H v S'
def confP (own : W) (S : List Rl) : List (List Nat) := (partsN S.length).filter fun p => tjB (diag own) (pickT (S.map tkB) p)
def cureP (own : W) (S : List Rl) : List (List Nat) := (partsN S.length).filter fun p => lcB (diag own) (S.map tkB) p
section
variable {P : Program} {w : World} {K : PySem.W.Frag} {mg : Str → Option Value} {base : Heap} {f : Addr} {fd : FuncData} {k : Nat}
def spConf (K : PySem.W.Frag) (C : Addr) (g : W → List Rl → List (List Nat)) : Sp := fun vs H Q _ => ∃ (v : V) (S : List Rl) (bd : W), vs = [v] ∧ PgAt K C H v S ∧ (∀ r ∈ S, IsR r) ∧ S.length ≤ 8 ∧ (∀ z ∈ namesL S, z ∈ bd) ∧ bd.length ≤ 6 ∧
  ∀ H' l (own : W), Same H H' → H l = none → IsW own → (∀ z, z ∈ own ↔ z ∈ namesL S) → PgL K C H' l ((g own S).map (pickL S)) → Q (.ref l) H'
theorem ok_cures {C CP gL f1 f2 f3 f4 f5 : Addr} {fd1 fd2 fd3 fd4 fd5 : FuncData} (F : Fun K "cures" "cures" sCures f fd) (T : Bl mg)
    (hL : PySem.W.findIn K (.ref C) "__len__" = some (some (.ref gL))) (iL : PySem.W.isFn K (.ref gL) = true) (GL : FnR P w K mg base CX0 k gL (spPLen K C))
    (G1 : FnOk P w K mg base (L2.CX P w) (k + 1) f1 fd1 ["thing"] (spCheckProgram K C CP)) (b1 : Binds K fd1 ["thing"] []) (k1 : PySem.W.keepIn K (.ref f1) = true) (m1 : mg "check_program" = some (.ref f1))
    (G2 : FnOk P w K mg base CX0 (k + 1) f2 fd2 ["program"] (spTaken K C)) (b2 : Binds K fd2 ["program"] []) (k2 : PySem.W.keepIn K (.ref f2) = true) (m2 : mg "_taken_worlds" = some (.ref f2))
    (G3 : FnOk P w K mg base CX0 (k + 1) f3 fd3 ["many"] spParts) (b3 : Binds K fd3 ["many"] []) (k3 : PySem.W.keepIn K (.ref f3) = true) (m3 : mg "_parts" = some (.ref f3))
    (G4 : FnOk P w K mg base CX0 (k + 1) f4 fd4 ["part", "taken", "every"] (spLeastCure K)) (b4 : Binds K fd4 ["part", "taken", "every"] []) (k4 : PySem.W.keepIn K (.ref f4) = true) (m4 : mg "_is_least_cure" = some (.ref f4))
    (G5 : FnOk P w K mg base CX0 (k + 1) f5 fd5 ["program", "part"] (spPicked K C)) (b5 : Binds K fd5 ["program", "part"] []) (k5 : PySem.W.keepIn K (.ref f5) = true) (m5 : mg "_picked" = some (.ref f5)) :
    FnOk P w K mg base CX0 (k + 2) f fd ["program"] (spConf K C cureP) := by
  refine F.ok scCures (fun vs H Q E h => ?_) (fun cdv A outer s H vs Q E hr h => ?_)
  · obtain ⟨v, S, bd, rfl, _⟩ := h
    rfl
  obtain ⟨v, S, bd, rfl, hS, hI, few, hbd, lbd, q⟩ := h
  refine ⟨_, pss_cons (ps_expr (pe_call G1 hr (by rfl) m1 k1 b1 .nil passNo (pa_cons (pv 0) pa_nil)))
    (pss_cons (ps_asg (pe_call G2 hr (by rfl) m2 k2 b2 .nil pass0 (pa_cons (pv 0) pa_nil)) (pg_tup (by rfl) (pgs_cons (pg_name (i := 1) scCures.nd rfl (.inr rfl)) (pgs_cons (pg_name (i := 2) scCures.nd rfl (.inr rfl)) pgs_nil))))
    (pss_cons (ps_setLc (i := 3) (own := [("part", 4)]) (g := gName 4) (by rfl) scCures.nd rfl rfl (sw_true rfl rfl rfl (by decide +kernel)) (pi_list (pe_call G3 hr (by rfl) m3 k3 b3 .nil pass0 (pa_cons (pe_callB (call_lenP hL iL GL hr pass0) (by rfl) T.len PySem.boot_len (pa_cons (pv 0) pa_nil)) pa_nil))) (blkOk_by (N := nCures) (sc := defScope sCures) (by decide +kernel))
        (fun _ _ _ _ _ => pg_name (i := 4) scCures.nd rfl (Or.inl rfl)) (fun _ _ _ _ _ => pts_one (pt_val (pe_call G4 hr (by rfl) m4 k4 b4 .nil pass0 (pa_cons (pv 4) (pa_cons (pv 2) (pa_cons (pv 1) pa_nil)))))) (fun _ _ _ _ _ => pv 4))
    (pss_one (ps_ret (pe_lc (own := [("part", 4)]) (g := gName 4) (by rfl) scCures.nd (pi_list (pv 3)) (blkOk_by (N := nCures) (sc := defScope sCures) (by decide +kernel))
        (fun _ _ _ _ _ => pg_name (i := 4) scCures.nd rfl (Or.inl rfl)) (fun _ _ _ _ _ => pts_nil) (fun _ _ _ _ _ => pe_call G5 hr (by rfl) m5 k5 b5 .nil pass0 (pa_cons (pv 0) (pa_cons (pv 4) pa_nil)))))))), ?_⟩
  refine ⟨v, rfl, v, rfl, .inl ⟨S, hS, ?_⟩⟩
  refine ⟨v, rfl, v, S, bd, rfl, hS, hI, by omega, hbd, lbd, fun H1 t l own s1 hw hm ht hl => ?_⟩
  refine ⟨t, [.int (msk (diag own) fun _ => true), .ref l], rfl, ht, rfl, .int (msk (diag own) fun _ => true), [.ref l], rfl, .ref l, [], rfl, rfl, ?_⟩
  have hS1 := hS.same s1
  obtain ⟨av, dx, t0, ys0, rfl, i1, i2, i3⟩ := id hS1
  refine ⟨.ref av, rfl, av, dx, _, rfl, i1, .ref av, S, rfl, hS1, (S.length : Nat), rfl, by omega, by omega, S.length, rfl, few, fun H2 lp ys s2 _ hlp hys => ?_⟩
  refine ⟨lp, rfl, ⟨_, SqL.of hlp⟩, fun D hD => ?_⟩
  let T := S.map tkB
  have Tl : T.length = S.length := List.length_map _
  have pe := (parts_len9 _ few).1
  have yl := hys.len
  have ptl : ∀ p ∈ partsN S.length, ∀ n ∈ p, n < T.length := fun p hp n hn => by rw [Tl]; exact parts_lt _ few p hp n hn
  refine lc_list (xs := ys) (fun i H3 => Same H2 H3 ∧ ∃ zs, H3 D = some (.lst zs) ∧ zs.length ≤ i ∧ NtAll H3 zs (((partsN S.length).take i).filter fun p => lcB (diag own) T p)) ⟨same_new hD _, [], upd_same, Nat.le_refl _, .nil⟩ (fun i H3 _ h => SqL.of (h.1 _ _ hlp)) (fun i x H3 hx h => ?_) (fun H3 h => ?_)
  · obtain ⟨s3, zs, hd, zl, hz⟩ := h
    obtain ⟨p, hp, hxp⟩ := hys.at' hx
    obtain ⟨b, rfl, hb⟩ := hxp
    have hb3 := s3 _ _ hb
    have pm := List.mem_of_getElem? hp
    have ft : ((partsN S.length).take (i + 1)).filter (fun p => lcB (diag own) T p) = ((partsN S.length).take i).filter (fun p => lcB (diag own) T p) ++ (if lcB (diag own) T p = true then [p] else []) := filt_take hp
    have pl8 : p.length ≤ 9 := by
      have := (parts_len9 _ few).2 p pm
      omega
    refine ⟨rfl, .ref b, rfl, .ref l, rfl, .int (msk (diag own) fun _ => true), rfl, b, l, diag own, T, p, rfl, SqT.of hb3, (s2.trans s3).seq hl, by omega, by omega, ptl p pm, fun H4 s4 => ?_⟩
    have hd4 := s4 _ _ hd
    have il : i < ys.length := (List.getElem?_eq_some_iff.mp hx).1
    have g4 := Tups.put (o := .lst (zs ++ [.ref b])) hd4
    refine ⟨_, rfl, ite2 (fun e => ?_) (fun e => ?_)⟩
    · refine ⟨.ref b, rfl, zs, hd4, small_line' (by omega), same_put (s3.trans s4) hD, zs ++ [.ref b], upd_same, by rw [List.length_append, List.length_singleton]; omega, ?_⟩
      rw [ft, if_pos e]
      exact NtAll.app (.cons ⟨b, rfl, g4 _ _ (s4 _ _ hb3)⟩ .nil) (hz.go ((Tups.of s4).trans g4))
    · refine ⟨s3.trans s4, zs, hd4, by omega, ?_⟩
      rw [ft, if_neg e, List.append_nil]
      exact hz.go (Tups.of s4)
  obtain ⟨s3, zs, hd, zl, hz⟩ := h
  rw [List.take_of_length_le (by rw [hys.len]; exact Nat.le_refl _)] at hz
  have hz : NtAll H3 zs (cureP own S) := hz
  have sA : Same H H3 := s1.trans (s2.trans s3)
  refine ⟨.ref D, rfl, D, rfl, ⟨_, SqL.of hd⟩, fun D2 hD2 => ?_⟩
  refine lc_list (xs := zs) (fun i H4 => Same H3 H4 ∧ ∃ us, H4 D2 = some (.lst us) ∧ us.length = i ∧ ∀ (j : Nat) (v : V), us[j]? = some v → ∃ L S', ((cureP own S).map (pickL S))[j]? = some L ∧ Srt S' L ∧ S'.length < 76 ∧ PgAt K C H4 v S') ⟨same_new hD2 _, [], upd_same, rfl, fun j v e => by simp at e⟩ (fun i H4 _ h => SqL.of (h.1 _ _ hd)) (fun i x H4 hx h => ?_) (fun H4 h => ?_)
  · obtain ⟨s4, us, hu, ul, hus⟩ := h
    obtain ⟨p, hp, b, rfl, hb⟩ := hz.at' hx
    have il : i < zs.length := (List.getElem?_eq_some_iff.mp hx).1
    have pm : p ∈ partsN S.length := (List.mem_filter.mp (List.mem_of_getElem? hp)).1
    refine ⟨rfl, .ref av, rfl, .ref b, rfl, .ref av, .ref b, S, p, rfl, hS1.same (s2.trans (s3.trans s4)), hI, ⟨b, rfl, s4 _ _ hb⟩, fun n hn => parts_lt _ few p pm n hn, by have := (parts_len9 _ few).2 p pm; omega, fun H5 v' S' s5 hsr sl hv => ?_⟩
    have hu5 := s5 _ _ hu
    refine ⟨us, hu5, small_line' (by omega), same_put (s4.trans s5) hD2, us ++ [v'], upd_same, by rw [List.length_append, ul]; rfl, fun j v e => ?_⟩
    by_cases c : j < us.length
    · rw [List.getElem?_append_left c] at e
      obtain ⟨L, S2, a1, a2, a3, a4⟩ := hus j v e
      exact ⟨L, S2, a1, a2, a3, (a4.same s5).putL hu5 _⟩
    · have ej : j = i := by
        have := (List.getElem?_eq_some_iff.mp e).1
        rw [List.length_append, List.length_singleton] at this
        omega
      subst ej
      rw [← ul, List.getElem?_append_right (Nat.le_refl _), Nat.sub_self] at e
      obtain rfl := Option.some.inj e
      exact ⟨_, S', by rw [List.getElem?_map, hp]; rfl, hsr, sl, hv.putL hu5 _⟩
  obtain ⟨s4, us, hu, ul, hus⟩ := h
  have nD : H D2 = none := by
    cases e : H D2 with
    | none => rfl
    | some o => rw [sA _ _ e] at hD2; cases hD2
  exact q H4 D2 own (sA.trans s4) nD hw hm ⟨us, hu, by rw [ul, hz.len, List.length_map], hus⟩
end
end Rw
namespace Rw
open PySem PySem.Spec PyProof.Rows L2
/-! ### conflicts -/
section
variable {P : Program} {w : World} {K : PySem.W.Frag} {mg : Str → Option Value} {base : Heap} {f : Addr} {fd : FuncData} {k : Nat}
def scCf : Scope := ⟨.function, [(".0", .local), ("part", .local), ("_takes_just", .globalImplicit), ("every", .cell), ("taken", .cell)], false, false, []⟩
theorem ok_conflicts {C CP gL f1 f2 f3 f4 f5 : Addr} {fd1 fd2 fd3 fd4 fd5 : FuncData} (F : Fun K "conflicts" "conflicts" sConflicts f fd) (T : Bl mg)
    (hL : PySem.W.findIn K (.ref C) "__len__" = some (some (.ref gL))) (iL : PySem.W.isFn K (.ref gL) = true) (GL : FnR P w K mg base CX0 k gL (spPLen K C))
    (G1 : FnOk P w K mg base (L2.CX P w) (k + 1) f1 fd1 ["thing"] (spCheckProgram K C CP)) (b1 : Binds K fd1 ["thing"] []) (k1 : PySem.W.keepIn K (.ref f1) = true) (m1 : mg "check_program" = some (.ref f1))
    (G2 : FnOk P w K mg base CX0 (k + 1) f2 fd2 ["program"] (spTaken K C)) (b2 : Binds K fd2 ["program"] []) (k2 : PySem.W.keepIn K (.ref f2) = true) (m2 : mg "_taken_worlds" = some (.ref f2))
    (G3 : FnOk P w K mg base CX0 (k + 1) f3 fd3 ["many"] spParts) (b3 : Binds K fd3 ["many"] []) (k3 : PySem.W.keepIn K (.ref f3) = true) (m3 : mg "_parts" = some (.ref f3))
    (G4 : FnOk P w K mg base CX0 (k + 1) f4 fd4 ["taken", "wanted"] (spTakesJust K)) (b4 : Binds K fd4 ["taken", "wanted"] []) (k4 : PySem.W.keepIn K (.ref f4) = true) (m4 : mg "_takes_just" = some (.ref f4))
    (G5 : FnOk P w K mg base CX0 (k + 1) f5 fd5 ["program", "part"] (spPicked K C)) (b5 : Binds K fd5 ["program", "part"] []) (k5 : PySem.W.keepIn K (.ref f5) = true) (m5 : mg "_picked" = some (.ref f5)) :
    FnOk P w K mg base CX0 (k + 2) f fd ["program"] (spConf K C confP) := by
  refine F.ok scConflicts (fun vs H Q E h => ?_) (fun cdv A outer s H vs Q E hr h => ?_)
  · obtain ⟨v, S, bd, rfl, _⟩ := h
    rfl
  obtain ⟨v, S, bd, rfl, hS, hI, few, hbd, lbd, q⟩ := h
  refine ⟨_, pss_cons (ps_expr (pe_call G1 hr (by rfl) m1 k1 b1 .nil passNo (pa_cons (pv 0) pa_nil)))
    (pss_cons (ps_asg (pe_call G2 hr (by rfl) m2 k2 b2 .nil pass0 (pa_cons (pv 0) pa_nil)) (pg_tup (by rfl) (pgs_cons (pg_name (i := 1) scConflicts.nd rfl (.inr rfl)) (pgs_cons (pg_name (i := 2) scConflicts.nd rfl (.inr rfl)) pgs_nil))))
    (pss_cons (ps_setLc (i := 3) (own := [("part", 4)]) (g := gName 4) (by rfl) scConflicts.nd rfl rfl (sw_true rfl rfl rfl (by decide +kernel)) (pi_list (pe_call G3 hr (by rfl) m3 k3 b3 .nil pass0 (pa_cons (pe_callB (call_lenP hL iL GL hr pass0) (by rfl) T.len PySem.boot_len (pa_cons (pv 0) pa_nil)) pa_nil))) (blkOk_by (N := nConf) (sc := defScope sConflicts) (by decide +kernel))
        (fun _ _ _ _ _ => pg_name (i := 4) scConflicts.nd rfl (Or.inl rfl)) (fun _ _ _ _ _ => pts_one (pt_val (pe_call G4 hr (by rfl) m4 k4 b4 .nil pass0 (pa_cons (pe_lc (own := [("place", 5)]) (wi := iTup K (tVar 4)) (tt := tYes) (g := gName 5) (te := tOp (rIxL K) (tVar 2) (tVar 5)) (by rfl) scConflicts.nd (pi_tup (pv 4)) (blkOk_by (N := nConf) (sc := scCf) (by decide +kernel))
          (fun _ _ _ _ _ => pg_name (i := 5) scConflicts.nd rfl (Or.inl rfl)) (fun _ _ _ _ _ => pts_nil) (fun _ _ _ _ _ => pe_ix (r := rIxL K) ix_list (pv 2) (pv 5) (fun _ _ => rfl))) (pa_cons (pv 1) pa_nil))))) (fun _ _ _ _ _ => pv 4))
    (pss_one (ps_ret (pe_lc (own := [("part", 4)]) (g := gName 4) (by rfl) scConflicts.nd (pi_list (pv 3)) (blkOk_by (N := nConf) (sc := defScope sConflicts) (by decide +kernel))
        (fun _ _ _ _ _ => pg_name (i := 4) scConflicts.nd rfl (Or.inl rfl)) (fun _ _ _ _ _ => pts_nil) (fun _ _ _ _ _ => pe_call G5 hr (by rfl) m5 k5 b5 .nil pass0 (pa_cons (pv 0) (pa_cons (pv 4) pa_nil)))))))), ?_⟩
  refine ⟨v, rfl, v, rfl, .inl ⟨S, hS, ?_⟩⟩
  refine ⟨v, rfl, v, S, bd, rfl, hS, hI, by omega, hbd, lbd, fun H1 t l own s1 hw hm ht hl => ?_⟩
  refine ⟨t, [.int (msk (diag own) fun _ => true), .ref l], rfl, ht, rfl, .int (msk (diag own) fun _ => true), [.ref l], rfl, .ref l, [], rfl, rfl, ?_⟩
  have hS1 := hS.same s1
  obtain ⟨av, dx, t0, ys0, rfl, i1, i2, i3⟩ := id hS1
  refine ⟨.ref av, rfl, av, dx, _, rfl, i1, .ref av, S, rfl, hS1, (S.length : Nat), rfl, by omega, by omega, S.length, rfl, few, fun H2 lp ys s2 _ hlp hys => ?_⟩
  refine ⟨lp, rfl, ⟨_, SqL.of hlp⟩, fun D hD => ?_⟩
  let T := S.map tkB
  have Tl : T.length = S.length := List.length_map _
  have pe := (parts_len9 _ few).1
  have yl := hys.len
  have ptl : ∀ p ∈ partsN S.length, ∀ n ∈ p, n < T.length := fun p hp n hn => by rw [Tl]; exact parts_lt _ few p hp n hn
  refine lc_list (xs := ys) (fun i H3 => Same H2 H3 ∧ ∃ zs, H3 D = some (.lst zs) ∧ zs.length ≤ i ∧ NtAll H3 zs (((partsN S.length).take i).filter fun p => tjB (diag own) (pickT T p))) ⟨same_new hD _, [], upd_same, Nat.le_refl _, .nil⟩ (fun i H3 _ h => SqL.of (h.1 _ _ hlp)) (fun i x H3 hx h => ?_) (fun H3 h => ?_)
  · obtain ⟨s3, zs, hd, zl, hz⟩ := h
    obtain ⟨p, hp, hxp⟩ := hys.at' hx
    obtain ⟨b, rfl, hb⟩ := hxp
    have hb3 := s3 _ _ hb
    have pm := List.mem_of_getElem? hp
    have ft : ((partsN S.length).take (i + 1)).filter (fun p => tjB (diag own) (pickT T p)) = ((partsN S.length).take i).filter (fun p => tjB (diag own) (pickT T p)) ++ (if tjB (diag own) (pickT T p) = true then [p] else []) := filt_take hp
    have pl8 : p.length ≤ 9 := by
      have := (parts_len9 _ few).2 p pm
      omega
    refine ⟨rfl, .ref b, rfl, b, rfl, ⟨_, SqT.of hb3⟩, fun D2 hD2 => ?_⟩
    refine lc_tup (xs := p.map nV) (fun j H4 => Same H3 H4 ∧ H4 D2 = some (.lst (mks (diag own) (pickT T (p.take j))))) ⟨same_new hD2 _, upd_same⟩ (fun j H4 _ h => SqT.of (h.1 _ _ hb3)) (fun j v H4 hv h => ?_) (fun H4' h => ?_)
    · obtain ⟨s4, hd4⟩ := h
      obtain ⟨n, hn, rfl⟩ := map_at hv
      have nl := ptl p pm n (List.mem_of_getElem? hn)
      have jl : j < p.length := (List.getElem?_eq_some_iff.mp hn).1
      obtain ⟨t', ht'⟩ : ∃ t', T[n]? = some t' := ⟨_, List.getElem?_eq_getElem nl⟩
      have hg : (mks (diag own) T)[n]? = some (V.int (msk (diag own) t')) := by
        unfold mks
        rw [List.getElem?_map, ht']
        rfl
      have ps : pickT T (p.take (j + 1)) = pickT T (p.take j) ++ [t'] := by
        unfold pickT
        rw [take_snoc hn, List.filterMap_append]
        simp [ht']
      have lj : (pickT T (p.take j)).length ≤ p.length := by
        unfold pickT
        refine Nat.le_trans (List.length_filterMap_le _ _) ?_
        rw [List.length_take]
        omega
      refine ⟨rfl, .ref l, rfl, nV n, rfl, l, _, n, _, rfl, rfl, (s2.trans (s3.trans s4)).seq hl, atI_nat (j := n) hg, _, hd4, small_line' (by unfold mks; rw [List.length_map]; omega), same_put s4 hD2, ?_⟩
      rw [upd_same, ps]
      unfold mks
      rw [List.map_append]
      rfl
    obtain ⟨s4', hd4'⟩ := h
    rw [List.length_map, List.take_length] at hd4'
    have lj : (pickT T p).length ≤ p.length := List.length_filterMap_le _ _
    refine ⟨.int (msk (diag own) fun _ => true), rfl, D2, diag own, pickT T p, rfl, SqL.of hd4', by omega, fun H4 s4'' => ?_⟩
    have s4 := s4'.trans s4''
    have hd4 := s4 _ _ hd
    have il : i < ys.length := (List.getElem?_eq_some_iff.mp hx).1
    have g4 := Tups.put (o := .lst (zs ++ [.ref b])) hd4
    refine ⟨_, rfl, ite2 (fun e => ?_) (fun e => ?_)⟩
    · refine ⟨.ref b, rfl, zs, hd4, small_line' (by omega), same_put (s3.trans s4) hD, zs ++ [.ref b], upd_same, by rw [List.length_append, List.length_singleton]; omega, ?_⟩
      rw [ft, if_pos e]
      exact NtAll.app (.cons ⟨b, rfl, g4 _ _ (s4 _ _ hb3)⟩ .nil) (hz.go ((Tups.of s4).trans g4))
    · refine ⟨s3.trans s4, zs, hd4, by omega, ?_⟩
      rw [ft, if_neg e, List.append_nil]
      exact hz.go (Tups.of s4)
  obtain ⟨s3, zs, hd, zl, hz⟩ := h
  rw [List.take_of_length_le (by rw [hys.len]; exact Nat.le_refl _)] at hz
  have hz : NtAll H3 zs (confP own S) := hz
  have sA : Same H H3 := s1.trans (s2.trans s3)
  refine ⟨.ref D, rfl, D, rfl, ⟨_, SqL.of hd⟩, fun D2 hD2 => ?_⟩
  refine lc_list (xs := zs) (fun i H4 => Same H3 H4 ∧ ∃ us, H4 D2 = some (.lst us) ∧ us.length = i ∧ ∀ (j : Nat) (v : V), us[j]? = some v → ∃ L S', ((confP own S).map (pickL S))[j]? = some L ∧ Srt S' L ∧ S'.length < 76 ∧ PgAt K C H4 v S') ⟨same_new hD2 _, [], upd_same, rfl, fun j v e => by simp at e⟩ (fun i H4 _ h => SqL.of (h.1 _ _ hd)) (fun i x H4 hx h => ?_) (fun H4 h => ?_)
  · obtain ⟨s4, us, hu, ul, hus⟩ := h
    obtain ⟨p, hp, b, rfl, hb⟩ := hz.at' hx
    have il : i < zs.length := (List.getElem?_eq_some_iff.mp hx).1
    have pm : p ∈ partsN S.length := (List.mem_filter.mp (List.mem_of_getElem? hp)).1
    refine ⟨rfl, .ref av, rfl, .ref b, rfl, .ref av, .ref b, S, p, rfl, hS1.same (s2.trans (s3.trans s4)), hI, ⟨b, rfl, s4 _ _ hb⟩, fun n hn => parts_lt _ few p pm n hn, by have := (parts_len9 _ few).2 p pm; omega, fun H5 v' S' s5 hsr sl hv => ?_⟩
    have hu5 := s5 _ _ hu
    refine ⟨us, hu5, small_line' (by omega), same_put (s4.trans s5) hD2, us ++ [v'], upd_same, by rw [List.length_append, ul]; rfl, fun j v e => ?_⟩
    by_cases c : j < us.length
    · rw [List.getElem?_append_left c] at e
      obtain ⟨L, S2, a1, a2, a3, a4⟩ := hus j v e
      exact ⟨L, S2, a1, a2, a3, (a4.same s5).putL hu5 _⟩
    · have ej : j = i := by
        have := (List.getElem?_eq_some_iff.mp e).1
        rw [List.length_append, List.length_singleton] at this
        omega
      subst ej
      rw [← ul, List.getElem?_append_right (Nat.le_refl _), Nat.sub_self] at e
      obtain rfl := Option.some.inj e
      exact ⟨_, S', by rw [List.getElem?_map, hp]; rfl, hsr, sl, hv.putL hu5 _⟩
  obtain ⟨s4, us, hu, ul, hus⟩ := h
  have nD : H D2 = none := by
    cases e : H D2 with
    | none => rfl
    | some o => rw [sA _ _ e] at hD2; cases hD2
  exact q H4 D2 own (sA.trans s4) nD hw hm ⟨us, hu, by rw [ul, hz.len, List.length_map], hus⟩
end
end Rw
namespace Rw
open PySem PySem.Spec PyProof.Rows L2
/-! ### the law's own defs: numbers -/
theorem scLawAt : FnScope ["script", "k"] ["script", "k"] (defScope sLawAt) := ⟨rfl, rfl, rfl, by decide +kernel, rfl, by decide +kernel, by decide +kernel⟩
theorem scLawMixed : FnScope ["cell", "k", "number"] ["cell", "k"] (defScope sLawMixed) := ⟨rfl, rfl, rfl, by decide +kernel, rfl, by decide +kernel, by decide +kernel⟩
theorem scLawPurse : FnScope ["script", "at", "cell"] ["script", "at"] (defScope sLawPurse) := ⟨rfl, rfl, rfl, by decide +kernel, rfl, by decide +kernel, by decide +kernel⟩
theorem scLawDraw : FnScope ["purse", "out_of", "drawn", "number", "k"] ["purse", "out_of"] (defScope sLawDraw) := ⟨rfl, rfl, rfl, by decide +kernel, rfl, by decide +kernel, by decide +kernel⟩
theorem bits_small {n : Int} (h0 : 1 ≤ n) (h1 : n ≤ 1000) : (Builtin.Int.intBits n : Nat) < 30 := by
  have h : Builtin.Int.intBits n ≤ 29 := PySem.intBits_le_iff.mpr (by omega)
  omega
section
variable {P : Program} {w : World} {K : PySem.W.Frag} {mg : Str → Option Value} {base : Heap} {f : Addr} {fd : FuncData} {k : Nat}
def spLawAt (K : PySem.W.Frag) : Sp := fun vs H Q _ => ∃ (a : Addr) (ns : List Int) (j : Nat), vs = [.ref a, .int j] ∧ SqL K H a (ns.map V.int) ∧ ns.length ≤ 63 ∧ ∀ r, Q (.int r) H
theorem ok_lawAt (F : Fun K "_law_at" "_law_at" sLawAt f fd) (T : Bl mg) : FnOk P w K mg base CX0 (k + 1) f fd ["script", "k"] (spLawAt K) := by
  refine F.ok scLawAt (fun vs H Q E h => ?_) (fun cdv A outer s H vs Q E hr h => ?_)
  · obtain ⟨a, ns, j, rfl, _⟩ := h
    rfl
  obtain ⟨a, ns, j, rfl, hS, hl, q⟩ := h
  refine ⟨_, pss_cons (ps_if (pt_cmpR op_lt (pv 1) (pe_callB call_len_seq (by rfl) T.len PySem.boot_len (pa_cons (pv 0) pa_nil)) (nomark _)) (pss_one (ps_ret (pe_ix ix_list (pv 0) (pv 1) (fun _ _ => rfl)))) pss_nil) (pss_one (ps_ret pe_int)), ?_⟩
  refine ⟨.int j, rfl, .ref a, rfl, a, _, rfl, .inl hS, j, _, rfl, rfl, _, rfl, ite2 (fun e => ?_) (fun _ => ?_)⟩
  · have hlt : j < (ns.map V.int).length := by
      have := of_decide_eq_true e
      omega
    have hlt' : j < ns.length := by rwa [List.length_map] at hlt
    refine ⟨.ref a, rfl, .int j, rfl, a, _, j, .int ns[j], rfl, rfl, hS, atI_nat (j := j) ?_, q _⟩
    rw [List.getElem?_map, List.getElem?_eq_getElem hlt']
    rfl
  · exact q _
def spLawMixed : Sp := fun vs H Q _ => ∃ c k : Int, vs = [.int c, .int k] ∧ 0 ≤ c ∧ c < 2147483647 ∧ 0 ≤ k ∧ k ≤ 2000000 ∧ ∀ r, 0 ≤ r → Q (.int r) H
theorem ok_lawMixed (F : Fun K "_law_mixed" "_law_mixed" sLawMixed f fd) (T : Bl mg) : FnOk P w K mg base CX0 (k + 1) f fd ["cell", "k"] spLawMixed := by
  refine F.ok scLawMixed (fun vs H Q E h => ?_) (fun cdv A outer s H vs Q E hr h => ?_)
  · obtain ⟨c, k, rfl, _⟩ := h
    rfl
  obtain ⟨c, k, rfl, c0, c1, k0, k1, q⟩ := h
  refine ⟨_, pss_cons (ps_set (i := 2) scLawMixed.nd rfl (.inl rfl) (pe_op op_mod (pe_callTy call_int1 (by rfl) T.int (by decide +kernel) (pa_cons (pe_op op_add (pe_op op_add (pe_op op_add (pe_op op_mul (pv 0) pe_int) (pe_op op_mul (pe_op op_mul pe_int (pv 1)) (pv 1))) (pv 1)) pe_int) pa_nil)) pe_int))
    (pss_cons (ps_set (i := 2) scLawMixed.nd rfl (.inl rfl) (pe_op op_mod (pe_callTy call_int1 (by rfl) T.int (by decide +kernel) (pa_cons (pe_op op_add (pe_op op_mul (pv 2) (pv 2)) pe_int) pa_nil)) pe_int))
    (pss_one (ps_ret (pe_op op_mod (pe_callTy call_int1 (by rfl) T.int (by decide +kernel) (pa_cons (pe_op op_mul (pv 2) pe_int) pa_nil)) pe_int)))), ?_⟩
  refine ⟨.int c, rfl, c, _, rfl, rfl, .inl ⟨by omega, by omega⟩, .int k, rfl, _, k, rfl, rfl, .inl ⟨by decide, by decide⟩, .int k, rfl, _, k, rfl, rfl, .inl ⟨by omega, by omega⟩, ?_⟩
  refine ⟨_, _, rfl, rfl, .int k, rfl, _, k, rfl, rfl, _, _, rfl, rfl, .inl ⟨_, rfl, _, _, rfl, rfl, by show (0 : Int) < 2147483647; decide, ?_⟩⟩
  refine ⟨_, rfl, _, rfl, _, _, rfl, rfl, .inl (b64 (Int.emod_nonneg _ (by decide)) (Int.emod_lt_of_pos _ (by decide))), _, _, rfl, rfl, .inl ⟨_, rfl, _, _, rfl, rfl, by show (0 : Int) < 2147483629; decide, ?_⟩⟩
  refine ⟨_, rfl, _, _, rfl, rfl, .inl (b64 (Int.emod_nonneg _ (by decide)) (Int.lt_trans (Int.emod_lt_of_pos _ (by decide)) (by decide))), .inl ⟨_, rfl, _, _, rfl, rfl, by show (0 : Int) < 2147483587; decide, q _ (Int.emod_nonneg _ (by decide))⟩⟩
def spLawPurse (K : PySem.W.Frag) : Sp := fun vs H Q _ => ∃ (a : Addr) (ns : List Int) (j : Nat), vs = [.ref a, .int j] ∧ SqL K H a (ns.map V.int) ∧ ns.length ≤ 63 ∧ j ≤ 100 ∧ ∀ H' p, Same H H' → H p = none → Pur H' p 100000 → Q (.ref p) H'
theorem ok_lawPurse {f1 : Addr} {fd1 : FuncData} (F : Fun K "_law_purse" "_law_purse" sLawPurse f fd) (T : Bl mg) (G1 : FnOk P w K mg base CX0 k f1 fd1 ["script", "k"] (spLawAt K)) (b1 : Binds K fd1 ["script", "k"] []) (k1 : PySem.W.keepIn K (.ref f1) = true) (m1 : mg "_law_at" = some (.ref f1)) :
    FnOk P w K mg base CX0 (k + 1) f fd ["script", "at"] (spLawPurse K) := by
  refine F.ok scLawPurse (fun vs H Q E h => ?_) (fun cdv A outer s H vs Q E hr h => ?_)
  · obtain ⟨a, ns, j, rfl, _⟩ := h
    rfl
  obtain ⟨a, ns, j, rfl, hS, hl, hj, q⟩ := h
  refine ⟨_, pss_cons (ps_set (i := 2) scLawPurse.nd rfl (.inl rfl) (pe_call G1 hr (by rfl) m1 k1 b1 .nil pass0 (pa_cons (pv 0) (pa_cons (pv 1) pa_nil))))
    (pss_one (ps_ret (pe_lst (pa_cons (pe_op op_mod (pe_callTy call_int1 (by rfl) T.int (by decide +kernel) (pa_cons (pe_callB (call_max2 rfl) (by rfl) T.max (by decide +kernel) (pa_cons (pe_op op_sub (pv 2) (pe_op op_pow pe_int pe_int)) (pa_cons pe_int pa_nil))) pa_nil)) (pe_op op_powB (pe_op op_pow pe_int pe_int) pe_int))
      (pa_cons (pe_op op_mod (pe_callTy call_int1 (by rfl) T.int (by decide +kernel) (pa_cons (pv 2) pa_nil)) pe_int) (pa_cons (pe_op op_mul pe_int (pv 1)) pa_nil)))))), ?_⟩
  refine ⟨.ref a, rfl, .int j, rfl, a, ns, j, rfl, hS, hl, fun c => ?_⟩
  refine ⟨.int c, rfl, _, _, rfl, rfl, ⟨by decide, by decide, by decide⟩, _, _, rfl, rfl, _, _, rfl, .inl ⟨_, rfl, _, _, rfl, rfl, ⟨by decide, by decide, by decide⟩, _, _, rfl, rfl, ⟨by decide, by decide +kernel⟩, _, _, rfl, rfl, by show (0 : Int) < (10 ^ Int.toNat 60) ^ Int.toNat 10; decide +kernel, ?_⟩⟩
  refine ⟨.int c, rfl, .inl ⟨_, rfl, _, _, rfl, rfl, by show (0 : Int) < 2147483647; decide, .int j, rfl, _, _, rfl, rfl, .inl ⟨by decide, by decide⟩, by show 3 ≤ sizeLine; decide, fun p hp => ?_⟩⟩
  refine q _ p (same_new hp _) hp ⟨_, _, _, upd_same, Int.emod_nonneg _ (by decide +kernel), Int.emod_nonneg _ (by decide), Int.emod_lt_of_pos _ (by decide), ?_, ?_⟩
  · show (0 : Int) ≤ 1000 * (j : Int)
    omega
  · show 1000 * (j : Int) ≤ 100000
    omega
def spLawDraw : Sp := fun vs H Q _ => ∃ (p : Addr) (n c : Int), vs = [.ref p, .int n] ∧ Pur H p c ∧ c ≤ 1000000 ∧ 1 ≤ n ∧ n ≤ 1000 ∧ ∀ r us, 0 ≤ r → r < n → Pur (upd H p (.lst us)) p (c + 1) → Q (.int r) (upd H p (.lst us))
theorem ok_lawDraw {f1 : Addr} {fd1 : FuncData} (F : Fun K "_law_draw" "_law_draw" sLawDraw f fd) (T : Bl mg) (G1 : FnOk P w K mg base CX0 k f1 fd1 ["cell", "k"] spLawMixed) (b1 : Binds K fd1 ["cell", "k"] []) (k1 : PySem.W.keepIn K (.ref f1) = true) (m1 : mg "_law_mixed" = some (.ref f1)) :
    FnOk P w K mg base CX0 (k + 1) f fd ["purse", "out_of"] spLawDraw := by
  refine F.ok scLawDraw (fun vs H Q E h => ?_) (fun cdv A outer s H vs Q E hr h => ?_)
  · obtain ⟨p, n, c, rfl, _⟩ := h
    rfl
  obtain ⟨p, n, c, rfl, ⟨a, b, e, hp, a0, b0, b1', e0, e1⟩, c1, n0, n1, q⟩ := h
  refine ⟨_, pss_cons (ps_if (pt_cmpR op_gt (pe_ix ix_list (pv 0) pe_int (fun _ _ => rfl)) pe_int (nomark _))
      (pss_cons (ps_set (i := 2) scLawDraw.nd rfl (.inl rfl) (pe_op op_mod (pe_callTy call_int1 (by rfl) T.int (by decide +kernel) (pa_cons (pe_ix ix_list (pv 0) pe_int (fun _ _ => rfl)) pa_nil)) (pv 1)))
      (pss_cons (ps_asg (pe_op op_fdiv (pe_ix ix_list (pv 0) pe_int (fun _ _ => rfl)) (pv 1)) (pg_sub (pv 0) pe_int set_list)) (pss_one (ps_ret (pv 2))))) pss_nil)
    (pss_cons (ps_set (i := 3) scLawDraw.nd rfl (.inl rfl) pe_int)
    (pss_cons (ps_for PassesOwn.never rfl (pi_range1 rfl T.range (pa_cons (pe_op op_add pe_int (pe_op op_fdiv (pe_bits (pv 1)) pe_int)) pa_nil)) (pg_name (i := 4) scLawDraw.nd rfl (.inl rfl))
      (pss_cons (ps_asg (pe_op op_add (pe_ix ix_list (pv 0) pe_int (fun _ _ => rfl)) pe_int) (pg_sub (pv 0) pe_int set_list))
      (pss_one (ps_set (i := 3) scLawDraw.nd rfl (.inl rfl) (pe_op op_add (pe_op op_mul (pv 3) pe_int) (pe_call G1 hr (by rfl) m1 k1 b1 .nil pass0 (pa_cons (pe_ix ix_list (pv 0) pe_int (fun _ _ => rfl)) (pa_cons (pe_ix ix_list (pv 0) pe_int (fun _ _ => rfl)) pa_nil))))))))
    (pss_one (ps_ret (pe_op op_mod (pe_callTy call_int1 (by rfl) T.int (by decide +kernel) (pa_cons (pv 3) pa_nil)) (pv 1)))))), ?_⟩
  have hS : SqL K H p [.int a, .int b, .int e] := SqL.of hp
  refine ⟨.ref p, rfl, p, _, 0, .int a, rfl, rfl, hS, atI_nat (j := 0) rfl, _, _, rfl, rfl, _, rfl, ite2 (fun g => ?_) (fun _ => ?_)⟩
  · refine ⟨.ref p, rfl, p, _, 0, .int a, rfl, rfl, hS, atI_nat (j := 0) rfl, .inl ⟨_, rfl, .int n, rfl, _, _, rfl, rfl, by show 0 < n; omega, ?_⟩⟩
    refine ⟨.ref p, rfl, p, _, 0, .int a, rfl, rfl, hS, atI_nat (j := 0) rfl, .int n, rfl, _, _, rfl, rfl, ⟨by omega, by omega⟩, .ref p, rfl, p, _, 0, 0, rfl, rfl, hp, rfl, ?_⟩
    refine ⟨.int (a % n), rfl, q _ _ (Int.emod_nonneg _ (by omega)) (Int.emod_lt_of_pos _ (by omega)) ⟨a / n, b, e, upd_same, Int.ediv_nonneg a0 (by omega), b0, b1', e0, by omega⟩⟩
  · have bs := bits_small n0 n1
    have one : (1 : Int) + ((Builtin.Int.intBits n : Nat) : Int) / 30 = 1 := by omega
    refine ⟨.int n, rfl, n, rfl, _, _, rfl, rfl, ⟨by decide, by decide⟩, _, _, rfl, rfl, ?_⟩
    refine ⟨1, congrArg (fun z => [V.int z]) one, by decide, by decide, for_range (n := 1) (fun i σ H1 => (i = 0 ∧ σ = [some (.ref p), some (.int n), none, some (.int 0), none] ∧ H1 = H) ∨ (i = 1 ∧ ∃ r, 0 ≤ r ∧ σ = [some (.ref p), some (.int n), none, some (.int r), some (.int 0)] ∧ H1 = upd H p (.lst [.int a, .int b, .int (e + 1)]))) (.inl ⟨rfl, rfl, rfl⟩) (fun i σ H1 il hI => ?_) (fun σ H1 hI => ?_)⟩
    · rcases hI with ⟨rfl, rfl, rfl⟩ | ⟨rfl, _⟩
      · refine ⟨.ref p, rfl, p, _, 2, .int e, rfl, rfl, hS, atI_nat (j := 2) rfl, _, _, rfl, rfl, .ref p, rfl, p, _, 2, 2, rfl, rfl, hp, rfl, ?_⟩
        have hS2 : SqL K (upd H1 p (.lst [.int a, .int b, .int (e + 1)])) p [.int a, .int b, .int (e + 1)] := SqL.of upd_same
        refine ⟨.int 0, rfl, _, _, rfl, rfl, .inl ⟨by decide, by decide⟩, .ref p, rfl, p, _, 1, .int b, rfl, rfl, hS2, atI_nat (j := 1) rfl, .ref p, rfl, p, _, 2, .int (e + 1), rfl, rfl, hS2, atI_nat (j := 2) rfl, b, e + 1, rfl, b0, b1', by omega, by omega, fun r r0 => ?_⟩
        exact ⟨_, _, rfl, rfl, .inr ⟨rfl, 0 * 2147483587 + r, by omega, rfl, rfl⟩⟩
      · omega
    · rcases hI with ⟨z, _⟩ | ⟨_, r, r0, rfl, rfl⟩
      · omega
      · refine ⟨.int r, rfl, .inl ⟨r, rfl, .int n, rfl, _, _, rfl, rfl, by show 0 < n; omega, ?_⟩⟩
        exact q _ _ (Int.emod_nonneg _ (by omega)) (Int.emod_lt_of_pos _ (by omega)) ⟨a, b, e + 1, upd_same, a0, b0, b1', by omega, by omega⟩
end
end Rw
namespace Rw
open PySem PySem.Spec PyProof.Rows L2
/-! ### _law_some -/
theorem scLawSome : FnScope ["purse", "names", "most", "found", "name"] ["purse", "names", "most"] (defScope sLawSome) := ⟨rfl, rfl, rfl, by decide +kernel, rfl, by decide +kernel, by decide +kernel⟩
section
variable {P : Program} {w : World} {K : PySem.W.Frag} {mg : Str → Option Value} {base : Heap} {f : Addr} {fd : FuncData} {k : Nat}
def spLawSome (K : PySem.W.Frag) : Sp := fun vs H Q _ => ∃ (p l : Addr) (c m : Int) (ns : W), vs = [.ref p, .ref l, .int m] ∧ Pur H p c ∧ c ≤ 900000 ∧ l ≠ p ∧ H l = some (.lst (ns.map V.str)) ∧ 1 ≤ ns.length ∧ ns.length ≤ 40 ∧
  ∀ (H' : Hp) (t : Addr) (zs : W), Bar p H H' → Pur H' p (c + 40) → SqT K H' t (zs.map V.str) → zs.Sublist ns → Q (.ref t) H'
theorem ok_lawSome {f1 : Addr} {fd1 : FuncData} (F : Fun K "_law_some" "_law_some" sLawSome f fd) (T : Bl mg) (G1 : FnOk P w K mg base CX0 k f1 fd1 ["purse", "out_of"] spLawDraw) (b1 : Binds K fd1 ["purse", "out_of"] []) (k1 : PySem.W.keepIn K (.ref f1) = true) (m1 : mg "_law_draw" = some (.ref f1)) :
    FnOk P w K mg base CX0 (k + 1) f fd ["purse", "names", "most"] (spLawSome K) := by
  refine F.ok scLawSome (fun vs H Q E h => ?_) (fun cdv A outer s H vs Q E hr h => ?_)
  · obtain ⟨p, l, c, m, ns, rfl, _⟩ := h
    rfl
  obtain ⟨p, l, c, m, ns, rfl, hP, hc, nlp, hl, n1, n40, q⟩ := h
  refine ⟨_, pss_cons (ps_setLc (i := 3) (own := [("name", 4)]) (g := gName 4) (by rfl) scLawSome.nd rfl rfl (sw_true rfl rfl rfl (by decide +kernel)) (pi_list (pv 1)) (blkOk_by (N := ["purse", "names", "most", "found", "name"]) (sc := defScope sLawSome) (by decide +kernel))
        (fun _ _ _ _ _ => pg_name (i := 4) scLawSome.nd rfl (Or.inl rfl)) (fun _ _ _ _ _ => pts_one (pt_cmpR op_lt (pe_call G1 hr (by rfl) m1 k1 b1 .nil pass0 (pa_cons (pv 0) (pa_cons (pe_callB (call_max2 rfl) (by rfl) T.max (by decide +kernel) (pa_cons pe_int (pa_cons (pe_callB (r := rLenK K) call_len_seq (by rfl) T.len PySem.boot_len (pa_cons (pv 1) pa_nil)) pa_nil))) pa_nil))) (pv 2) (nomark _))) (fun _ _ _ _ _ => pv 4))
    (pss_one (ps_ret (pe_callTy call_tuple_of (by rfl) T.tuple (by decide +kernel) (pa_cons (pv 3) pa_nil)))), ?_⟩
  refine ⟨.ref l, rfl, l, rfl, ⟨_, SqL.of hl⟩, fun D hD => ?_⟩
  have nDp := hP.some hD
  refine lc_list (xs := ns.map V.str) (fun i H1 => Bar p H H1 ∧ Pur H1 p (c + i) ∧ H1 l = some (.lst (ns.map V.str)) ∧ ∃ zs : W, H1 D = some (.lst (zs.map V.str)) ∧ zs.Sublist (ns.take i)) ⟨Bar.same (same_new hD _), (hP.same (same_new hD _)).le (by omega), (same_new hD _) _ _ hl, [], upd_same, List.nil_sublist _⟩ (fun i H1 _ hI => SqL.of hI.2.2.1) (fun i x H1 hxi hI => ?_) (fun H1 hI => ?_)
  · obtain ⟨bar, pu, hl1, zs, hd, hsub⟩ := hI
    obtain ⟨z, hz, rfl⟩ := map_at hxi
    have il : i < ns.length := (List.getElem?_eq_some_iff.mp hz).1
    have ln : ((ns.map V.str).length : Int) = ns.length := by rw [List.length_map]
    refine ⟨rfl, .ref p, rfl, .ref l, rfl, l, _, rfl, .inl (SqL.of hl1), 2, _, rfl, p, _, c + i, rfl, pu, by omega, by rw [ln]; split <;> omega, by rw [ln]; split <;> omega, fun r us r0 r1 hP1 => ?_⟩
    have bar2 : Bar p H (upd H1 p (.lst us)) := bar.trans .draw
    have hl2 : (upd H1 p (.lst us)) l = some (.lst (ns.map V.str)) := by
      rw [upd_ne nlp]
      exact hl1
    have hd2 : (upd H1 p (.lst us)) D = some (.lst (zs.map V.str)) := by
      rw [upd_ne nDp]
      exact hd
    have pu2 : Pur (upd H1 p (.lst us)) p (c + ((i + 1 : Nat) : Int)) := hP1.le (by omega)
    have hDl : l ≠ D := fun e => by
      rw [e, hD] at hl
      cases hl
    refine ⟨.int m, rfl, r, m, rfl, rfl, _, rfl, ite2 (fun e => ?_) (fun e => ?_)⟩
    · refine ⟨.str z, rfl, _, hd2, small_line' ?_, bar2.put hD, pu2.put nDp, ?_, zs ++ [z], ?_, ?_⟩
      · rw [List.length_map]
        have := hsub.length_le
        rw [List.length_take] at this
        omega
      · rw [upd_ne hDl]
        exact hl2
      · rw [upd_same, List.map_append]
        rfl
      · rw [take_snoc hz]
        exact hsub.append (List.Sublist.refl _)
    · refine ⟨bar2, pu2, hl2, zs, hd2, ?_⟩
      rw [take_snoc hz]
      exact hsub.trans (List.sublist_append_left _ _)
  · obtain ⟨bar, pu, hl1, zs, hd, hsub⟩ := hI
    rw [List.length_map, List.take_length] at hsub
    rw [List.length_map] at pu
    refine ⟨.ref D, rfl, D, _, rfl, .inl ⟨SqL.of hd, fun t ht => ?_⟩⟩
    exact q _ t zs (bar.trans (.same (same_new ht _))) ((pu.same (same_new ht _)).le (by omega)) (SqT.of upd_same) hsub
end
end Rw
namespace Rw
open PySem PySem.Spec PyProof.Rows L2
/-! ### _law_rule -/
theorem scLawRule : FnScope ["purse", "names", "sort", "heads", "denied"] ["purse", "names", "sort"] (defScope sLawRule) := ⟨rfl, rfl, rfl, by decide +kernel, rfl, by decide +kernel, by decide +kernel⟩
theorem slA_w {K : PySem.W.Frag} {H : Hp} {a : Addr} {xs : List V} {lo hi : Option Int} {Q : VK} (hx : SqT K H a xs) (q : ∀ c H0, Same H H0 → SqT K H0 c (cutV xs lo hi) → Q (.ref c) H0) : rSlA K (.ref a) lo hi H Q := by
  refine ⟨a, xs, rfl, hx, fun ⟨e1, e2⟩ => q a H (fun _ _ e => e) ?_, fun _ p hp => q p _ (same_new hp _) (SqT.of upd_same)⟩
  unfold cutV
  rw [e1, e2, List.drop_zero, Nat.sub_zero, List.take_length]
  exact hx
theorem cut_map (zs : W) (j : Int) : ∃ m, cutV (zs.map V.str) none (some j) = (zs.take m).map V.str := by
  refine ⟨HT.sIx (zs.map V.str).length (zs.map V.str).length (some j), ?_⟩
  unfold cutV
  show ((zs.map V.str).drop 0).take (_ - 0) = _
  rw [List.drop_zero, Nat.sub_zero, List.map_take]
theorem isW_sub {ns zs : W} (h : IsW ns) (s : zs.Sublist ns) : IsW zs := ⟨fun x hx => h.names x (s.subset hx), List.Pairwise.sublist s h.up, Nat.le_trans s.length_le h.few⟩
theorem four_at {m : Nat} (h : m < 4) : ∃ j : Int, [V.int 2, V.int 2, V.int 2, V.int 4][m]? = some (.int j) := by
  rcases m with _ | _ | _ | _ | m
  · exact ⟨_, rfl⟩
  · exact ⟨_, rfl⟩
  · exact ⟨_, rfl⟩
  · exact ⟨_, rfl⟩
  · omega
section
variable {P : Program} {w : World} {K : PySem.W.Frag} {mg : Str → Option Value} {base : Heap} {f : Addr} {fd : FuncData} {k : Nat}
def spLawRule (K : PySem.W.Frag) : Sp := fun vs H Q _ => ∃ (p l : Addr) (c sort : Int) (ns : W), vs = [.ref p, .ref l, .int sort] ∧ (sort = 0 ∨ sort = 1 ∨ sort = 2) ∧ Pur H p c ∧ c ≤ 800000 ∧ l ≠ p ∧ H l = some (.lst (ns.map V.str)) ∧ 1 ≤ ns.length ∧ IsW ns ∧
  ∀ (H' : Hp) (v : V) (r : Rl), Bar p H H' → Pur H' p (c + 300) → Dp K H' v (rd r) → IsR r → (∀ t ∈ parts r, t.Sublist ns) → Q v H'
theorem ok_lawRule {f1 f2 : Addr} {fd1 fd2 : FuncData} (F : Fun K "_law_rule" "_law_rule" sLawRule f fd) (T : Bl mg) (G1 : FnOk P w K mg base CX0 k f1 fd1 ["purse", "out_of"] spLawDraw) (b1 : Binds K fd1 ["purse", "out_of"] []) (k1 : PySem.W.keepIn K (.ref f1) = true) (m1 : mg "_law_draw" = some (.ref f1))
    (G2 : FnOk P w K mg base CX0 k f2 fd2 ["purse", "names", "most"] (spLawSome K)) (b2 : Binds K fd2 ["purse", "names", "most"] []) (k2 : PySem.W.keepIn K (.ref f2) = true) (m2 : mg "_law_some" = some (.ref f2)) :
    FnOk P w K mg base CX0 (k + 1) f fd ["purse", "names", "sort"] (spLawRule K) := by
  refine F.ok scLawRule (fun vs H Q E h => ?_) (fun cdv A outer s H vs Q E hr h => ?_)
  · obtain ⟨p, l, c, sort, ns, rfl, _⟩ := h
    rfl
  obtain ⟨p, l, c, sort, ns, rfl, hsort, hP, hc, nlp, hl, n1, hn, q⟩ := h
  have n40 := hn.few
  refine ⟨_, pss_cons (ps_set (i := 3) scLawRule.nd rfl (.inl rfl) (pe_call G2 hr (by rfl) m2 k2 b2 .nil pass0 (pa_cons (pv 0) (pa_cons (pv 1) (pa_cons (pe_op op_add pe_int (pe_call G1 hr (by rfl) m1 k1 b1 .nil pass0 (pa_cons (pv 0) (pa_cons pe_int pa_nil)))) pa_nil)))))
    (pss_cons (ps_set (i := 3) scLawRule.nd rfl (.inl rfl) (pe_slice sl_tupA (pv 3) po_none (po_some (pe_ix ix_list (pe_lst (pa_cons pe_int (pa_cons pe_int (pa_cons pe_int (pa_cons pe_int pa_nil))))) (pe_call G1 hr (by rfl) m1 k1 b1 .nil pass0 (pa_cons (pv 0) (pa_cons pe_int pa_nil))) (fun _ _ => rfl)))))
    (pss_mid (ps_if (pt_cmpR op_eq (pv 2) pe_int (nomark _)) (pss_one (ps_set (i := 3) scLawRule.nd rfl (.inl rfl) (pe_tup (pa_cons (pe_ix ix_list (pv 1) (pe_call G1 hr (by rfl) m1 k1 b1 .nil pass0 (pa_cons (pv 0) (pa_cons (pe_callB call_len_seq (by rfl) T.len PySem.boot_len (pa_cons (pv 1) pa_nil)) pa_nil))) (fun _ _ => rfl)) pa_nil)))) pss_nil)
    (pss_cons (ps_set (i := 4) scLawRule.nd rfl (.inl rfl) (pe_tup pa_nil))
    (pss_mid (ps_if (PW.pt (pw_and (pt_cmpR op_eq (pv 2) pe_int (nomark _)) (pw_and1 (pt_cmpR op_eq (pe_call G1 hr (by rfl) m1 k1 b1 .nil pass0 (pa_cons (pv 0) (pa_cons pe_int pa_nil))) pe_int (nomark _))))) (pss_one (ps_set (i := 4) scLawRule.nd rfl (.inl rfl) (pe_call G2 hr (by rfl) m2 k2 b2 .nil pass0 (pa_cons (pv 0) (pa_cons (pv 1) (pa_cons pe_int pa_nil)))))) pss_nil)
    (pss_one (ps_ret (pe_tup (pa_cons (pv 3) (pa_cons (pv 4) (pa_cons (pe_call G2 hr (by rfl) m2 k2 b2 .nil pass0 (pa_cons (pv 0) (pa_cons (pv 1) (pa_cons pe_int pa_nil)))) (pa_cons (pe_call G2 hr (by rfl) m2 k2 b2 .nil pass0 (pa_cons (pv 0) (pa_cons (pv 1) (pa_cons pe_int pa_nil)))) pa_nil))))))))))), ?_⟩
  have lat : ∀ H', Bar p H H' → H' l = some (.lst (ns.map V.str)) := fun H' b => b _ _ nlp hl
  have sty : ∀ H', Bar p H H' → Stay H H' := fun H' b => b.stay hP.mut
  -- heads
  refine ⟨.ref p, rfl, .ref l, rfl, .ref p, rfl, p, 3, c, rfl, hP, by omega, by decide, by decide, fun r us r0 r1 hP1 => ?_⟩
  refine ⟨_, _, rfl, rfl, p, l, c + 1, _, ns, rfl, hP1, by omega, nlp, lat _ .draw, n1, n40, fun H2 t zs bar2 pu2 ht hs => ?_⟩
  have bar2' : Bar p H H2 := Bar.draw.trans bar2
  -- the slice
  refine ⟨.ref t, rfl, by show 4 ≤ sizeLine; decide, fun q4 hq4 => ?_⟩
  have s4 := same_new hq4 (.lst [.int 2, .int 2, .int 2, .int 4])
  have nq4 := pu2.some hq4
  refine ⟨.ref p, rfl, p, 4, _, rfl, pu2.same s4, by omega, by decide, by decide, fun r3 us3 r30 r31 hP3 => ?_⟩
  obtain ⟨m, rfl⟩ := Int.eq_ofNat_of_zero_le r30
  obtain ⟨j, hj⟩ := four_at (m := m) (by omega)
  refine ⟨q4, _, m, .int j, rfl, rfl, SqL.of (by rw [upd_ne nq4, upd_same]), atI_nat hj, ?_⟩
  have bar4 : Bar p H2 (upd (upd H2 q4 (.lst [.int 2, .int 2, .int 2, .int 4])) p (.lst us3)) := (Bar.same s4).trans .draw
  refine ⟨j, rfl, slA_w ((bar4.stay pu2.mut).seq ht) fun t5 H5 s5 ht5 => ?_⟩
  obtain ⟨mm, em⟩ := cut_map zs j
  rw [em] at ht5
  have bar5 : Bar p H H5 := (bar2'.trans bar4).trans (.same s5)
  have pu5 := hP3.same s5
  have hs5 : (zs.take mm).Sublist ns := (List.take_sublist _ _).trans hs
  have no : ∀ {i j : Int}, i ≠ j → V.bl (decide (V.int i = V.int j)) = V.bl false := fun n => congrArg V.bl (decide_eq_false fun e => n (by injection e))
  have yes : ∀ {i : Int}, V.bl (decide (V.int i = V.int i)) = V.bl true := congrArg V.bl (decide_eq_true rfl)
  have sortV : ∀ j : Int, ∃ b : Bool, V.bl (decide (V.int sort = V.int j)) = V.bl b ∧ (b = true ↔ sort = j) := fun j => by
    by_cases e : sort = j
    · exact ⟨true, by rw [e]; exact yes, by simp [e]⟩
    · exact ⟨false, no e, by simp [e]⟩
  refine ⟨fun σ H7 => ∃ (t7 : Addr) (hs7 : W), σ = [some (.ref p), some (.ref l), some (.int sort), some (.ref t7), none] ∧ Bar p H H7 ∧ Pur H7 p (c + 60) ∧ SqT K H7 t7 (hs7.map V.str) ∧ hs7.Sublist ns ∧ (sort = 0 → hs7.length = 1), ?_, ?_⟩
  · obtain ⟨b0, e0, hb0⟩ := sortV 0
    refine ⟨.int sort, rfl, rfl, b0, e0, ?_⟩
    cases b0 with
    | true =>
      refine iteT ⟨.ref l, rfl, .ref p, rfl, .ref l, rfl, l, _, rfl, .inl (SqL.of (lat _ bar5)), p, _, _, rfl, pu5, by omega, by rw [List.length_map]; omega, by rw [List.length_map]; omega, fun r us r0 r1 hP7 => ?_⟩
      obtain ⟨m7, rfl⟩ := Int.eq_ofNat_of_zero_le r0
      have lt : m7 < ns.length := by
        rw [List.length_map] at r1
        omega
      have hx : (ns.map V.str)[m7]? = some (.str ns[m7]) := by rw [List.getElem?_map, List.getElem?_eq_getElem lt]; rfl
      have bar7 : Bar p H (upd H5 p (.lst us)) := bar5.trans .draw
      refine ⟨l, _, m7, _, rfl, rfl, SqL.of (lat _ bar7), atI_nat hx, by show 1 ≤ sizeLine; decide, fun t7 ht7 => ?_⟩
      have s7 := same_new ht7 (.tup [.str ns[m7]])
      exact ⟨t7, [ns[m7]], rfl, bar7.trans (.same s7), (hP7.same s7).le (by omega), SqT.of upd_same, List.singleton_sublist.mpr (List.getElem_mem lt), fun _ => rfl⟩
    | false => exact iteF ⟨t5, zs.take mm, rfl, bar5, pu5.le (by omega), ht5, hs5, fun e => absurd (hb0.mpr e) (by decide)⟩
  rintro σ6 H6 ⟨t5', hs6, rfl, bar6', pu6', h56, hsub6, one6⟩
  refine ⟨by show 0 ≤ sizeLine; decide, fun t6 ht6 => ?_⟩
  have s6 := same_new ht6 (.tup [])
  have bar6 := bar6'.trans (.same s6)
  have pu6 := pu6'.same s6
  refine ⟨fun σ H7 => ∃ (t7 : Addr) (ds : W), σ = [some (.ref p), some (.ref l), some (.int sort), some (.ref t5'), some (.ref t7)] ∧ Bar p H H7 ∧ Pur H7 p (c + 200) ∧ SqT K H7 t5' (hs6.map V.str) ∧ SqT K H7 t7 (ds.map V.str) ∧ ds.Sublist ns ∧ (sort = 0 → ds = []), ?_, ?_⟩
  · obtain ⟨b2', e2, hb2⟩ := sortV 2
    refine ⟨.int sort, rfl, rfl, b2', e2, ?_⟩
    cases b2' with
    | false => exact iteF ⟨t6, [], rfl, bar6, pu6.le (by omega), same_tup s6 h56, SqT.of upd_same, List.nil_sublist _, fun _ => rfl⟩
    | true =>
      have s2 := hb2.mp rfl
      refine iteT ⟨.ref p, rfl, p, 3, _, rfl, pu6, by omega, by decide, by decide, fun r us r0 r1 hP7 => ?_⟩
      have bar7 := bar6.trans (Bar.draw (o := .lst us))
      have sty7 := (Bar.same s6).trans (Bar.draw (p := p) (o := .lst us))
      refine ⟨rfl, _, rfl, ite2 (fun e => ?_) (fun e => ?_)⟩
      · refine ⟨.ref p, rfl, .ref l, rfl, p, l, _, 1, ns, rfl, hP7, by omega, nlp, lat _ bar7, n1, n40, fun H8 t8 z8 bar8 pu8 h8 hs8 => ?_⟩
        exact ⟨t8, z8, rfl, bar7.trans bar8, pu8.le (by omega), (((sty7.trans bar8).stay pu6'.mut).seq h56), h8, hs8, fun e => by rw [e] at s2; exact absurd s2 (by decide)⟩
      · exact ⟨t6, [], rfl, bar7, hP7.le (by omega), (sty7.stay pu6'.mut).seq h56, ((Bar.draw (p := p)).stay pu6.mut).seq (SqT.of upd_same), List.nil_sublist _, fun _ => rfl⟩
  · rintro σ7 H7 ⟨t7, ds, rfl, bar7, pu7, h5, h7, hds, none7⟩
    refine ⟨.ref t5', rfl, .ref t7, rfl, .ref p, rfl, .ref l, rfl, p, l, _, 1, ns, rfl, pu7, by omega, nlp, lat _ bar7, n1, n40, fun H8 t8 z8 bar8 pu8 h8 hs8 => ?_⟩
    refine ⟨.ref p, rfl, .ref l, rfl, p, l, _, 1, ns, rfl, pu8, by omega, nlp, lat _ (bar7.trans bar8), n1, n40, fun H9 t9 z9 bar9 pu9 h9 hs9 => ?_⟩
    refine ⟨by show 4 ≤ sizeLine; decide, fun t10 ht10 => ?_⟩
    have s10 := same_new ht10 (.tup [.ref t5', .ref t7, .ref t8, .ref t9])
    have y9 := (bar9.stay pu8.mut).trans (.same s10)
    have y8 := (bar8.stay pu7.mut).trans y9
    refine q _ (.ref t10) (hs6, ds, z8, z9) (((bar7.trans bar8).trans bar9).trans (.same s10)) ((pu9.same s10).le (by omega)) ?_ ⟨isW_sub hn hsub6, isW_sub hn hds, isW_sub hn hs8, isW_sub hn hs9⟩ (fun t ht => ?_)
    · exact .tup (SqT.of upd_same) (.cons (to_wd (y8.seq h5)) (.cons (to_wd (y8.seq h7)) (.cons (to_wd (y9.seq h8)) (.cons (to_wd ((Stay.same s10).seq h9)) .nil))))
    · unfold parts at ht
      simp only [List.mem_cons, List.mem_nil_iff, or_false] at ht
      rcases ht with e | e | e | e <;> subst e
      · exact hsub6
      · exact hds
      · exact hs8
      · exact hs9
end
end Rw
namespace Rw
open PySem PySem.Spec PyProof.Rows L2
/-! ### _law_has -/
theorem scLawHas : FnScope ["sheet"] ["sheet"] (defScope sLawHas) := ⟨rfl, rfl, rfl, by decide +kernel, rfl, by decide +kernel, by decide +kernel⟩
theorem shaped_wds {A : List W} (h : ∀ t ∈ A, IsW t) : SeqAt.shaped (.list (A.map wd)) = true := by
  refine shaped_of ?_ ?_
  · rw [PyData.canLay0]
    exact lay_wds h
  · rw [PyData.depth]
    have := depthAll_wd A
    omega
theorem eqv_wdsL (A B : List W) : PyData.eqv (.list (A.map wd)) (.list (B.map wd)) = decide (A = B) := by
  rw [PyData.eqv, eqv_wds]
def hasB (own : W) (S : List Rl) : Bool := decide ((everyW own).filter (okW own S) ≠ [])
section
variable {P : Program} {w : World} {K : PySem.W.Frag} {mg : Str → Option Value} {base : Heap} {f : Addr} {fd : FuncData} {k : Nat}
def spLawHas (K : PySem.W.Frag) (C : Addr) : Sp := fun vs H Q _ => ∃ (v : V) (S : List Rl) (bd : W), vs = [v] ∧ PgAt K C H v S ∧ (∀ r ∈ S, IsR r) ∧ S.length < 76 ∧ (∀ z ∈ namesL S, z ∈ bd) ∧ bd.length ≤ 10 ∧
  ∀ H' (own : W), Same H H' → IsW own → (∀ z, z ∈ own ↔ z ∈ namesL S) → Q (.bl (hasB own S)) H'
theorem ok_lawHas {C fW : Addr} {fdW : FuncData} (F : Fun K "_law_has" "_law_has" sLawHas f fd) (T : Bl mg)
    (GW : CFn P w K mg base k fW fdW ["program", "names"] (spWorlds K C)) (bW : Binds K fdW ["program", "names"] [.none]) (kW : PySem.W.keepIn K (.ref fW) = true) (mW : mg "worlds" = some (.ref fW)) : FnOk P w K mg base CX0 (k + 2) f fd ["sheet"] (spLawHas K C) := by
  refine F.ok scLawHas (fun vs H Q E h => ?_) (fun cdv A outer s H vs Q E hr h => ?_)
  · obtain ⟨v, S, bd, rfl, _⟩ := h
    rfl
  obtain ⟨v, S, bd, rfl, hS, hI, few, hbd, lbd, q⟩ := h
  have hrW : Room k (A.deeper (envOfC "_law_has" (defScope sLawHas) s.heap.objs.size f cdv)) := hr.mono (by omega)
  refine ⟨_, pss_one (ps_ret (pe_cmpR (r := rNeD K) (op_neD hr.units) (pe_lcI (pgenC_call (dvs := [.non]) GW hrW (by rfl) mW kW bW (.cons rfl .nil) (pa_cons (pv 0) pa_nil)) (by rfl) hr (by rfl) (by rfl)) (pe_lst pa_nil) (nomark _))), ?_⟩
  refine ⟨v, rfl, v, .non, S, bd, rfl, hS, hI, few, hbd, lbd, .inl ⟨rfl, fun own hw hm H1 xs s1 hxs l hl => ?_⟩⟩
  have s2 := same_new hl (.lst xs)
  refine ⟨by show 0 ≤ sizeLine; decide, fun e he => ?_⟩
  have s3 := same_new he (.lst [])
  have hx : DpAll K (upd (upd H1 l (.lst xs)) e (.lst [])) xs (((everyW own).filter (okW own S)).map wd) := (hxs.go (Tups.of (s2.trans s3))).dp
  have hA : ∀ t ∈ (everyW own).filter (okW own S), IsW t := fun t ht => isW_sub hw (mem_every.mp (List.mem_filter.mp ht).1)
  refine ⟨.list (((everyW own).filter (okW own S)).map wd), .list [], .lst (SqL.of (s3 _ _ upd_same)) hx, .lst (SqL.of upd_same) .nil, shaped_wds hA, shaped_wds (A := []) (fun _ z => nomatch z), ?_⟩
  have ev : (!PyData.eqv (.list (((everyW own).filter (okW own S)).map wd)) (.list [])) = hasB own S := by
    rw [show (PyData.list []) = .list (([] : List W).map wd) from rfl, eqv_wdsL]
    unfold hasB
    by_cases c : (everyW own).filter (okW own S) = []
    · simp [c]
    · simp [c]
  rw [ev]
  exact q _ own (s1.trans (s2.trans s3)) hw hm
end
end Rw
namespace Rw
open PySem PySem.Spec PyProof.Rows L2
/-! ### mathematics of conflicts and cures: what the masks say -/
theorem once_iff {T : List Prd} {a : PW2} : onceB T a = true ↔ ∃ p ∈ T, p a = true := by
  unfold onceB
  exact List.any_eq_true
theorem once_no {T : List Prd} {a : PW2} : onceB T a = false ↔ ∀ p ∈ T, p a = false := by
  rw [Bool.eq_false_iff, Ne, once_iff]
  exact ⟨fun h p hp => Bool.eq_false_iff.mpr fun e => h ⟨p, hp, e⟩, fun h ⟨p, hp, e⟩ => by rw [h p hp] at e; cases e⟩
theorem tj_iff {R : List PW2} {T : List Prd} : tjB R T = true ↔ (∀ a ∈ R, ∃ p ∈ T, p a = true) ∧ ∀ p ∈ T, ∃ a ∈ R, p a = true ∧ twiceB T a = false := by
  unfold tjB
  rw [Bool.and_eq_true, decide_eq_true_iff, msk_eq, List.all_eq_true]
  refine and_congr ⟨fun h a ha => once_iff.mp (h a ha), fun h a ha => once_iff.mpr (h a ha)⟩ ⟨fun h p hp => ?_, fun h p hp => ?_⟩
  · have e := h p hp
    rw [bne_iff_ne, Ne, msk_zero] at e
    refine Classical.byContradiction fun c => e fun a ha => Bool.eq_false_iff.mpr fun z => c ⟨a, ha, ?_⟩
    rw [Bool.and_eq_true, Bool.not_eq_true'] at z
    exact z
  · obtain ⟨a, ha, e1, e2⟩ := h p hp
    rw [bne_iff_ne, Ne, msk_zero]
    intro z
    have := z a ha
    rw [e1, e2] at this
    cases this
theorem lc_iff {R : List PW2} {T : List Prd} {pl : List Nat} : lcB R T pl = true ↔ (∃ a ∈ R, ∀ p ∈ othT T pl, p a = false) ∧ ∀ n ∈ pl, ∀ a ∈ R, (∀ p ∈ othT T pl, p a = false) → (T.getD n fun _ => false) a = true := by
  unfold lcB
  rw [Bool.and_eq_true, decide_eq_true_iff, msk_pos, Bool.not_eq_true']
  refine and_congr ⟨fun ⟨a, ha, e⟩ => ⟨a, ha, once_no.mp (by simpa using e)⟩, fun ⟨a, ha, e⟩ => ⟨a, ha, by rw [once_no.mpr e]; rfl⟩⟩ ?_
  rw [List.any_eq_false]
  refine ⟨fun h n hn a ha e => ?_, fun h n hn => ?_⟩
  · have z := h n hn
    rw [bne_iff_ne, Ne, Classical.not_not, msk_zero] at z
    have y := z a ha
    rw [once_no.mpr e] at y
    simpa using y
  · rw [bne_iff_ne, Ne, Classical.not_not, msk_zero]
    intro a ha
    cases c : onceB (othT T pl) a with
    | true => rfl
    | false =>
      rw [h n hn a ha (once_no.mp c)]
      rfl
end Rw
namespace Rw
open PySem PySem.Spec PyProof.Rows L2
/-! ### mathematics: conflicts told by places -/
theorem twice_no {a : PW2} : ∀ {T : List Prd}, twiceB T a = false ↔ T.Pairwise fun p q => ¬ (p a = true ∧ q a = true)
  | [] => by simp [twiceB]
  | p :: T => by
    rw [twiceB, Bool.or_eq_false_iff, twice_no, List.pairwise_cons]
    refine and_congr ⟨fun h q hq ⟨e1, e2⟩ => ?_, fun h => ?_⟩ Iff.rfl
    · rw [e1, Bool.true_and] at h
      rw [once_no.mp h q hq] at e2
      cases e2
    · cases c : p a with
      | false => rfl
      | true =>
        rw [Bool.true_and, once_no]
        exact fun q hq => Bool.eq_false_iff.mpr fun e => h q hq ⟨c, e⟩
/-- at place n -/
def tAt (T : List Prd) (n : Nat) : Prd := T.getD n fun _ => false
theorem pickT_map {T : List Prd} : ∀ {p : List Nat}, (∀ n ∈ p, n < T.length) → pickT T p = p.map (tAt T)
  | [], _ => rfl
  | n :: p, h => by
    have ih := pickT_map (T := T) (p := p) fun m hm => h m (List.mem_cons_of_mem _ hm)
    have nl := h n List.mem_cons_self
    unfold pickT at ih ⊢
    rw [List.filterMap_cons, List.getElem?_eq_getElem nl, List.map_cons, ← ih]
    show T[n] :: _ = _
    congr 1
    unfold tAt
    rw [List.getD_eq_getElem?_getD, List.getElem?_eq_getElem nl]
    rfl
theorem parts_up : ∀ m, m ≤ 8 → ∀ p ∈ partsN m, p.Pairwise (· < ·) := by decide +kernel
theorem conf_iff {R : List PW2} {T : List Prd} {p : List Nat} (hp : ∀ n ∈ p, n < T.length) (up : p.Pairwise (· < ·)) :
    tjB R (pickT T p) = true ↔ (∀ a ∈ R, ∃ n ∈ p, tAt T n a = true) ∧ ∀ n ∈ p, ∃ a ∈ R, tAt T n a = true ∧ ∀ m ∈ p, m ≠ n → tAt T m a = false := by
  rw [pickT_map hp, tj_iff]
  refine and_congr ⟨fun h a ha => ?_, fun h a ha => ?_⟩ ⟨fun h n hn => ?_, fun h q hq => ?_⟩
  · obtain ⟨q, hq, e⟩ := h a ha
    obtain ⟨n, hn, rfl⟩ := List.mem_map.mp hq
    exact ⟨n, hn, e⟩
  · obtain ⟨n, hn, e⟩ := h a ha
    exact ⟨_, List.mem_map.mpr ⟨n, hn, rfl⟩, e⟩
  · obtain ⟨a, ha, e1, e2⟩ := h _ (List.mem_map.mpr ⟨n, hn, rfl⟩)
    refine ⟨a, ha, e1, fun m hm ne => Bool.eq_false_iff.mpr fun e => ?_⟩
    have pw := List.pairwise_map.mp (twice_no.mp e2)
    have both := List.pairwise_iff_getElem.mp pw
    obtain ⟨i, hi, rfl⟩ := List.getElem_of_mem hn
    obtain ⟨j, hj, rfl⟩ := List.getElem_of_mem hm
    rcases Nat.lt_trichotomy i j with l | l | l
    · exact both i j hi hj l ⟨e1, e⟩
    · subst l
      exact ne rfl
    · exact both j i hj hi l ⟨e, e1⟩
  · obtain ⟨n, hn, rfl⟩ := List.mem_map.mp hq
    obtain ⟨a, ha, e1, e2⟩ := h n hn
    refine ⟨a, ha, e1, twice_no.mpr (List.pairwise_map.mpr (List.pairwise_iff_getElem.mpr fun i j hi hj l ⟨z1, z2⟩ => ?_))⟩
    have lt := List.pairwise_iff_getElem.mp up i j hi hj l
    by_cases c : p[i] = n
    · have := e2 p[j] (List.getElem_mem hj) (by omega)
      rw [this] at z2
      cases z2
    · have := e2 p[i] (List.getElem_mem hi) c
      rw [this] at z1
      cases z1
end Rw
namespace Rw
open PySem PySem.Spec PyProof.Rows L2
/-! ### mathematics: cures told by places; each cure meets each conflict -/
theorem mem_oth {T : List Prd} {pl : List Nat} {p : Prd} : p ∈ othT T pl ↔ ∃ n, n < T.length ∧ n ∉ pl ∧ tAt T n = p := by
  have at' : ∀ {n : Nat} (nl : n < T.length), tAt T n = T[n] := fun {n} nl => by
    unfold tAt
    rw [List.getD_eq_getElem?_getD, List.getElem?_eq_getElem nl]
    rfl
  unfold othT
  rw [List.mem_map]
  constructor
  · rintro ⟨⟨q, n⟩, h, rfl⟩
    obtain ⟨h1, h2⟩ := List.mem_filter.mp h
    have e := List.mk_mem_zipIdx_iff_getElem?.mp h1
    obtain ⟨nl, e⟩ := List.getElem?_eq_some_iff.mp e
    exact ⟨n, nl, by simpa using h2, by rw [at' nl]; exact e⟩
  · rintro ⟨n, nl, h, rfl⟩
    refine ⟨(T[n], n), List.mem_filter.mpr ⟨List.mk_mem_zipIdx_iff_getElem?.mpr (List.getElem?_eq_getElem nl), by simpa using h⟩, (at' nl).symm⟩
/-- no rule but those at pl takes a -/
def Free (T : List Prd) (pl : List Nat) (a : PW2) : Prop := ∀ n, n < T.length → n ∉ pl → tAt T n a = false
theorem free_oth {T : List Prd} {pl : List Nat} {a : PW2} : (∀ p ∈ othT T pl, p a = false) ↔ Free T pl a := by
  refine ⟨fun h n nl hn => h _ (mem_oth.mpr ⟨n, nl, hn, rfl⟩), fun h p hp => ?_⟩
  obtain ⟨n, nl, hn, rfl⟩ := mem_oth.mp hp
  exact h n nl hn
theorem cure_iff {R : List PW2} {T : List Prd} {pl : List Nat} : lcB R T pl = true ↔ (∃ a ∈ R, Free T pl a) ∧ ∀ n ∈ pl, ∀ a ∈ R, Free T pl a → tAt T n a = true := by
  rw [lc_iff]
  refine and_congr ⟨fun ⟨a, ha, h⟩ => ⟨a, ha, free_oth.mp h⟩, fun ⟨a, ha, h⟩ => ⟨a, ha, free_oth.mpr h⟩⟩ ⟨fun h n hn a ha e => h n hn a ha (free_oth.mpr e), fun h n hn a ha e => h n hn a ha (free_oth.mp e)⟩
/-- a cure and a conflict have a place in common -/
theorem meet_cc {R : List PW2} {T : List Prd} {c b : List Nat} (hb : ∀ n ∈ b, n < T.length) (up : b.Pairwise (· < ·)) (hC : lcB R T c = true) (hB : tjB R (pickT T b) = true) : ∃ n, n ∈ c ∧ n ∈ b := by
  obtain ⟨⟨a, ha, fr⟩, _⟩ := cure_iff.mp hC
  obtain ⟨n, hn, e⟩ := ((conf_iff hb up).mp hB).1 a ha
  refine ⟨n, Classical.byContradiction fun z => ?_, hn⟩
  rw [fr n (hb n hn) z] at e
  cases e
end Rw
namespace Rw
open PySem PySem.Spec PyProof.Rows L2
/-! ### mathematics: least parts are there, and are listed -/
def subsN : List Nat → List (List Nat)
  | [] => [[]]
  | x :: l => subsN l ++ (subsN l).map (x :: ·)
theorem mem_subsN : ∀ {l p : List Nat}, p.Sublist l → p ∈ subsN l
  | [], p, h => by
    rw [List.sublist_nil.mp h]
    exact List.mem_singleton.mpr rfl
  | x :: l, p, h => by
    unfold subsN
    rw [List.mem_append]
    rcases List.sublist_cons_iff.mp h with e | ⟨r, rfl, e⟩
    · exact .inl (mem_subsN e)
    · exact .inr (List.mem_map.mpr ⟨r, mem_subsN e, rfl⟩)
theorem subs_parts : ∀ m, m ≤ 8 → ∀ p ∈ subsN (List.range m), p ∈ partsN m := by decide +kernel
theorem parts_subs : ∀ m, m ≤ 8 → ∀ p ∈ partsN m, p ∈ subsN (List.range m) := by decide +kernel
theorem subsN_sub : ∀ {l p : List Nat}, p ∈ subsN l → p.Sublist l
  | [], p, h => by
    rw [List.mem_singleton.mp h]
    exact .slnil
  | x :: l, p, h => by
    unfold subsN at h
    rcases List.mem_append.mp h with e | e
    · exact (subsN_sub e).cons x
    · obtain ⟨r, hr, rfl⟩ := List.mem_map.mp e
      exact (subsN_sub hr).cons_cons x
theorem partsN_iff {m : Nat} (h : m ≤ 8) {p : List Nat} : p ∈ partsN m ↔ p.Sublist (List.range m) := ⟨fun e => subsN_sub (parts_subs m h p e), fun e => subs_parts m h p (mem_subsN e)⟩
theorem least_of (g : List Nat → Prop) : ∀ (k : Nat) (p : List Nat), p.length ≤ k → g p → ∃ q, q.Sublist p ∧ g q ∧ ∀ n ∈ q, ¬ g (q.erase n)
  | 0, p, hl, h => by
    obtain rfl : p = [] := List.length_eq_zero_iff.mp (by omega)
    exact ⟨[], .slnil, h, fun _ z => nomatch z⟩
  | k + 1, p, hl, h => by
    by_cases c : ∃ n, n ∈ p ∧ g (p.erase n)
    · obtain ⟨n, hn, e⟩ := c
      have := List.length_erase_of_mem hn
      obtain ⟨q, q1, q2, q3⟩ := least_of g k (p.erase n) (by omega) e
      exact ⟨q, q1.trans List.erase_sublist, q2, q3⟩
    · exact ⟨p, List.Sublist.refl _, h, fun n hn e => c ⟨n, hn, e⟩⟩
end Rw
namespace Rw
open PySem PySem.Spec PyProof.Rows L2
/-! ### mathematics: the duality of conflicts and cures -/
theorem range_up {m : Nat} {q : List Nat} (h : q.Sublist (List.range m)) : q.Pairwise (· < ·) := List.Pairwise.sublist h List.pairwise_lt_range
theorem range_nd {q : List Nat} (h : q.Pairwise (· < ·)) : q.Nodup := h.imp fun l => Nat.ne_of_lt l
theorem range_in {m : Nat} {q : List Nat} (h : q.Sublist (List.range m)) {n : Nat} (e : n ∈ q) : n < m := List.mem_range.mp (h.subset e)
/-- a least part that takes every world, within a given one -/
theorem least_conf {R : List PW2} {T : List Prd} {p : List Nat} (hp : p.Sublist (List.range T.length)) (cv : ∀ a ∈ R, ∃ n ∈ p, tAt T n a = true) : ∃ q, q.Sublist p ∧ tjB R (pickT T q) = true := by
  obtain ⟨q, q1, q2, q3⟩ := least_of (fun q => ∀ a ∈ R, ∃ n ∈ q, tAt T n a = true) p.length p (Nat.le_refl _) cv
  have qs := q1.trans hp
  refine ⟨q, q1, (conf_iff (fun n hn => range_in qs hn) (range_up qs)).mpr ⟨q2, fun n hn => ?_⟩⟩
  refine Classical.byContradiction fun c => q3 n hn fun a ha => ?_
  obtain ⟨k, hk, e⟩ := q2 a ha
  by_cases z : ∃ j, j ∈ q ∧ j ≠ n ∧ tAt T j a = true
  · obtain ⟨j, hj, ne, e2⟩ := z
    exact ⟨j, (List.mem_erase_of_ne ne).mpr hj, e2⟩
  · have only : ∀ j ∈ q, j ≠ n → tAt T j a = false := fun j hj ne => Bool.eq_false_iff.mpr fun y => z ⟨j, hj, ne, y⟩
    have kn : k = n := Classical.byContradiction fun ne => by
      rw [only k hk ne] at e
      cases e
    subst kn
    exact absurd ⟨a, ha, e, only⟩ c
/-- a least part without which some world stands, within a given one -/
theorem least_cure {R : List PW2} {T : List Prd} {p : List Nat} (hp : p.Sublist (List.range T.length)) (cv : ∃ a ∈ R, Free T p a) : ∃ q, q.Sublist p ∧ lcB R T q = true := by
  obtain ⟨q, q1, q2, q3⟩ := least_of (fun q => ∃ a ∈ R, Free T q a) p.length p (Nat.le_refl _) cv
  refine ⟨q, q1, cure_iff.mpr ⟨q2, fun n hn a ha fr => Classical.byContradiction fun c => q3 n hn ⟨a, ha, fun k kl hk => ?_⟩⟩⟩
  by_cases e : k = n
  · subst e
    exact Bool.eq_false_iff.mpr c
  · exact fr k kl fun z => hk ((List.mem_erase_of_ne e).mpr z)
theorem hit_cure {R : List PW2} {T : List Prd} {c : List Nat} (hc : c.Sublist (List.range T.length)) (hC : lcB R T c = true) {n : Nat} (hn : n ∈ c) :
    ∃ b, b.Sublist (List.range T.length) ∧ tjB R (pickT T b) = true ∧ ∀ k ∈ b, k ∈ c → k = n := by
  obtain ⟨_, h2⟩ := cure_iff.mp hC
  have b0s : ((List.range T.length).filter fun k => decide (k = n ∨ k ∉ c)).Sublist (List.range T.length) := List.filter_sublist
  obtain ⟨b, b1, b2⟩ := least_conf (R := R) b0s fun a ha => by
    by_cases f : Free T c a
    · exact ⟨n, List.mem_filter.mpr ⟨List.mem_range.mpr (range_in hc hn), by simp⟩, h2 n hn a ha f⟩
    · refine Classical.byContradiction fun z => f fun k kl hk => Bool.eq_false_iff.mpr fun e => z ⟨k, List.mem_filter.mpr ⟨List.mem_range.mpr kl, by simp [hk]⟩, e⟩
  refine ⟨b, b1.trans b0s, b2, fun k hk kc => ?_⟩
  have := (List.mem_filter.mp (b1.subset hk)).2
  simp only [decide_eq_true_eq] at this
  rcases this with e | e
  · exact e
  · exact absurd kc e
theorem hit_conf {R : List PW2} {T : List Prd} {b : List Nat} (hb : b.Sublist (List.range T.length)) (hB : tjB R (pickT T b) = true) {n : Nat} (hn : n ∈ b) :
    ∃ c, c.Sublist (List.range T.length) ∧ lcB R T c = true ∧ ∀ k ∈ c, k ∈ b → k = n := by
  obtain ⟨a, ha, _, e2⟩ := ((conf_iff (fun n hn => range_in hb hn) (range_up hb)).mp hB).2 n hn
  have c0s : ((List.range T.length).filter fun k => tAt T k a).Sublist (List.range T.length) := List.filter_sublist
  obtain ⟨c, c1, c2⟩ := least_cure (R := R) c0s ⟨a, ha, fun k kl hk => Bool.eq_false_iff.mpr fun e => hk (List.mem_filter.mpr ⟨List.mem_range.mpr kl, e⟩)⟩
  refine ⟨c, c1.trans c0s, c2, fun k hk kb => Classical.byContradiction fun ne => ?_⟩
  have := (List.mem_filter.mp (c1.subset hk)).2
  rw [e2 k kb ne] at this
  cases this
end Rw
namespace Rw
open PySem PySem.Spec PyProof.Rows L2
/-! ### mathematics: from places to worlds -/
theorem tk_iff {r : Rl} {t : W} : tkB r (t, t) = true ↔ (∀ x ∈ r.2.2.1, x ∈ t) ∧ (∀ x ∈ r.2.1, x ∈ t) ∧ (∀ x ∈ r.1, x ∉ t) ∧ ∀ x ∈ r.2.2.2, x ∉ t := by
  unfold tkB unB
  simp only [Bool.or_self, Bool.and_eq_true, List.all_eq_true, Bool.not_eq_true', decide_eq_true_eq, decide_eq_false_iff_not, and_assoc]
theorem tk_same {r : Rl} {t u : W} (h : ∀ x ∈ ownN r, (x ∈ t ↔ x ∈ u)) : tkB r (t, t) = tkB r (u, u) := by
  have m1 : ∀ x ∈ r.1, x ∈ ownN r := fun x hx => List.mem_flatMap.mpr ⟨r.1, by simp [parts], hx⟩
  have m2 : ∀ x ∈ r.2.1, x ∈ ownN r := fun x hx => List.mem_flatMap.mpr ⟨r.2.1, by simp [parts], hx⟩
  have m3 : ∀ x ∈ r.2.2.1, x ∈ ownN r := fun x hx => List.mem_flatMap.mpr ⟨r.2.2.1, by simp [parts], hx⟩
  have m4 : ∀ x ∈ r.2.2.2, x ∈ ownN r := fun x hx => List.mem_flatMap.mpr ⟨r.2.2.2, by simp [parts], hx⟩
  rw [Bool.eq_iff_iff, tk_iff, tk_iff]
  refine and_congr ⟨fun z x hx => (h x (m3 x hx)).mp (z x hx), fun z x hx => (h x (m3 x hx)).mpr (z x hx)⟩ (and_congr ⟨fun z x hx => (h x (m2 x hx)).mp (z x hx), fun z x hx => (h x (m2 x hx)).mpr (z x hx)⟩ (and_congr ⟨fun z x hx y => z x hx ((h x (m1 x hx)).mpr y), fun z x hx y => z x hx ((h x (m1 x hx)).mp y)⟩ ⟨fun z x hx y => z x hx ((h x (m4 x hx)).mpr y), fun z x hx y => z x hx ((h x (m4 x hx)).mp y)⟩))
/-- some world is met -/
def Sat (S : List Rl) : Prop := ∃ t : W, ∀ r ∈ S, tkB r (t, t) = false
theorem Sat.sub {S S' : List Rl} (h : Sat S) (e : ∀ r ∈ S', r ∈ S) : Sat S' := let ⟨t, ht⟩ := h; ⟨t, fun r hr => ht r (e r hr)⟩
theorem nz_num {own w : W} : nz (num own w) = true ↔ ∃ x, x ∈ own ∧ x ∈ w := by
  unfold nz
  rw [bne_iff_ne, Ne, num_zero]
  exact ⟨fun h => Classical.byContradiction fun c => h fun x hx y => c ⟨x, hx, y⟩, fun ⟨x, h1, h2⟩ z => z x h1 h2⟩
theorem pass_iff {own t : W} {r : Rl} (h : ∀ x ∈ ownN r, x ∈ own) : passI (numR own r) (num own t) (num own t) = !tkB r (t, t) := by
  have m1 : ∀ x ∈ r.1, x ∈ own := fun x hx => h x (List.mem_flatMap.mpr ⟨r.1, by simp [parts], hx⟩)
  have m2 : ∀ x ∈ r.2.1, x ∈ own := fun x hx => h x (List.mem_flatMap.mpr ⟨r.2.1, by simp [parts], hx⟩)
  have m3 : ∀ x ∈ r.2.2.1, x ∈ own := fun x hx => h x (List.mem_flatMap.mpr ⟨r.2.2.1, by simp [parts], hx⟩)
  have m4 : ∀ x ∈ r.2.2.2, x ∈ own := fun x hx => h x (List.mem_flatMap.mpr ⟨r.2.2.2, by simp [parts], hx⟩)
  unfold passI numR
  dsimp only
  rw [num_diff, num_diff, num_and, num_and, Bool.eq_iff_iff, Bool.not_eq_true', ← Bool.not_eq_true, tk_iff]
  simp only [Bool.or_eq_true, nz_num]
  constructor
  · rintro (⟨x, _, hx⟩ | ⟨x, _, hx⟩ | ⟨x, _, hx⟩ | ⟨x, _, hx⟩) ⟨c1, c2, c3, c4⟩
    · obtain ⟨a, b⟩ := List.mem_filter.mp hx
      have := c1 x a
      simp [this] at b
    · obtain ⟨a, b⟩ := List.mem_filter.mp hx
      exact c4 x a (of_decide_eq_true b)
    · obtain ⟨a, b⟩ := List.mem_filter.mp hx
      exact c3 x a (of_decide_eq_true b)
    · obtain ⟨a, b⟩ := List.mem_filter.mp hx
      have := c2 x a
      simp [this] at b
  · intro c
    refine Classical.byContradiction fun z => c ⟨fun x hx => ?_, fun x hx => ?_, fun x hx y => ?_, fun x hx y => ?_⟩
    · exact Classical.byContradiction fun y => z (.inl ⟨x, m3 x hx, List.mem_filter.mpr ⟨hx, by simp [y]⟩⟩)
    · exact Classical.byContradiction fun y => z (.inr (.inr (.inr ⟨x, m2 x hx, List.mem_filter.mpr ⟨hx, by simp [y]⟩⟩)))
    · exact z (.inr (.inr (.inl ⟨x, m1 x hx, List.mem_filter.mpr ⟨hx, by simp [y]⟩⟩)))
    · exact z (.inr (.inl ⟨x, m4 x hx, List.mem_filter.mpr ⟨hx, by simp [y]⟩⟩))
theorem names_own {S : List Rl} {own : W} (h : ∀ z ∈ namesL S, z ∈ own) {r : Rl} (hr : r ∈ S) : ∀ x ∈ ownN r, x ∈ own := fun x hx => h x (List.mem_flatMap.mpr ⟨r, hr, hx⟩)
theorem okW_iff {own t : W} {S : List Rl} (h : ∀ z ∈ namesL S, z ∈ own) : okW own S t = true ↔ ∀ r ∈ S, tkB r (t, t) = false := by
  unfold okW agreeI
  rw [List.all_map, List.all_eq_true]
  refine forall_congr' fun r => forall_congr' fun hr => ?_
  show passI _ _ _ = true ↔ _
  rw [pass_iff (names_own h hr), Bool.not_eq_true']
/-- t within own -/
def within (own t : W) : W := own.filter fun x => decide (x ∈ t)
theorem within_every {own t : W} : within own t ∈ everyW own := mem_every.mpr List.filter_sublist
theorem within_tk {own t : W} {r : Rl} (h : ∀ x ∈ ownN r, x ∈ own) : tkB r (within own t, within own t) = tkB r (t, t) := tk_same fun x hx => by
  unfold within
  rw [List.mem_filter]
  exact ⟨fun ⟨_, b⟩ => of_decide_eq_true b, fun b => ⟨h x hx, decide_eq_true b⟩⟩
theorem sat_diag {own : W} {S : List Rl} (h : ∀ z ∈ namesL S, z ∈ own) : Sat S ↔ ∃ a ∈ diag own, ∀ r ∈ S, tkB r a = false := by
  constructor
  · rintro ⟨t, ht⟩
    exact ⟨(within own t, within own t), List.mem_map.mpr ⟨_, within_every, rfl⟩, fun r hr => by rw [within_tk (names_own h hr)]; exact ht r hr⟩
  · rintro ⟨a, ha, z⟩
    obtain ⟨t, _, rfl⟩ := List.mem_map.mp ha
    exact ⟨t, z⟩
theorem has_iff {own : W} {S : List Rl} (h : ∀ z ∈ namesL S, z ∈ own) : hasB own S = true ↔ Sat S := by
  unfold hasB
  rw [decide_eq_true_iff]
  constructor
  · intro ne
    obtain ⟨t, ht⟩ := List.exists_mem_of_ne_nil _ ne
    exact ⟨t, (okW_iff h).mp (List.mem_filter.mp ht).2⟩
  · rintro ⟨t, ht⟩ e
    have : within own t ∈ (everyW own).filter (okW own S) := List.mem_filter.mpr ⟨within_every, (okW_iff h).mpr fun r hr => by rw [within_tk (names_own h hr)]; exact ht r hr⟩
    rw [e] at this
    cases this
theorem found_none {own : W} {S : List Rl} (h : ∀ z ∈ namesL S, z ∈ own) (no : ¬ Sat S) : (everyW own).filter (fdB S own) = [] := by
  rw [List.filter_eq_nil_iff]
  intro t ht e
  have : FoundI (S.map (numR own)) (num own t) := @of_decide_eq_true _ (Classical.propDecidable _) e
  exact no ⟨t, (okW_iff h).mp this.1⟩
end Rw
namespace Rw
open PySem PySem.Spec PyProof.Rows L2
/-! ### Program.facts, in -/
theorem hu65 {k : Nat} {A : Around} (r : Room k A) : A.units + 65 < cLine := by have := r.un; omega
section
variable {X : Cx}
/-- x in y, y a tuple of data -/
def rInDT (K : PySem.W.Frag) : R2 := fun x y H Q => ∃ d ds, Dp K H x d ∧ Dp K H y (.tuple ds) ∧ SeqAt.shaped d = true ∧ SeqAt.shaped (.tuple ds) = true ∧ Q (.bl (ds.any fun z => PyData.eqv z d)) H
theorem op_inDT (hu : X.A.units + 65 < cLine) : OpR X (compareOp .In) (rInDT X.K) := by
  intro pins s σ H x y v u Q I rx ry h
  obtain ⟨d, ds, hd, he, sd, se, q⟩ := h
  obtain ⟨as, r1⟩ := Dp.reads I d x v hd rx
  obtain ⟨bs, r2⟩ := Dp.reads I (.tuple ds) y u he ry
  exact SeqAt.in_tuple_reads r2 r1 (SeqAt.canLay_of_shaped se) (SeqAt.canLay_of_shaped sd) (room_in_shaped sd hu) ⟨.bl _, H, I, rfl, q⟩
end
section
variable {P : Program} {w : World} {K : PySem.W.Frag} {mg : Str → Option Value} {base : Heap} {f : Addr} {fd : FuncData} {k : Nat}
/-- thing in one -/
def spContains (K : PySem.W.Frag) (C : Addr) : Sp := fun vs H Q _ => ∃ (x y : V) (S : List Rl) (d : PyData), vs = [x, y] ∧ PgAt K C H x S ∧ (∀ r ∈ S, IsR r) ∧ Dp K H y d ∧ SeqAt.shaped d = true ∧ Q (.bl ((S.map rd).any fun z => PyData.eqv z d)) H
theorem ok_contains {C : Addr} (F : Fun K "__contains__" "Program.__contains__" sContains f fd) (c : Cls K C) (n : NoAttr K C "_rules") : FnOk P w K mg base CX0 (k + 1) f fd ["self", "thing"] (spContains K C) := by
  refine F.ok scContains (fun vs H Q E h => ?_) (fun cdv A outer s H vs Q E hr h => ?_)
  · obtain ⟨x, y, S, d, rfl, _⟩ := h
    rfl
  obtain ⟨x, y, S, d, rfl, ⟨a, dx, t, ys, rfl, h1, h2, h3⟩, hI, hy, sh, q⟩ := h
  refine ⟨_, pss_one (ps_ret (pe_cmpR (op_inDT (hu65 hr)) (pv 1) (pe_fld (pv 0) rfl) (by rfl))), ?_⟩
  exact ⟨y, rfl, .ref a, rfl, a, C, dx, _, .ref t, rfl, h1, c, n, rfl, d, S.map rd, hy, .tup h2 h3, sh, shaped_rdT hI, q⟩
end
end Rw
namespace Rw
open PySem PySem.Spec PyProof.Rows L2
/-! ### a table of sixteen slots, filled anew -/
theorem all15 : ((List.range 16).all fun i => (List.range 16).all fun j => (List.range 16).any fun k => lcgI 15 i k == j) = true := by decide +kernel
theorem meets15 (h : Int) {j : Nat} (hj : j ≤ 15) : ∃ n, n ≤ 27 ∧ runI 15 (SetTable.bits h) n = j := by
  have hi := runI_le 15 (SetTable.bits h) 12
  have a1 := List.all_eq_true.mp all15 (runI 15 (SetTable.bits h) 12) (List.mem_range.mpr (by omega))
  have a2 := List.all_eq_true.mp a1 j (List.mem_range.mpr (by omega))
  obtain ⟨k, hk, e⟩ := List.any_eq_true.mp a2
  have kl := List.mem_range.mp hk
  refine ⟨12 + k, by omega, ?_⟩
  rw [runI_tail (bits_lt h)]
  exact beq_iff_eq.mp e
theorem way15_le (h : Int) (k : Nat) : way 15 h k ≤ 15 := by
  have h0 : SetTable.bits h % (15 + 1) ≤ 15 := by omega
  have z := nth_in (m := 15) k (runAt 15 (SetTable.bits h % (15 + 1)) (SetTable.bits h)) (by
    have := runEnd_bd h0
    show SetTable.bits h % (15 + 1) + (SetTable.runEnd 15 (SetTable.bits h % (15 + 1)) - SetTable.bits h % (15 + 1)) ≤ 15
    omega)
  show (nth 15 (runAt 15 (SetTable.bits h % (15 + 1)) (SetTable.bits h)) k).j ≤ 15
  omega
theorem free15 (owner : Array (Option Nat)) (h : Int) {j : Nat} (hj : j ≤ 15) (hf : oAt owner j = none) :
    ∃ i, SetTable.layClean.free 15 owner (SetTable.turns 15) (SetTable.bits h % (15 + 1)) (SetTable.bits h) = some i ∧ i ≤ 15 ∧ oAt owner i = none := by
  obtain ⟨n, hn, e⟩ := meets15 h hj
  have here : oAt owner (way 15 h (off 15 (SetTable.bits h % (15 + 1)) (SetTable.bits h) n)) = none := by
    have z : way 15 h (off 15 (SetTable.bits h % (15 + 1)) (SetTable.bits h) n) = j := by
      unfold way
      rw [nth_off, itL_run]
      exact e
    rw [z, hf]
  obtain ⟨K, k1, k2, k3⟩ := st_least (p := fun k => oAt owner (way 15 h k) = none) _ here
  refine ⟨way 15 h K, free_spec 15 owner _ n _ _ K (by show n < 30; omega) k1 (fun k hk => ?_) ?_, way15_le h K, k2⟩
  · rw [Option.isNone_eq_false_iff, Option.isSome_iff_ne_none]
    exact k3 k hk
  · rw [Option.isNone_iff_eq_none]
    exact k2
/-- n keys sit in sixteen slots -/
structure Sit (n : Nat) (owner : Array (Option Nat)) : Prop where
  sz : owner.size = 16
  all : ∀ k, k < n → ∃ j, j ≤ 15 ∧ oAt owner j = some k
  ps : ∃ ps : List Nat, ps.length = n ∧ ∀ j, j ≤ 15 → oAt owner j ≠ none → j ∈ ps
theorem Sit.fold : ∀ (rest : List Int) (n : Nat) (owner : Array (Option Nat)), Sit n owner → n + rest.length ≤ 15 →
    ∃ o2, rest.foldl (stepF 15) (some (owner, n)) = some (o2, n + rest.length) ∧ Sit (n + rest.length) o2
  | [], n, owner, W, _ => ⟨owner, rfl, W⟩
  | h :: rest, n, owner, W, hl => by
    rw [List.length_cons] at hl
    obtain ⟨ps, p1, p2⟩ := W.ps
    obtain ⟨j0, b0, n0⟩ := st_missing ps 16 (by omega)
    have f0 : oAt owner j0 = none := Classical.byContradiction fun z => n0 (p2 j0 (by omega) z)
    obtain ⟨i, e, il, fi⟩ := free15 owner h (j := j0) (by omega) f0
    have self := oAt_set_self (owner := owner) (some n) (show i < owner.size by rw [W.sz]; omega)
    have W2 : Sit (n + 1) (owner.setIfInBounds i (some n)) := by
      refine ⟨by rw [Array.size_setIfInBounds, W.sz], fun k hk => ?_, i :: ps, by rw [List.length_cons, p1], fun j hj hne => ?_⟩
      · rcases Nat.lt_or_ge k n with c | c
        · obtain ⟨j, hj, ej⟩ := W.all k c
          have ne : j ≠ i := fun z => by
            rw [z, fi] at ej
            exact nomatch ej
          exact ⟨j, hj, by rw [oAt_set_ne _ ne, ej]⟩
        · obtain rfl : k = n := by omega
          exact ⟨i, il, self⟩
      · by_cases c : j = i
        · rw [c]
          exact List.mem_cons_self
        · rw [oAt_set_ne _ c] at hne
          exact List.mem_cons_of_mem _ (p2 j hj hne)
    obtain ⟨o2, g1, g2⟩ := Sit.fold rest (n + 1) _ W2 (by omega)
    rw [show n + (h :: rest).length = n + 1 + rest.length by rw [List.length_cons]; omega]
    refine ⟨o2, ?_, g2⟩
    rw [List.foldl_cons, stepF_some e]
    exact g1
theorem laid15 (finger moves : Nat) (led plain : Bool) {hs : Array Int} (hn : hs.size ≤ 15) : ∃ t order, SetTable.laid 15 finger moves led plain hs = some (t, order) ∧ order.toList.Perm (List.range hs.size) ∧ Ris t.place.toList ∧ t.place.size = hs.size ∧ t.mask = 15 ∧ t.led = led ∧ t.dummies = #[] := by
  have init : Sit 0 (Array.replicate 16 none) := ⟨by simp, (fun k hk => absurd hk (Nat.not_lt_zero _)), [], rfl, fun j hj e => absurd (oAt_init (m := 15) hj) e⟩
  obtain ⟨owner, f, W⟩ := Sit.fold hs.toList 0 _ init (by rw [Array.length_toList]; omega)
  have lc : SetTable.layClean 15 hs = some owner := by
    rw [layClean_eq]
    show Option.map _ (hs.toList.foldl (stepF 15) (some (Array.replicate 16 none, 0))) = _
    rw [f]
    rfl
  rw [Nat.zero_add, Array.length_toList] at W
  have e : SetTable.laid 15 finger moves led plain hs = some ({ mask := 15, place := ((liveOf 15 owner).map (·.1)).toArray, dummies := #[], finger, led, moves, plain }, ((liveOf 15 owner).map (·.2)).toArray) := by
    unfold SetTable.laid
    rw [lc]
    rfl
  have sz : owner.size = 15 + 1 := W.sz
  have rl := ris_live (fun j => owner.getD j none) (List.range 16) (by
    unfold Ris
    exact List.pairwise_lt_range)
  have r1 : Ris ((liveOf 15 owner).map (·.1)) := rl.1
  have hlen : (liveOf 15 owner).length = hs.size := by
    obtain ⟨ps, p1, p2⟩ := W.ps
    have nd : ((liveOf 15 owner).map (·.1)).Nodup := List.Pairwise.imp (fun h => Nat.ne_of_lt h) r1
    have a := nat_nodup_len ((liveOf 15 owner).map (·.1)) ps nd fun x hx => by
      obtain ⟨⟨y, k⟩, hq, rfl⟩ := List.mem_map.mp hx
      obtain ⟨b1, b2⟩ := (mem_live sz).1 hq
      exact p2 y b1 (by rw [b2]; exact fun z => nomatch z)
    have b := nat_nodup_len (List.range hs.size) ((liveOf 15 owner).map (·.2)) List.nodup_range fun k hk => by
      obtain ⟨j, b1, b2⟩ := W.all k (List.mem_range.mp hk)
      exact List.mem_map.mpr ⟨(j, k), (mem_live sz).2 ⟨b1, b2⟩, rfl⟩
    rw [List.length_map, p1] at a
    rw [List.length_map, List.length_range] at b
    omega
  refine ⟨_, _, e, ?_, r1, by rw [List.size_toArray, List.length_map, hlen], rfl, rfl, rfl⟩
  refine perm_range hs.size _ (by show ((liveOf 15 owner).map (·.2)).length = _; rw [List.length_map, hlen]) fun k hk => ?_
  obtain ⟨j, b1, b2⟩ := W.all k hk
  exact List.mem_map.mpr ⟨(j, k), (mem_live sz).2 ⟨b1, b2⟩, rfl⟩
end Rw
namespace Rw
open PySem PySem.Spec PyProof.Rows L2
/-! ### a set walked at once, and asked for a key -/
section
variable {P : Program} {w : World} {A : Around} {E : Value → Shared → Prop} {s : Shared} {a : Addr} {L : List (Addr × NK)} {es : Array (Int × Value)} {ep : Nat} {t : SetTable}
theorem walk_perm {o : Obj} (ho : s.heap.get? a = some o) (hd : o.data = .set es ep t) (hf : t.fits es.size = true) (hl : w.params.followText "set-order" = true ∨ t.led = true) {Q : Array (Int × Value) → Shared → Prop}
    (hQ : ∀ out d, out.toList.Perm es.toList → Q out { s with drawn := d }) : wpAny (model P w) A (setWalk a) Q E s := by
  unfold setWalk
  refine wpAny_bind (wpAny_setState_of ho hd hf ?_)
  dsimp only
  refine wpAny_bind (wpAny_byText ?_)
  by_cases bt : w.params.followText "set-order" = true
  · refine wp_if_pos bt ?_
    exact wpAny_bind (wpAny_askSetting (wpAny_pure (hQ _ s.drawn (pick_perm _ es))))
  · refine wp_if_neg bt ?_
    have led : t.led = true := hl.resolve_left bt
    by_cases dr : (!t.plain && decide (es.size > 1)) = true
    · first
        | refine wp_if_pos dr ?_
        | refine wpAny_bind (wp_if_pos dr ?_)
      exact wpAny_bind (drawOrder_at _ _ s _ (by rw [Array.length_toList]; exact Nat.le_refl _) fun ys d p => wpAny_pure (hQ _ d p))
    · first
        | refine wp_if_neg dr ?_
        | refine wpAny_bind (wp_if_neg dr ?_)
      refine wpAny_bind (wpAny_of_eq (a := ()) ?_ ?_)
      · show (if (!t.led && decide (es.size > 1)) = true then unsupported "set:maker-not-led" else pure ()) = pure ()
        rw [led]
        rfl
      · exact wpAny_pure (hQ es s.drawn (List.Perm.refl _))
/-- the sets are not quiet: the first has a tuple -/
theorem not_quiet (R : TSet P w s.heap a L es ep t) {p : Addr × NK} {L' : List (Addr × NK)} (hL : L = p :: L') {others : List Addr} (hp : ∃ o xs n, s.heap.get? p.1 = some o ∧ o.cls = .type "tuple" ∧ o.data = .seq xs n) {Q : Bool → Shared → Prop} (hQ : Q false s) :
    wpAny (model P w) A (setsQuiet (a :: others)) Q E s := by
  obtain ⟨o, ho, hex, hd⟩ := R.ob
  obtain ⟨u, xs, n, hu, hc, _⟩ := hp
  have e0 : es.toList = (p.2.hash w, Value.ref p.1) :: ents w L' := by
    rw [R.en, hL]
    rfl
  unfold setsQuiet
  refine wpAny_bind ?_
  rw [List.forIn_cons]
  refine wpAny_bind ?_
  refine wpAny_bind (wpAny_setEntries_of ho hd R.fits ?_)
  refine wpAny_bind ?_
  rw [← Array.forIn_toList, e0, List.forIn_cons]
  refine wpAny_bind ?_
  dsimp only
  refine wpAny_bind (wpAny_specialOf (T := "tuple") ⟨u, hu, hc⟩ F.slot_tuple_eq.lookup ?_)
  refine wp_if_pos (by decide) ?_
  refine wpAny_pure ?_
  refine wpAny_pure ?_
  refine wpAny_pure ?_
  exact wpAny_pure (wpAny_pure hQ)
theorem nested_tup {h : Heap} {k : NK} {b : Addr} (x : NestedIs h k (.ref b)) : ∃ o xs n, h.get? b = some o ∧ o.cls = .type "tuple" ∧ o.data = .seq xs n := by
  cases x with
  | tup h1 h2 h3 h4 => exact ⟨_, _, _, h1, h2, h3⟩
theorem unseen_perm (R : TSet P w s.heap a L es ep t) {others : List Addr} {filled : Option Addr} {Q : Array (Int × Value) → Shared → Prop}
    (hQ : ∀ out d, out.toList.Perm es.toList → Q out { s with drawn := d }) : wpAny (model P w) A (setWalkUnseen a others filled) Q E s := by
  obtain ⟨o, ho, hex, hd⟩ := R.ob
  have wk := walk_perm (A := A) (E := E) (P := P) ho hd R.fits R.led hQ
  unfold setWalkUnseen
  refine wpAny_bind (wpAny_setState_of ho hd R.fits ?_)
  dsimp only
  refine wpAny_bind (wpAny_byText ?_)
  by_cases c : (w.params.followText "set-order" || (t.led && t.plain) || decide (es.size ≤ 1)) = true
  · refine wp_if_pos c ?_
    first
      | exact wk
      | exact wpAny_bind (wpAny_mono wk (fun _ _ h => wpAny_pure h) fun _ _ h => h)
  · refine wp_if_neg c ?_
    have many : ¬ es.size ≤ 1 := fun z => c (by rw [decide_eq_true z, Bool.or_true])
    have sz := size_of_ents R.en
    obtain ⟨p, L', hL⟩ : ∃ p L', L = p :: L' := by
      cases L with
      | nil => exact absurd (by rw [sz]; decide) many
      | cons p L' => exact ⟨p, L', rfl⟩
    have pk := R.ks p (by rw [hL]; exact List.mem_cons_self)
    refine wpAny_bind (not_quiet R hL (nested_tup pk.1) ?_)
    refine wp_if_pos (by decide) ?_
    first
      | exact wk
      | exact wpAny_bind (wpAny_mono wk (fun _ _ h => wpAny_pure h) fun _ _ h => h)
/-! the search that adds nothing -/
theorem seek (R : TSet P w s.heap a L es ep t) {x : Addr} {k : NK} (hx : TupK s.heap k x) (hu : A.units + 8 < cLine) {g : Int} (hg : g = k.hash w) {K : Nat} (hf : K < 10 * SetTable.turns t.mask)
    (free : way t.mask g K ∉ t.place.toList) (full : ∀ c, c < K → way t.mask g c ∈ t.place.toList) {Q : SetFound → Shared → Prop}
    (yes : ∀ (i : Nat) p, L[i]? = some p → p.2 = k → Q (.there (some i)) s) (no : k ∉ L.map (·.2) → Q (.free (way t.mask g K) false) s) :
    ∀ (f c : Nat) (stand : Option SetTable.Probe), stand.getD (t.probeStart g) = st t.mask g c → c ≤ K → K - c < f →
      (∀ (i : Nat) p, L[i]? = some p → p.2 = k → ∃ c', c ≤ c' ∧ c' < K ∧ t.place.toList[i]? = some (way t.mask g c')) →
      wpAny (model P w) A (setSearchFrom a (.ref x) g false f stand) Q E s
  | 0, c, stand, _, _, h, _ => absurd h (Nat.not_lt_zero _)
  | f + 1, c, stand, hst, hc, hlt, ahead => by
    obtain ⟨o, ho, hex, hd⟩ := R.ob
    have big := R.fits
    have hashOf : ∀ (i : Nat) p, L[i]? = some p → (es[i]?.map (·.1)).getD 0 = p.2.hash w := fun i p hp => by
      rw [R.at hp]
      rfl
    have oddM := mask_odd R.tab.mok
    rw [setSearchFrom_succ]
    refine wpAny_bind (wpAny_setState_of ho hd big ?_)
    dsimp only
    refine wp_if_neg (by unfold SetTable.gaveWay; rw [oddM]; decide) ?_
    try refine wpAny_bind (wpAny_pure ?_)
    have jAt : ∀ q, (nth t.mask (st t.mask g c) q).j = way t.mask g (c + q) := fun q => congrArg SetTable.Probe.j (st_more t.mask g c q)
    rcases go_spec t R.tab.ris R.tab.dm (fun i => (es[i]?.map (·.1)).getD 0) g (10 * SetTable.turns t.mask) (K - c) (st t.mask g c) (st_dummy _ _ _) (by omega)
      (fun q hq => by rw [jAt]; exact full (c + q) (by omega)) (by rw [jAt, show c + (K - c) = K by omega]; exact free) with ⟨q, i, hq, hi, hh, first, met⟩ | ⟨none_, met⟩
    · have met' : t.probe (fun i => (es[i]?.map (·.1)).getD 0) g (stand.getD (t.probeStart g)) = some (.candidate (way t.mask g (c + q)) i (st t.mask g (c + (q + 1)))) := by
        rw [hst, ← jAt, ← st_more]
        exact met
      rw [met']
      dsimp only
      rw [jAt] at hi
      have il : i < L.length := by
        have z1 : i < t.place.toList.length := (List.getElem?_eq_some_iff.mp hi).1
        have z2 := R.tab.sz
        rw [hashes_len] at z2
        rw [Array.length_toList] at z1
        omega
      obtain ⟨p, hp⟩ : ∃ p, L[i]? = some p := ⟨L[i], List.getElem?_eq_getElem il⟩
      have pm : p ∈ L := List.mem_of_getElem? hp
      have pk := R.ks p pm
      have go : wpAny (model P w) A (searchRest a (.ref x) g false f es t (way t.mask g (c + q)) i (st t.mask g (c + (q + 1)))) Q E s := by
        unfold searchRest
        rw [R.at hp]
        dsimp only
        refine wpAny_bind (wpAny_holding ((nestedKind P w).eqBool (x := p.2) (y := k) hu pk hx ?_))
        refine wpAny_bind (wpAny_setState_of ho hd big ?_)
        dsimp only
        refine wp_if_neg (by simp) ?_
        try refine wpAny_bind (wpAny_pure ?_)
        rw [sameMem]
        dsimp only
        have live : t.slot (way t.mask g (c + q)) = .live i := slot_live R.tab.ris hi
        simp only [if_true, live, R.at hp]
        refine wpAny_bind (wpAny_isSame_ref_self (wpAny_bind (wpAny_pure ?_)))
        simp only [if_true]
        by_cases same : p.2 = k
        · refine wp_if_pos (by simp [same]) (wpAny_pure (yes i p hp same))
        · refine wp_if_neg (by simp [same]) ?_
          refine seek R hx hu hg hf free full yes no f (c + (q + 1)) _ rfl (by omega) (by omega) fun i0 p0 h0 k0 => ?_
          obtain ⟨c', b1, b2, b3⟩ := ahead i0 p0 h0 k0
          refine ⟨c', ?_, b2, b3⟩
          by_cases ec : c' = c + q
          · exfalso
            rw [ec] at b3
            have l0 := slot_live R.tab.ris b3
            rw [live] at l0
            injection l0 with l0
            rw [← l0, hp] at h0
            exact same ((congrArg Prod.snd (Option.some.inj h0)).trans k0)
          · by_cases lt : c' < c + q
            · exfalso
              refine first (c' - c) i0 (by omega) (by rw [jAt, show c + (c' - c) = c' by omega]; exact b3) ?_
              show (es[i0]?.map (·.1)).getD 0 = g
              rw [hashOf i0 p0 h0, k0, hg]
            · omega
      by_cases hl : t.led = true
      · refine wp_if_neg (by simp [hl]) ?_
        try refine wpAny_bind (wpAny_pure ?_)
        exact go
      · refine wp_if_pos (by simp [hl]) (wpAny_bind (unseen hx (fun y hy => ?_) ?_))
        · obtain ⟨e, he, ee⟩ := List.mem_map.mp hy
          have he1 : e ∈ es ∧ e.1 = g := by simpa using he
          have he2 : e ∈ es.toList := by simpa using he1.1
          rw [R.en] at he2
          obtain ⟨p2, hp2, e2⟩ := List.mem_map.mp he2
          exact ⟨p2.2, p2.1, by rw [← ee, ← e2], R.ks p2 hp2⟩
        · refine wp_if_neg (by decide) ?_
          try refine wpAny_bind (wpAny_pure ?_)
          exact go
    · have met' : t.probe (fun i => (es[i]?.map (·.1)).getD 0) g (stand.getD (t.probeStart g)) = some (.empty (way t.mask g K) none) := by
        have e2 : way t.mask g K = (nth t.mask (st t.mask g c) (K - c)).j := by
          rw [jAt, show c + (K - c) = K by omega]
        rw [hst, e2]
        exact met
      rw [met']
      dsimp only
      refine wpAny_pure (no fun hm => ?_)
      obtain ⟨p0, m0, k0⟩ := List.mem_map.mp hm
      obtain ⟨i0, hi0, e0⟩ := List.getElem_of_mem m0
      have h0 : L[i0]? = some p0 := by rw [List.getElem?_eq_getElem hi0, e0]
      obtain ⟨c', b1, b2, b3⟩ := ahead i0 p0 h0 k0
      refine none_ (c' - c) i0 (by omega) (by rw [jAt, show c + (c' - c) = c' by omega]; exact b3) ?_
      show (es[i0]?.map (·.1)).getD 0 = g
      rw [hashOf i0 p0 h0, k0, hg]
theorem soughtI (R : TSet P w s.heap a L es ep t) {x : Addr} {k : NK} (hx : TupK s.heap k x) (hu : A.units + 8 < cLine) {Q : Option Nat → Shared → Prop} (yes : ∀ (i : Nat) p, L[i]? = some p → p.2 = k → Q (some i) s) (no : k ∉ L.map (·.2) → Q none s) :
    wpAny (model P w) A (setFind a (.ref x) (k.hash w)) Q E s := by
  obtain ⟨o, ho, hex, hd⟩ := R.ob
  have space := R.room
  obtain ⟨K, kf, free, full⟩ := R.tab.first (by rw [hashes_len]; omega) (k.hash w)
  have small : K < 100000 := by
    have : 10 * SetTable.turns t.mask ≤ 1420 := by
      unfold SetTable.turns
      rcases R.tab.mok with e | e | e <;> omega
    omega
  unfold setFind
  show wpAny (model P w) A (setState a >>= _) Q E s
  refine wpAny_bind (wpAny_setState_of ho hd R.fits ?_)
  dsimp only
  refine wp_if_neg (by simp [byScan, Value.scannable]) ?_
  try refine wpAny_bind (wpAny_pure ?_)
  unfold setSearch
  refine wpAny_bind (seek R hx hu rfl kf free full (fun i p hi hk => ?_) (fun hn => ?_) 100000 0 none rfl (Nat.zero_le _) (by omega) fun i p hp hk => ?_)
  · exact wpAny_pure (yes i p hi hk)
  · exact wpAny_pure (no hn)
  · have hi : (hashes w L)[i]? = some (k.hash w) := by
      unfold hashes
      rw [List.getElem?_map, hp, ← hk]
      rfl
    have il : i < t.place.toList.length := by
      have z1 : i < L.length := (List.getElem?_eq_some_iff.mp hp).1
      have z2 := R.tab.sz
      rw [hashes_len] at z2
      rw [Array.length_toList]
      omega
    have hj := List.getElem?_eq_getElem il
    obtain ⟨c, hc, e⟩ := R.tab.before free hi hj
    exact ⟨c, Nat.zero_le _, hc, by rw [hj, e]⟩
theorem sought (R : TSet P w s.heap a L es ep t) {x : Addr} {k : NK} (hx : TupK s.heap k x) (hu : A.units + 8 < cLine) {Q : Option Nat → Shared → Prop} (h : ∀ r : Option Nat, r.isSome = decide (k ∈ L.map (·.2)) → Q r s) :
    wpAny (model P w) A (setFind a (.ref x) (k.hash w)) Q E s := by
  refine soughtI R hx hu (fun i p hi hk => h (some i) ?_) fun hn => h none ?_
  · rw [decide_eq_true (List.mem_map.mpr ⟨p, List.mem_of_getElem? hi, hk⟩)]
    rfl
  · rw [decide_eq_false hn]
    rfl
end
end Rw
namespace Rw
open PySem PySem.Spec PyProof.Rows L2 Builtin.Frozenset
/-! ### set - set -/
theorem entry_set_sub : entryFor table "set.__sub__" = some Builtin.«frozenset.__sub__» :=
  entryFor_alias (id' := "frozenset.__sub__") (by kernel_rfl) rfl (by decide +kernel) (by kernel_rfl)
section
variable {P : Program} {w : World} {A : Around} {E : Value → Shared → Prop} {s : Shared} {a : Addr} {L : List (Addr × NK)} {es : Array (Int × Value)} {ep : Nat} {t : SetTable}
theorem any_set {Q : Bool → Shared → Prop} (hT : s.TypeIs (.ref a) "set") (h : Q true s) : wpAny (model P w) A (isAnySet (.ref a)) Q E s := by
  unfold isAnySet orM
  refine wpAny_bind (wpAny_isInstance (b := true) hT sub_set_self ?_)
  exact wpAny_pure h
theorem size_of {o : Obj} (ho : s.heap.get? a = some o) (hd : o.data = .set es ep t) (hf : t.fits es.size = true) {Q : Nat → Shared → Prop} (h : Q es.size s) : wpAny (model P w) A (Builtin.Frozenset.sizeOf a) Q E s := by
  unfold Builtin.Frozenset.sizeOf
  exact wpAny_bind (wpAny_setEntries_of ho hd hf (wpAny_pure h))
theorem base_set {Q : Value → Shared → Prop} (hT : s.TypeIs (.ref a) "set") (h : Q (.type "set") s) : wpAny (model P w) A (baseOf a) Q E s := by
  unfold baseOf
  refine wpAny_bind (wpAny_isInstance (b := true) hT sub_set_self ?_)
  exact wpAny_pure h
theorem new_set {Q : Value → Shared → Prop} (h : Q (.ref s.heap.objs.size) { s with heap := s.heap.push (newSetObj w) }) : wpAny (model P w) A (newSet (.type "set")) Q E s := by
  unfold newSet
  refine wpAny_bind (wpAny_byText ?_)
  dsimp only
  simp only [newObj]
  exact wpAny_bind (wpAny_alloc (wpAny_pure h))
theorem diff_eq (id : String) (s : Addr) (other : Value) : Builtin.Frozenset.difference id s other = (do
    let viaCopy : Sem Value := do
      let r ← copyOf s
      holding [r] (differenceUpdate id (← addrOf r) other)
      return r
    let isSet ← isAnySet other
    if !isSet then
      if (← typeOf other) != .type "dict" then return ← viaCopy
    let o ← addrOf other
    if !isSet && o == sysModules then unsupported "sys.modules:all-start-up-values-wanted"
    let otherSize ← if isSet then Builtin.Frozenset.sizeOf o else pure (← dictEntries o).size
    if (← Builtin.Frozenset.sizeOf s) / 4 > otherSize then rule s!"{id}.much-larger"; return ← viaCopy
    let result ← newSet (← baseOf s)
    let r ← addrOf result
    let was ← setEpoch s
    holding [result] do
      for (h, x) in ← (if isSet then setWalkUnseen s [o, r] (some r) else setWalk s) do
        holding [x] do
          let there ← if isSet then pure (← setFind o x h).isSome else pure (← dictFind o x h).isSome
          if !there then
            let _ ← setAddHashed r x h
        unchanged id s was
    return result) := rfl
/-- entries in another order are entries of the keys in another order -/
theorem ents_perm {L : List (Addr × NK)} {out : List (Int × Value)} (p : out.Perm (ents w L)) : ∃ L2 : List (Addr × NK), out = ents w L2 ∧ L2.Perm L := by
  have key : ∀ {l m : List (Int × Value)}, l.Perm m → ∀ L0, m = ents w L0 → ∃ L2, l = ents w L2 ∧ L2.Perm L0 := by
    intro l m p
    induction p with
    | nil => exact fun L0 e => ⟨L0, e, List.Perm.refl _⟩
    | cons x p ih =>
      intro L0 e
      cases L0 with
      | nil => exact nomatch e
      | cons y L0 =>
        injection e with e1 e2
        obtain ⟨L2, e3, p3⟩ := ih L0 e2
        exact ⟨y :: L2, by rw [e3, e1]; rfl, p3.cons y⟩
    | swap x y l =>
      intro L0 e
      match L0, e with
      | u :: v :: L0, e =>
        injection e with e1 e2
        injection e2 with e2 e3
        exact ⟨v :: u :: L0, by rw [e1, e2, e3]; rfl, List.Perm.swap u v L0⟩
    | trans p q ih1 ih2 =>
      intro L0 e
      obtain ⟨L2, e2, p2⟩ := ih2 L0 e
      obtain ⟨L3, e3, p3⟩ := ih1 L2 e2
      exact ⟨L3, e3, p3.trans p2⟩
  exact key p L rfl
/-- what is not among them -/
def unlike (L M : List (Addr × NK)) : List (Addr × NK) := L.filter fun p => !decide (p.2 ∈ M.map (·.2))
theorem diff_walk {b r : Addr} {Lb : List (Addr × NK)} {eb : Array (Int × Value)} {epb : Nat} {tb : SetTable} {o : Obj} {id : String} {h0 : Heap} {was : Nat}
    (ho0 : h0.get? a = some o) (hd : o.data = .set es ep t) (hf : t.fits es.size = true) (hb0 : TSet P w h0 b Lb eb epb tb) (hk0 : ∀ p ∈ L, TupK h0 p.2 p.1) (hnd : (L.map (·.2)).Nodup) (few : L.length < 76) (hr0 : h0.get? r = none) (hu : A.units + 8 < cLine) (hw : was = ep) :
    ∀ (rest done Lr : List (Addr × NK)) (s : Shared) (er : Array (Int × Value)) (epr : Nat) (tr : SetTable) (Q : PUnit → Shared → Prop), L = done ++ rest → (∀ c u, h0.get? c = some u → s.heap.get? c = some u) → TSet P w s.heap r Lr er epr tr → Lr.Perm (unlike done Lb) →
      (∀ h' Lr er epr tr, (∀ c u, h0.get? c = some u → h'.get? c = some u) → TSet P w h' r Lr er epr tr → Lr.Perm (unlike L Lb) → Q ⟨⟩ { s with heap := h' }) →
      wpAny (model P w) A (forIn (ents w rest) (⟨⟩ : PUnit) fun hx _ => (do
        holding [hx.2] do
          let there ← pure (← setFind b hx.2 hx.1).isSome
          if !there then
            let _ ← setAddHashed r hx.2 hx.1
        unchanged id a was
        pure (ForInStep.yield ⟨⟩))) Q E s
  | [], done, Lr, s, er, epr, tr, Q, e, keep, R, pm, q => by
    rw [List.append_nil] at e
    subst e
    exact wpAny_pure (q s.heap Lr er epr tr keep R pm)
  | (x, k) :: rest, done, Lr, s, er, epr, tr, Q, e, keep, R, pm, q => by
    have hx0 := hk0 (x, k) (by rw [e]; simp)
    have hx : TupK s.heap k x := hx0.kept keep
    have Rb : TSet P w s.heap b Lb eb epb tb := hb0.moved (keep b) fun p hp => (hb0.ks p hp).kept keep
    have ho := keep _ _ ho0
    have e2 : L = (done ++ [(x, k)]) ++ rest := by rw [e, List.append_assoc]; rfl
    have ub : unlike (done ++ [(x, k)]) Lb = unlike done Lb ++ (if k ∈ Lb.map (·.2) then [] else [(x, k)]) := by
      unfold unlike
      rw [List.filter_append]
      congr 1
      by_cases c : k ∈ Lb.map (·.2)
      · rw [if_pos c]
        simp only [List.filter_cons, decide_eq_true c, List.filter_nil]
        rfl
      · rw [if_neg c]
        simp only [List.filter_cons, decide_eq_false c, List.filter_nil]
        rfl
    have last : ∀ {s' : Shared} {Q' : ForInStep PUnit → Shared → Prop}, s'.heap.get? a = some o → Q' (ForInStep.yield ⟨⟩) s' → wpAny (model P w) A (do unchanged id a was; pure (ForInStep.yield ⟨⟩)) Q' E s' := fun {s'} {Q'} ho' hq => by
      unfold unchanged
      refine wpAny_bind (wpAny_bind (wpAny_setEpoch_of ho' hd hf ?_))
      refine wp_if_neg (by rw [hw]; simp) ?_
      exact wpAny_pure (wpAny_pure hq)
    show wpAny (model P w) A (forIn ((k.hash w, Value.ref x) :: ents w rest) _ _) Q E s
    rw [List.forIn_cons]
    refine wpAny_bind ?_
    dsimp only
    refine wpAny_bind (wpAny_holding ?_)
    refine wpAny_bind (sought Rb hx hu fun rr hrr => ?_)
    by_cases c : k ∈ Lb.map (·.2)
    · rw [decide_eq_true c] at hrr
      rw [hrr]
      refine wpAny_bind (wpAny_pure ?_)
      refine wp_if_neg (by decide) ?_
      refine wpAny_pure ?_
      refine last ho ?_
      dsimp only
      rw [if_pos c, List.append_nil] at ub
      exact diff_walk ho0 hd hf hb0 hk0 hnd few hr0 hu hw rest (done ++ [(x, k)]) Lr s er epr tr Q e2 keep R (by rw [ub]; exact pm) q
    · rw [decide_eq_false c] at hrr
      rw [hrr]
      refine wpAny_bind (wpAny_pure ?_)
      refine wp_if_pos (by decide) ?_
      rw [if_neg c] at ub
      have lr : Lr.length + 1 < 76 := by
        have z1 := pm.length_eq
        have z2 : (unlike done Lb).length ≤ done.length := List.length_filter_le _ _
        have z3 : L.length = done.length + (rest.length + 1) := by rw [e, List.length_append, List.length_cons]
        omega
      refine wpAny_bind (added R hx hu lr fun bb h' L' es' ep' t' sb R' c1 c2 => ?_)
      have keep' : ∀ c u, h0.get? c = some u → h'.get? c = some u := fun c u hc => (sb.2 c (fun z => by rw [z, hr0] at hc; exact nomatch hc)).trans (keep c u hc)
      refine wpAny_pure ?_
      refine last (keep' _ _ ho0) ?_
      dsimp only
      have nin : k ∉ Lr.map (·.2) := fun hm => by
        have m2 := ((pm.map (·.2)).mem_iff).mp hm
        obtain ⟨p, hp, ep'⟩ := List.mem_map.mp m2
        have hp1 := (List.mem_filter.mp hp).1
        rw [e, List.map_append, List.map_cons] at hnd
        have := (List.nodup_append.mp hnd).2.2
        exact this p.2 (List.mem_map.mpr ⟨p, hp1, rfl⟩) k List.mem_cons_self ep'
      exact diff_walk ho0 hd hf hb0 hk0 hnd few hr0 hu hw rest (done ++ [(x, k)]) L' { s with heap := h' } es' ep' t' Q e2 keep' R' (by
        rw [ub]
        exact (c2 nin).trans ((pm.cons (x, k)).trans (List.perm_append_singleton (x, k) _).symm)) q
end
end Rw
namespace Rw
open PySem PySem.Spec PyProof.Rows L2 Builtin.Frozenset
section
variable {P : Program} {w : World} {A : Around} {E : Value → Shared → Prop} {s : Shared}
/-- what is sorted afterwards: a set's entries, whatever its table -/
structure SSet (P : Program) (w : World) (h : Heap) (a : Addr) (L : List (Addr × NK)) (es : Array (Int × Value)) (ep : Nat) (t : SetTable) : Prop where
  ob : ∃ o, h.get? a = some o ∧ o.cls = .type "set" ∧ o.data = .set es ep t
  en : es.toList = ents w L
  fit : t.fits es.size = true
  ris : Ris t.place.toList
  led : w.params.followText "set-order" = true ∨ t.led = true
theorem TSet.ss {h : Heap} {a : Addr} {L : List (Addr × NK)} {es : Array (Int × Value)} {ep : Nat} {t : SetTable} {s : Shared} (e : h = s.heap) (R : TSet P w s.heap a L es ep t) : SSet P w h a L es ep t := by
  subst e
  obtain ⟨o, ho, hex, hd⟩ := R.ob
  exact ⟨⟨o, ho, hex.1, hd⟩, R.en, R.fits, R.tab.ris, R.led⟩
/-- the way of a walk -/
theorem diff_near {id : String} {a b : Addr} {L1 L2 : List (Addr × NK)} {e1 e2 : Array (Int × Value)} {p1 p2 : Nat} {t1 t2 : SetTable} (R1 : TSet P w s.heap a L1 e1 p1 t1) (R2 : TSet P w s.heap b L2 e2 p2 t2) (few : L1.length / 4 ≤ L2.length) (hu : A.units + 8 < cLine)
    {Q : Value → Shared → Prop} (q : ∀ h' d L es ep t, (∀ c u, s.heap.get? c = some u → h'.get? c = some u) → SSet P w h' s.heap.objs.size L es ep t → L.Perm (unlike L1 L2) → Q (.ref s.heap.objs.size) { s with heap := h', drawn := d }) :
    wpAny (model P w) A (Builtin.Frozenset.difference id a (.ref b)) Q E s := by
  obtain ⟨o1, ho1, hex1, hd1⟩ := R1.ob
  obtain ⟨o2, ho2, hex2, hd2⟩ := R2.ob
  have T1 : s.TypeIs (.ref a) "set" := ⟨o1, ho1, hex1.1⟩
  have T2 : s.TypeIs (.ref b) "set" := ⟨o2, ho2, hex2.1⟩
  have s1 := size_of_ents R1.en
  have s2 := size_of_ents R2.en
  rw [diff_eq]
  refine wpAny_bind (any_set T2 ?_)
  refine wp_if_neg (by decide) ?_
  try refine wpAny_bind (wpAny_pure ?_)
  refine wp_if_neg (by simp) ?_
  refine wp_if_pos rfl ?_
  refine wpAny_bind (size_of ho2 hd2 R2.fits ?_)
  dsimp only
  refine wpAny_bind (size_of ho1 hd1 R1.fits ?_)
  refine wp_if_neg (by rw [s1, s2]; omega) ?_
  refine wpAny_bind (base_set T1 ?_)
  refine wpAny_bind (new_set ?_)
  have hr0 : s.heap.get? s.heap.objs.size = none := by
    cases q : s.heap.get? s.heap.objs.size with
    | none => rfl
    | some o => exact absurd (Heap.lt_size q) (Nat.lt_irrefl _)
  have hR : (s.heap.push (newSetObj w)).get? s.heap.objs.size = some (newSetObj w) := Heap.get?_push_size _ rfl
  have kp : ∀ c u, s.heap.get? c = some u → (s.heap.push (newSetObj w)).get? c = some u := fun c u hc => Heap.get?_push_of_some _ hc
  refine wpAny_bind (m := addrOf (.ref s.heap.objs.size)) (wpAny_pure ?_)
  refine wpAny_bind (wpAny_setEpoch_of (kp _ _ ho1) hd1 R1.fits ?_)
  refine wpAny_bind (wpAny_holding ?_)
  refine wpAny_bind ?_
  refine wp_if_pos rfl ?_
  have R1' : TSet P w (s.heap.push (newSetObj w)) a L1 e1 p1 t1 := R1.moved (kp a) fun p hp => (R1.ks p hp).kept kp
  refine unseen_perm (s := { s with heap := s.heap.push (newSetObj w) }) R1' fun out d pm => ?_
  have pm' : out.toList.Perm (ents w L1) := R1.en ▸ pm
  obtain ⟨Lp, eo, pmL⟩ := ents_perm pm'
  rw [← Array.forIn_toList, eo]
  simp only [↓reduceIte]
  refine wpAny_bind (diff_walk (id := id) (a := a) (L := Lp) (h0 := s.heap) (was := p1) ho1 hd1 R1.fits R2 (fun p hp => R1.ks p (pmL.mem_iff.mp hp)) ((pmL.map (·.2)).nodup_iff.mpr R1.nd) (by rw [pmL.length_eq]; exact R1.few) hr0 hu rfl Lp [] [] { s with heap := s.heap.push (newSetObj w), drawn := d } #[] 0 _ _ rfl kp (TSet.empty hR) (List.Perm.refl _) fun h' Lr er epr tr keep R pmr => ?_)
  refine wpAny_pure (wpAny_pure ?_)
  exact q h' d Lr er epr tr keep (TSet.ss (s := { s with heap := h' }) rfl R) (pmr.trans (pmL.filter _))
end
end Rw
namespace Rw
open PySem PySem.Spec PyProof.Rows L2 Builtin.Frozenset
/-! ### a set copied -/
theorem merge_eq (s o : Addr) : setMerge s o (pure ()) = (do
    if s == o then return
    let (eo, epoch, to) ← setState o
    if eo.isEmpty then return
    setRoomFor s eo.size
    let (_, _, ts) ← setState s
    match ts.road to with
    | .slotForSlot => storeSet s eo { to with finger := ts.finger, led := ts.led && to.led, moves := ts.moves, plain := ts.plain && to.plain }
    | .clean =>
      let (es, t) ← (do
        let some (t, order) := SetTable.laid ts.mask ts.finger ts.moves (led := ts.led && to.led) (plain := ts.plain && to.plain) (eo.map (·.1)) | unsupported "internal:set-table-without-room"
        let es' := order.filterMap (eo[·]?)
        if es'.size != eo.size then unsupported "internal:set-table-lost-an-element"
        pure (es', t) : Sem (Array (Int × Value) × SetTable))
      storeSet s es t
    | .oneByOne =>
      for (h, x) in ← setWalkUnseen o [s] (some s) do
        let _ ← holding [x] (setAddHashed s x h)
        pure ()
        if (← setState o).2.1 != epoch then unsupported "set.changed-during-merge") := rfl
/-- a table of few entries, filled anew -/
theorem laid7 (finger moves : Nat) (led plain : Bool) {hs : Array Int} (hn : hs.size ≤ 7) : ∃ t order, SetTable.laid 7 finger moves led plain hs = some (t, order) ∧ order.toList.Perm (List.range hs.size) ∧ Ris t.place.toList ∧ t.place.size = hs.size ∧ t.mask = 7 ∧ t.led = led ∧ t.dummies = #[] := by
  obtain ⟨t', order, e, p, T, m, l, _, d⟩ := relaid_ok ({ mask := 7, place := #[], dummies := #[], finger := finger, led := led, moves := moves, plain := plain } : SetTable) (hs := hs) (wanted := 1) (M := 7) (by decide +kernel) (.inl rfl) hn
  refine ⟨t', order, ?_, p, T.ris, ?_, m, l, d⟩
  · rw [← e]
    unfold SetTable.relaid
    have z : SetTable.sizeAbove 1 - 1 = 7 := by decide +kernel
    rw [z]
    rfl
  · rw [T.sz, List.length_map, p.length_eq, List.length_range]
section
variable {P : Program} {w : World} {A : Around} {E : Value → Shared → Prop} {s : Shared}
/-- the empty copy, with the room it is given -/
structure Bare (w : World) (h : Heap) (r : Addr) (m : Nat) (t : SetTable) : Prop where
  ob : ∃ o ep, h.get? r = some o ∧ o.cls = .type "set" ∧ o.data = .set #[] ep t
  pl : t.place = #[]
  dm : t.dummies = #[]
  msk : t.mask = m
  led : t.led = !w.params.followText "set-order"
theorem roomed {n : Nat} {r : Addr} (ho : s.heap.get? r = some (newSetObj w)) (h0 : 0 < n) (h8 : n < 8) {Q : Unit → Shared → Prop} (q : ∀ h' t m, Heap.SameBut r s.heap h' → Bare w h' r m t → n ≤ m → (m = 7 ∨ m = 15) → (n ≤ 4 → m = 7) → (5 ≤ n → m = 15) → Q () { s with heap := h' }) :
    wpAny (model P w) A (setRoomFor r n) Q E s := by
  have hf : (SetTable.fresh 0 0 (!w.params.followText "set-order")).fits (#[] : Array (Int × Value)).size = true := by
    unfold SetTable.fits SetTable.fill SetTable.fresh
    simp
  unfold setRoomFor
  refine wpAny_bind (wpAny_setState_of ho rfl hf ?_)
  dsimp only
  have rf : (SetTable.fresh 0 0 (!w.params.followText "set-order")).roomFor n = if n * 5 ≥ 21 then some (n * 2) else none := by
    unfold SetTable.roomFor SetTable.fill SetTable.fresh
    simp
  rw [rf]
  by_cases c : n * 5 ≥ 21
  · rw [if_pos c]
    dsimp only
    rw [setRelay_eq]
    refine wpAny_bind (wpAny_setState_of ho rfl hf ?_)
    dsimp only
    have sz : SetTable.sizeAbove (n * 2) = 16 := by
      have : n = 5 ∨ n = 6 ∨ n = 7 := by omega
      rcases this with rfl | rfl | rfl <;> decide +kernel
    refine wp_if_neg (by rw [sz, sizeLine_eq]; omega) ?_
    have rl : (SetTable.fresh 0 0 (!w.params.followText "set-order")).relaid ((#[] : Array (Int × Value)).map (·.1)) (n * 2) = some ({ mask := 15, place := #[], dummies := #[], finger := 0, led := !w.params.followText "set-order", moves := 1, plain := true }, #[]) := by
      have z : ∀ l : Bool, SetTable.laid 15 0 1 l true #[] = some (({ mask := 15, place := #[], dummies := #[], finger := 0, led := l, moves := 1, plain := true } : SetTable), #[]) := by
        intro l
        cases l <;> decide +kernel
      unfold SetTable.relaid
      rw [sz, show Array.map (fun x : Int × Value => x.fst) #[] = (#[] : Array Int) by simp]
      exact z _
    rw [rl]
    dsimp only
    refine wpAny_bind (wpAny_pure ?_)
    dsimp only
    refine wpAny_storeSet_of ho rfl ?_ (by rw [sizeLine_eq]; decide)
    refine q _ _ 15 (Heap.SameBut.update ..) ⟨⟨_, _, store_at ho rfl, rfl, rfl⟩, rfl, rfl, rfl, rfl⟩ (by omega) (.inr rfl) (fun z => by omega) fun _ => rfl
  · rw [if_neg c]
    dsimp only
    refine wpAny_pure ?_
    exact q s.heap _ 7 (Heap.SameBut.refl _ _) ⟨⟨_, _, ho, rfl, rfl⟩, rfl, rfl, rfl, rfl⟩ (by omega) (.inl rfl) (fun _ => rfl) fun z => by omega
theorem copied {a : Addr} {L : List (Addr × NK)} {es : Array (Int × Value)} {ep : Nat} {t : SetTable} (R : TSet P w s.heap a L es ep t) (h0 : 0 < L.length) (h8 : L.length < 8)
    {Q : Value → Shared → Prop} (q : ∀ h' L' es' ep' t', (∀ c u, s.heap.get? c = some u → h'.get? c = some u) → SSet P w h' s.heap.objs.size L' es' ep' t' → t'.dummies = #[] → L'.Perm L → Q (.ref s.heap.objs.size) { s with heap := h' }) :
    wpAny (model P w) A (copyOf a) Q E s := by
  obtain ⟨o, ho, hex, hd⟩ := R.ob
  have T : s.TypeIs (.ref a) "set" := ⟨o, ho, hex.1⟩
  have sz := size_of_ents R.en
  unfold copyOf
  refine wpAny_bind (base_set T ?_)
  refine wpAny_bind (new_set ?_)
  have hr0 : s.heap.get? s.heap.objs.size = none := by
    cases q : s.heap.get? s.heap.objs.size with
    | none => rfl
    | some o => exact absurd (Heap.lt_size q) (Nat.lt_irrefl _)
  have hR : (s.heap.push (newSetObj w)).get? s.heap.objs.size = some (newSetObj w) := Heap.get?_push_size _ rfl
  have kp : ∀ c u, s.heap.get? c = some u → (s.heap.push (newSetObj w)).get? c = some u := fun c u hc => Heap.get?_push_of_some _ hc
  refine wpAny_bind (m := addrOf (.ref s.heap.objs.size)) (wpAny_pure ?_)
  have ne : (s.heap.objs.size == a) = false := by
    rw [beq_eq_false_iff_ne]
    intro z
    rw [z] at hr0
    rw [hr0] at ho
    exact nomatch ho
  refine wpAny_bind ?_
  rw [merge_eq]
  refine wp_if_neg (by rw [ne]; decide) ?_
  refine wpAny_bind (wpAny_setState_of (kp _ _ ho) hd R.fits ?_)
  dsimp only
  refine wp_if_neg (by rw [Array.isEmpty_iff_size_eq_zero, sz]; omega) ?_
  refine wpAny_bind (roomed (s := { s with heap := s.heap.push (newSetObj w) }) hR (by rw [sz]; exact h0) (by rw [sz]; exact h8) fun h1 t1 m sb B hm mm m4 m5 => ?_)
  obtain ⟨ob1, ep1, hob1, hcl1, hdt1⟩ := B.ob
  have fit1 : t1.fits (#[] : Array (Int × Value)).size = true := by
    unfold SetTable.fits SetTable.fill
    rw [B.pl, B.dm]
    show ((0 == 0) && decide (0 + 0 ≤ t1.mask)) = true
    simp
  have old : ∀ c u, s.heap.get? c = some u → h1.get? c = some u := fun c u hc => (sb.2 c (fun z => by rw [z, hr0] at hc; exact nomatch hc)).trans (kp c u hc)
  refine wpAny_bind (wpAny_setState_of (s := { s with heap := h1 }) hob1 hdt1 fit1 ?_)
  dsimp only
  have fill0 : t1.fill = 0 := by
    unfold SetTable.fill
    rw [B.pl, B.dm]
    rfl
  have ledok : ∀ t' : SetTable, t'.led = (t1.led && t.led) → (w.params.followText "set-order" = true ∨ t'.led = true) := fun t' e => by
    rw [e, B.led]
    cases hb : w.params.followText "set-order" with
    | true => exact .inl rfl
    | false =>
      rcases R.led with z | z
      · rw [hb] at z
        exact nomatch z
      · rw [z]
        exact .inr rfl
  have fin : ∀ (es' : Array (Int × Value)) (t' : SetTable) (L' : List (Addr × NK)), es'.toList = ents w L' → L'.Perm L → t'.fits es'.size = true → Ris t'.place.toList → t'.led = (t1.led && t.led) → t'.dummies = #[] →
      wpAny (model P w) A (storeSet s.heap.objs.size es' t') (fun _ s' => wpAny (model P w) A (pure (Value.ref s.heap.objs.size)) Q E s') E { s with heap := h1 } := by
    intro es' t' L' he pm hf hr hl hdm
    have sz' : es'.size = L.length := by rw [size_of_ents he, pm.length_eq]
    refine wpAny_storeSet_of (s := { s with heap := h1 }) hob1 hdt1 ?_ (by rw [sz', sizeLine_eq]; omega)
    refine wpAny_pure (q _ L' es' (ep1 + 1) t' (fun c u hc => ?_) ⟨⟨_, store_at hob1 hdt1, hcl1, rfl⟩, he, hf, hr, ledok t' hl⟩ hdm pm)
    have := (Heap.SameBut.update (h := h1) (a := s.heap.objs.size) (f := Obj.putSet es' t')).2 c (fun z => by rw [z, hr0] at hc; exact nomatch hc)
    exact this.trans (old c u hc)
  by_cases slot : t1.mask = t.mask
  · have rd : t1.road t = .slotForSlot := by
      unfold SetTable.road
      rw [fill0, slot, R.tab.dm]
      simp
    rw [rd]
    dsimp only
    refine fin es _ L R.en (List.Perm.refl _) ?_ R.tab.ris rfl R.tab.dm
    exact R.fits
  · have rd : t1.road t = .clean := by
      unfold SetTable.road
      rw [fill0]
      simp [slot]
    rw [rd]
    dsimp only
    have hsz : (es.map (·.1)).size = L.length := by rw [Array.size_map, sz]
    have laid : ∃ t' order, SetTable.laid t1.mask t1.finger t1.moves (t1.led && t.led) (t1.plain && t.plain) (es.map (·.1)) = some (t', order) ∧ order.toList.Perm (List.range (es.map (·.1)).size) ∧ Ris t'.place.toList ∧ t'.place.size = (es.map (·.1)).size ∧ t'.mask = m ∧ t'.led = (t1.led && t.led) ∧ t'.dummies = #[] := by
      rw [B.msk]
      rcases mm with e | e
      · subst e
        exact laid7 _ _ _ _ (by rw [hsz]; omega)
      · subst e
        exact laid15 _ _ _ _ (by rw [hsz]; omega)
    obtain ⟨t', order, e, p, ris, psz, msk, led, dmm⟩ := laid
    rw [hsz] at p psz
    obtain ⟨L2, r1, r2, _⟩ := relist L es order R.en p
    have hs2 : (order.filterMap (es[·]?)).size = es.size := by rw [size_of_ents r1, r2.length_eq, sz]
    rw [e]
    dsimp only
    refine wpAny_bind (wp_if_neg (by rw [hs2]; simp) ?_)
    refine wpAny_pure ?_
    dsimp only
    refine fin _ t' L2 r1 r2 ?_ ris led dmm
    unfold SetTable.fits SetTable.fill
    rw [dmm, psz, msk, hs2, sz]
    show ((L.length == L.length) && decide (L.length + 0 ≤ m)) = true
    rw [beq_self_eq_true, Bool.true_and, decide_eq_true_eq]
    omega
end
end Rw
namespace Rw
open PySem PySem.Spec PyProof.Rows L2 Builtin.Frozenset
section
variable {P : Program} {w : World} {A : Around} {E : Value → Shared → Prop} {s : Shared}
/-- nothing taken out of a set -/
theorem less_none {id : String} {r b : Addr} {L : List (Addr × NK)} {es e2 : Array (Int × Value)} {ep p2 : Nat} {t t2 : SetTable} (S : SSet P w s.heap r L es ep t) (dm : t.dummies = #[]) (R2 : TSet P w s.heap b [] e2 p2 t2) (hne : b ≠ r) {Q : Unit → Shared → Prop} (q : ∀ d, Q () { s with drawn := d }) :
    wpAny (model P w) A (differenceUpdate id r (.ref b)) Q E s := by
  obtain ⟨o, ho, hc, hd⟩ := S.ob
  obtain ⟨o2, ho2, hex2, hd2⟩ := R2.ob
  have T2 : s.TypeIs (.ref b) "set" := ⟨o2, ho2, hex2.1⟩
  have z2 : e2.size = 0 := size_of_ents R2.en
  unfold differenceUpdate
  refine wp_if_neg (by simp [hne]) ?_
  refine wpAny_bind (any_set T2 ?_)
  refine wp_if_pos rfl ?_
  refine wpAny_bind (m := addrOf (.ref b)) (wpAny_pure ?_)
  refine wpAny_bind (size_of ho2 hd2 R2.fits ?_)
  refine wpAny_bind (size_of ho hd S.fit ?_)
  refine wp_if_neg (by rw [z2]; omega) ?_
  refine wpAny_bind (wpAny_setEpoch_of ho2 hd2 R2.fits ?_)
  refine wpAny_bind (wpAny_holding ?_)
  refine wpAny_bind (unseen_perm R2 fun out d pm => ?_)
  have e0 : out = #[] := by
    have := pm.length_eq
    rw [Array.length_toList, Array.length_toList, z2] at this
    exact Array.eq_empty_of_size_eq_zero this
  subst e0
  refine wpAny_bind ?_
  rw [← Array.forIn_toList]
  refine wpAny_pure ?_
  refine wpAny_pure ?_
  unfold setTidy
  refine wpAny_bind (wpAny_setState_of (s := { s with drawn := d }) ho hd S.fit ?_)
  dsimp only
  refine wp_if_neg (by unfold SetTable.tooManyDummies; rw [dm]; simp) ?_
  exact wpAny_pure (q d)
theorem diff_far {id : String} {a b : Addr} {L1 : List (Addr × NK)} {e1 e2 : Array (Int × Value)} {p1 p2 : Nat} {t1 t2 : SetTable} (R1 : TSet P w s.heap a L1 e1 p1 t1) (R2 : TSet P w s.heap b [] e2 p2 t2) (h4 : 4 ≤ L1.length) (h8 : L1.length < 8)
    {Q : Value → Shared → Prop} (q : ∀ h' d L es ep t, (∀ c u, s.heap.get? c = some u → h'.get? c = some u) → SSet P w h' s.heap.objs.size L es ep t → L.Perm L1 → Q (.ref s.heap.objs.size) { s with heap := h', drawn := d }) :
    wpAny (model P w) A (Builtin.Frozenset.difference id a (.ref b)) Q E s := by
  obtain ⟨o1, ho1, hex1, hd1⟩ := R1.ob
  obtain ⟨o2, ho2, hex2, hd2⟩ := R2.ob
  have T2 : s.TypeIs (.ref b) "set" := ⟨o2, ho2, hex2.1⟩
  have s1 := size_of_ents R1.en
  have s2 : e2.size = 0 := size_of_ents R2.en
  rw [diff_eq]
  refine wpAny_bind (any_set T2 ?_)
  refine wp_if_neg (by decide) ?_
  try refine wpAny_bind (wpAny_pure ?_)
  refine wp_if_neg (by simp) ?_
  refine wp_if_pos rfl ?_
  refine wpAny_bind (size_of ho2 hd2 R2.fits ?_)
  dsimp only
  refine wpAny_bind (size_of ho1 hd1 R1.fits ?_)
  refine wp_if_pos (by rw [s1, s2]; omega) ?_
  refine wpAny_bind (wpAny_rule ?_)
  refine wpAny_bind (copied R1 (by omega) h8 fun h' L' es' ep' t' keep S dm pm => ?_)
  have hb : b ≠ s.heap.objs.size := Nat.ne_of_lt (Heap.lt_size ho2)
  refine wpAny_bind (m := addrOf (.ref s.heap.objs.size)) (wpAny_pure ?_)
  refine wpAny_bind (wpAny_holding (less_none (s := { s with heap := h' }) S dm (R2.moved (keep b) fun p hp => nomatch hp) hb fun d => ?_))
  exact wpAny_pure (q h' d L' es' ep' t' keep S pm)
theorem sub_call {a b : Addr} {L1 L2 : List (Addr × NK)} {e1 e2 : Array (Int × Value)} {p1 p2 : Nat} {t1 t2 : SetTable} (R1 : TSet P w s.heap a L1 e1 p1 t1) (R2 : TSet P w s.heap b L2 e2 p2 t2) (few : L1.length / 4 ≤ L2.length ∨ L2 = [] ∧ L1.length < 8) (hu : A.units + 16 < cLine)
    {Q : Value → Shared → Prop} (q : ∀ h' d L es ep t, (∀ c u, s.heap.get? c = some u → h'.get? c = some u) → SSet P w h' s.heap.objs.size L es ep t → L.Perm (unlike L1 L2) → Q (.ref s.heap.objs.size) { s with heap := h', drawn := d }) :
    wpAny (model P w) A (binaryOp .Sub (.ref a) (.ref b)) Q E s := by
  obtain ⟨o1, ho1, hex1, hd1⟩ := R1.ob
  obtain ⟨o2, ho2, hex2, hd2⟩ := R2.ob
  have T1 : s.TypeIs (.ref a) "set" := ⟨o1, ho1, hex1.1⟩
  have T2 : s.TypeIs (.ref b) "set" := ⟨o2, ho2, hex2.1⟩
  have run : ∀ (B : Around), B.units + 8 < cLine → ∀ {R : Value → Shared → Prop}, (∀ h' d L es ep t, (∀ c u, s.heap.get? c = some u → h'.get? c = some u) → SSet P w h' s.heap.objs.size L es ep t → L.Perm (unlike L1 L2) → R (.ref s.heap.objs.size) { s with heap := h', drawn := d }) →
      wpAny (model P w) B (Builtin.Frozenset.difference "frozenset.__sub__" a (.ref b)) R E s := by
    intro B hB R q
    by_cases c : L1.length / 4 ≤ L2.length
    · exact diff_near R1 R2 c hB q
    · obtain ⟨rfl, h8⟩ := few.resolve_left c
      rw [List.length_nil] at c
      refine diff_far R1 R2 (by omega) h8 fun h' d L es ep t k S pm => q h' d L es ep t k S ?_
      have e : unlike L1 [] = L1 := by
        unfold unlike
        rw [List.filter_eq_self]
        exact fun p hp => rfl
      rw [e]
      exact pm
  refine wpAny_binaryOp_same (op := .Sub) T1 T2 F.fills_set_sub F.slot_set_sub (wpAny_call_entry F.slot_set_sub T1 entry_set_sub ?_ (F.args_set_sub_2 _ _))
  show wpAny _ _ (do
    let r ← isAnySet (.ref a) <&&> isAnySet (.ref b)
    if !r then do
      rule s!"frozenset.{"__sub__"}.declined"
      ret .notImplemented
    else do
      let l ← addrOf (.ref a)
      let v ← Builtin.Frozenset.difference s!"frozenset.{"__sub__"}" l (.ref b)
      ret v) _ _ s
  refine wpAny_bind ?_
  unfold andM
  refine wpAny_bind (any_set T1 ?_)
  refine any_set T2 ?_
  refine wp_if_neg (by decide) ?_
  refine wpAny_bind (m := addrOf (.ref a)) (wpAny_pure ?_)
  refine wpAny_bind (run _ ?_ fun h' d L es ep t k S pm => ?_)
  · simp only [Around.in1_units]
    omega
  · exact wpAny_pure ⟨_, rfl, (fun z => nomatch z), q h' d L es ep t k S pm⟩
end
end Rw
namespace Rw
open PySem PySem.Spec PyProof.Rows L2
/-! ### set - set over the abstract heap, sorted -/
/-- what a difference of sets of tuples is: only good for sorting -/
def SSetO (P : Program) (w : World) (a : Addr) (L : List (Addr × PyData)) : HO := .ext fun h => ∃ es ep t, SSet P w h a (tk L) es ep t
section
variable {X : Cx} {pins : List (Addr × Obj)} {σ : L2.St} {H : Hp} {s : Shared}
theorem tk_back : ∀ (L0 : List (Addr × PyData)) (M : List (Addr × NK)), (∀ p ∈ M, p ∈ tk L0) → ∃ M0 : List (Addr × PyData), M = tk M0 ∧ ∀ p ∈ M0, p ∈ L0
  | L0, [], _ => ⟨[], rfl, fun p hp => nomatch hp⟩
  | L0, m :: M, hm => by
    obtain ⟨M0, e, h0⟩ := tk_back L0 M fun p hp => hm p (List.mem_cons_of_mem _ hp)
    obtain ⟨z, hz, ez⟩ := List.mem_map.mp (hm m List.mem_cons_self)
    refine ⟨z :: M0, by rw [e, ← ez]; rfl, fun p hp => ?_⟩
    rcases List.mem_cons.mp hp with e' | hp
    · rw [e']
      exact hz
    · exact h0 p hp
theorem nodup_le {α : Type} : ∀ {l m : List α}, l.Nodup → (∀ z ∈ l, z ∈ m) → l.length ≤ m.length
  | [], _, _, _ => Nat.zero_le _
  | a :: l, m, nd, h => by
    obtain ⟨u, v, e⟩ := List.append_of_mem (h a List.mem_cons_self)
    obtain ⟨n1, n2⟩ := List.nodup_cons.mp nd
    have z := nodup_le (m := u ++ v) n2 fun z hz => by
      have := h z (List.mem_cons_of_mem _ hz)
      rw [e] at this
      rcases List.mem_append.mp this with q | q
      · exact List.mem_append_left _ q
      · rcases List.mem_cons.mp q with q | q
        · rw [q] at hz
          exact absurd hz n1
        · exact List.mem_append_right _ q
    rw [e, List.length_cons, List.length_append, List.length_cons]
    rw [List.length_append] at z
    omega
/-- a - b, sets of tuples -/
def rSubT (K : PySem.W.Frag) (P : Program) (w : World) : R2 := fun x y H Q => ∃ (a b : Addr) (L1 L2 : List (Addr × PyData)), x = .ref a ∧ y = .ref b ∧ H a = some (TSetO w a L1) ∧ H b = some (TSetO w b L2) ∧ (∀ p ∈ L1, Good p.2 ∧ Dp K H (.ref p.1) p.2) ∧ (∀ p ∈ L2, Good p.2 ∧ Dp K H (.ref p.1) p.2) ∧
  (∃ D : List PyData, (∀ p ∈ L1, p.2 ∈ D) ∧ D.length < 8) ∧ ∀ c L, H c = none → (∀ p ∈ L, p ∈ L1) → (∀ d, d ∈ L.map (·.2) ↔ d ∈ L1.map (·.2) ∧ d ∉ L2.map (·.2)) → (L.map (·.2)).Nodup → L.length < 76 → Q (.ref c) (upd H c (SSetO P w c L))
theorem op_subT (hu : X.A.units + 64 < cLine) : OpR X (binaryOp .Sub) (rSubT X.K X.prog X.w) := by
  intro pins s σ H x y v u Q I rx ry h
  obtain ⟨a, b, L1, L2, rfl, rfl, ha, hb, g1, g2, few, q⟩ := h
  obtain rfl : v = Value.ref a := rx
  obtain rfl : u = Value.ref b := ry
  obtain ⟨es1, ep1, t1, R1⟩ := tset_get I ha g1
  obtain ⟨es2, ep2, t2, R2⟩ := tset_get I hb g2
  have hn : H s.heap.objs.size = none := I.hok.fresh (Nat.le_refl _)
  have l1 : (tk L1).length = L1.length := List.length_map _
  have l2 : (tk L2).length = L2.length := List.length_map _
  refine sub_call R1 R2 ?_ (by omega) fun h' d L es ep t keep S pm => ?_
  · obtain ⟨D, hD, hD8⟩ := few
    have n1 : (L1.map (·.2)).Nodup := by
      have z : ((L1.map (·.2)).map toK).Nodup := by
        have e : (L1.map (·.2)).map toK = (tk L1).map (·.2) := by
          unfold tk
          rw [List.map_map, List.map_map]
          rfl
        rw [e]
        exact R1.nd
      exact nodup_of_map z
    have le := nodup_le (m := D) n1 fun d hd => by
      obtain ⟨p, hp, rfl⟩ := List.mem_map.mp hd
      exact hD p hp
    rw [List.length_map] at le
    rw [l1, l2]
    cases L2 with
    | nil => exact .inr ⟨rfl, by omega⟩
    | cons z zs =>
      rw [List.length_cons]
      exact .inl (by omega)
  have sub : ∀ p ∈ L, p ∈ tk L1 := fun p hp => (List.mem_filter.mp (pm.mem_iff.mp hp)).1
  obtain ⟨M, rfl, hM⟩ := tk_back L1 L sub
  have ndk : ((tk M).map (·.2)).Nodup := by
    refine (pm.map (·.2)).nodup_iff.mpr ?_
    exact List.Nodup.sublist (List.Sublist.map _ List.filter_sublist) R1.nd
  have nd : (M.map (·.2)).Nodup := by
    have z : ((M.map (·.2)).map toK).Nodup := by
      have e : (M.map (·.2)).map toK = (tk M).map (·.2) := by
        unfold tk
        rw [List.map_map, List.map_map]
        rfl
      rw [e]
      exact ndk
    exact nodup_of_map z
  have lenM : M.length < 76 := by
    have z1 := pm.length_eq
    have z2 : (unlike (tk L1) (tk L2)).length ≤ (tk L1).length := List.length_filter_le _ _
    have z3 : (tk M).length = M.length := List.length_map _
    have z4 := R1.few
    omega
  have mem : ∀ e, e ∈ M.map (·.2) ↔ e ∈ L1.map (·.2) ∧ e ∉ L2.map (·.2) := fun e => by
    have key : ∀ p ∈ L1, ((p.1, toK p.2) ∈ tk M ↔ p.2 ∉ L2.map (·.2)) := fun p hp => by
      rw [pm.mem_iff]
      unfold unlike
      rw [List.mem_filter]
      have hin : (p.1, toK p.2) ∈ tk L1 := List.mem_map.mpr ⟨p, hp, rfl⟩
      have e2 : toK p.2 ∈ (tk L2).map (·.2) ↔ p.2 ∈ L2.map (·.2) := by
        constructor
        · intro z
          obtain ⟨y, hy, ey⟩ := List.mem_map.mp z
          obtain ⟨y0, hy0, rfl⟩ := List.mem_map.mp hy
          have := toK_inj (g2 y0 hy0).1.ok (g1 p hp).1.ok ey
          exact List.mem_map.mpr ⟨y0, hy0, this⟩
        · intro z
          obtain ⟨y0, hy0, ey⟩ := List.mem_map.mp z
          exact List.mem_map.mpr ⟨(y0.1, toK y0.2), List.mem_map.mpr ⟨y0, hy0, rfl⟩, by rw [ey]⟩
      constructor
      · intro z
        have := z.2
        simp only [Bool.not_eq_true', decide_eq_false_iff_not] at this
        exact fun hh => this (e2.mpr hh)
      · intro z
        refine ⟨hin, ?_⟩
        simp only [Bool.not_eq_true', decide_eq_false_iff_not]
        exact fun hh => z (e2.mp hh)
    constructor
    · intro he
      obtain ⟨p, hp, rfl⟩ := List.mem_map.mp he
      exact ⟨List.mem_map.mpr ⟨p, hM p hp, rfl⟩, (key p (hM p hp)).mp (List.mem_map.mpr ⟨p, hp, rfl⟩)⟩
    · rintro ⟨h1, h2⟩
      obtain ⟨p, hp, rfl⟩ := List.mem_map.mp h1
      have z := (key p hp).mpr h2
      obtain ⟨y, hy, ey⟩ := List.mem_map.mp z
      have e3 : y.2 = p.2 := toK_inj (g1 y (hM y hy)).1.ok (g1 p hp).1.ok (congrArg Prod.snd ey)
      exact List.mem_map.mpr ⟨y, hy, e3⟩
  have new : ObjOk X.prog X.w (upd H s.heap.objs.size (SSetO X.prog X.w s.heap.objs.size M)) h' s.heap.objs.size (SSetO X.prog X.w s.heap.objs.size M) := by
    obtain ⟨o, ho, ho2⟩ := S.ob
    exact ⟨⟨es, ep, t, S⟩, ⟨o, ho⟩, fun h1 h2 ⟨es', ep', t', S'⟩ kk => ⟨es', ep', t', by
      obtain ⟨o', e1, e2⟩ := S'.ob
      exact ⟨⟨o', kk o' e1, e2⟩, S'.en, S'.fit, S'.ris, S'.led⟩⟩⟩
  have J : Inv X pins σ (upd H s.heap.objs.size (SSetO X.prog X.w s.heap.objs.size M)) { s with heap := h', gens := s.gens, drawn := d, toks := s.toks } :=
    I.call (ch := []) (Un.laid keep (Nat.le_refl _) hn) (I.hok.laid keep (Nat.le_refl _) new) I.bare (fun _ z => nomatch z)
  exact ⟨.ref s.heap.objs.size, _, J, rfl, q _ M hn hM mem nd lenM⟩
/-- sorted(a difference) -/
def rSortS (K : PySem.W.Frag) (P : Program) (w : World) : List V → Hp → VK → Prop := fun vs H Q => ∃ (a : Addr) (L : List (Addr × PyData)), vs = [V.ref a] ∧ H a = some (SSetO P w a L) ∧ (∀ p ∈ L, Good p.2 ∧ Dp K H (.ref p.1) p.2) ∧ (L.map (·.2)).Nodup ∧ L.length < 76 ∧ PySem.W.AllAlike (L.map (·.2)) ∧
  ∀ (ys : List V) (ds : List PyData) (p : Addr), ds.Perm (L.map (·.2)) → ds.Nodup → ds.length < 76 → Rising ds → DpAll K H ys ds → H p = none → Q (.ref p) (upd H p (.lst ys))
theorem cr_sortS (hc : X.calm = true) (hu : X.A.units + 64 < cLine) : CallR X (.builtin "sorted") (rSortS X.K X.prog X.w) := by
  intro pins s σ H vs us Q I r h
  obtain ⟨a, L, rfl, ha, hL, ndL, few, hal, q⟩ := h
  obtain ⟨es, ep, t, R⟩ := (I.hok a _ ha).1
  rw [Vals.ref1 r]
  have hvals : es.toList.map (·.2) = L.map fun p => Value.ref p.1 := by
    rw [R.en]
    unfold ents tk
    rw [List.map_map, List.map_map]
    rfl
  have e1 : PySem.W.EachIs (fun u d => ∃ x, RelV x u ∧ Dp X.K H x d) (es.toList.map (·.2)) (L.map (·.2)) := by
    rw [hvals]
    exact each_map' _ _ fun p hp => ⟨.ref p.1, rfl, (hL p hp).2⟩
  have e2 : PySem.W.EachIs (fun v d => ∃ as, Reads s.heap v (id d) as ∧ ∀ c ∈ as, c < s.heap.objs.size) (es.toList.map (·.2)) (L.map (·.2)) := by
    rw [hvals]
    refine each_map' _ _ fun p hp => ?_
    obtain ⟨as, rd⟩ := Dp.reads I p.2 (.ref p.1) (.ref p.1) (hL p hp).2 rfl
    refine ⟨as, rd, ?_⟩
    rw [(isK_of p.2 s.heap _ as (hL p hp).1.ok rd).2]
    exact fun c hc => nomatch hc
  have hm : ∀ d ∈ (L.map (·.2)).map id, Good d := fun d hd => by
    rw [List.map_id] at hd
    obtain ⟨p, hp, rfl⟩ := List.mem_map.mp hd
    exact (hL p hp).1
  refine sorted_coll (enc := id) (I.ok.hd hc) R.ob R.fit (by have := size_of_ents R.en; unfold tk at this; rw [List.length_map] at this; unfold scanBound; omega) R.ris R.led e1 e2 (by rw [List.map_id]; exact hal) (.inl fun d hd => (hm d hd).tu) (fun d hd => ?_) fun s' p out c ds k g os hp hg ho' pm sr => ?_
  · have z := (hm d (by rw [List.map_id]; exact hd)).dp
    show X.A.units + 3 + d.depth < cLine
    omega
  · obtain ⟨ys, hv, hd'⟩ := each_vals ho'
    have hn : H p = none := I.hok.fresh hp
    have hl : ds.length = L.length := by rw [pm.length_eq, List.length_map]
    have hlen : ys.length ≤ sizeLine := by
      rw [dpAll_len hd', sizeLine_eq]
      omega
    have nd : ds.Nodup := pm.nodup_iff.mpr ndL
    have J : Inv X pins σ (upd H p (.lst ys)) { s with heap := s'.heap, gens := s'.gens, drawn := s'.drawn, toks := s'.toks } :=
      I.call (ch := []) (Un.laid k hp hn) (I.hok.laid k hp ⟨hlen, out.toList, c, hv, hg⟩) (by rw [g]; exact I.bare) (fun _ z => nomatch z)
    have e : s' = { s with heap := s'.heap, gens := s'.gens, drawn := s'.drawn, toks := s'.toks } := by
      cases s'
      cases s
      cases os
      rfl
    rw [e]
    exact ⟨.ref p, _, J, rfl, q ys ds p pm nd (by omega) sr hd' hn⟩
end
end Rw
namespace Rw
open PySem PySem.Spec PyProof.Rows L2 Builtin.Frozenset
/-! ### set - set: eight without none, without one -/
theorem merge_eq8 (s o : Addr) (each : Sem Unit) : setMerge s o each = (do
    if s == o then return
    let (eo, epoch, to) ← setState o
    if eo.isEmpty then return
    setRoomFor s eo.size
    let (_, _, ts) ← setState s
    match ts.road to with
    | .slotForSlot => storeSet s eo { to with finger := ts.finger, led := ts.led && to.led, moves := ts.moves, plain := ts.plain && to.plain }
    | .clean =>
      let (es, t) ← (do
        let some (t, order) := SetTable.laid ts.mask ts.finger ts.moves (led := ts.led && to.led) (plain := ts.plain && to.plain) (eo.map (·.1)) | unsupported "internal:set-table-without-room"
        let es' := order.filterMap (eo[·]?)
        if es'.size != eo.size then unsupported "internal:set-table-lost-an-element"
        pure (es', t) : Sem (Array (Int × Value) × SetTable))
      storeSet s es t
    | .oneByOne =>
      for (h, x) in ← setWalkUnseen o [s] (some s) do
        let _ ← holding [x] (setAddHashed s x h)
        each
        if (← setState o).2.1 != epoch then unsupported "set.changed-during-merge") := rfl
theorem laid31T (finger moves : Nat) (led plain : Bool) {hs : Array Int} (hn : hs.size ≤ 31) : ∃ t order, SetTable.laid 31 finger (moves + 1) led plain hs = some (t, order) ∧ order.toList.Perm (List.range hs.size) ∧ TabOk t (order.toList.map fun i => hs.getD i 0) ∧ t.mask = 31 ∧ t.led = led := by
  obtain ⟨t', order, e, p, T, m, l, _, d⟩ := relaid_ok ({ mask := 31, place := #[], dummies := #[], finger := finger, led := led, moves := moves, plain := plain } : SetTable) (hs := hs) (wanted := 16) (M := 31) (by decide +kernel) (.inr (.inl rfl)) hn
  refine ⟨t', order, ?_, p, T, m, l⟩
  rw [← e]
  unfold SetTable.relaid
  have z : SetTable.sizeAbove 16 - 1 = 31 := by decide +kernel
  rw [z]
  rfl
section
variable {P : Program} {w : World} {A : Around} {E : Value → Shared → Prop} {s : Shared}
theorem room8 {r : Addr} (ho : s.heap.get? r = some (newSetObj w)) {Q : Unit → Shared → Prop} (q : ∀ h' o t, Heap.SameBut r s.heap h' → h'.get? r = some o → o.ExactSet → (∃ ep, o.data = .set #[] ep t) → t = ({ mask := 31, place := #[], dummies := #[], finger := 0, led := !w.params.followText "set-order", moves := 1, plain := true } : SetTable) → Q () { s with heap := h' }) :
    wpAny (model P w) A (setRoomFor r 8) Q E s := by
  have hf : (SetTable.fresh 0 0 (!w.params.followText "set-order")).fits (#[] : Array (Int × Value)).size = true := by
    unfold SetTable.fits SetTable.fill SetTable.fresh
    simp
  unfold setRoomFor
  refine wpAny_bind (wpAny_setState_of ho rfl hf ?_)
  dsimp only
  have rf : (SetTable.fresh 0 0 (!w.params.followText "set-order")).roomFor 8 = some 16 := by
    unfold SetTable.roomFor SetTable.fill SetTable.fresh
    simp
  rw [rf]
  dsimp only
  rw [setRelay_eq]
  refine wpAny_bind (wpAny_setState_of ho rfl hf ?_)
  dsimp only
  have sz : SetTable.sizeAbove 16 = 32 := by decide +kernel
  refine wp_if_neg (by rw [sz, sizeLine_eq]; omega) ?_
  have rl : (SetTable.fresh 0 0 (!w.params.followText "set-order")).relaid ((#[] : Array (Int × Value)).map (·.1)) 16 = some ({ mask := 31, place := #[], dummies := #[], finger := 0, led := !w.params.followText "set-order", moves := 1, plain := true }, #[]) := by
    have z : ∀ l : Bool, SetTable.laid 31 0 1 l true #[] = some (({ mask := 31, place := #[], dummies := #[], finger := 0, led := l, moves := 1, plain := true } : SetTable), #[]) := by
      intro l
      cases l <;> decide +kernel
    unfold SetTable.relaid
    rw [sz, show Array.map (fun x : Int × Value => x.fst) #[] = (#[] : Array Int) by simp]
    exact z _
  rw [rl]
  dsimp only
  refine wpAny_bind (wpAny_pure ?_)
  dsimp only
  refine wpAny_storeSet_of ho rfl ?_ (by rw [sizeLine_eq]; decide)
  exact q _ _ _ (Heap.SameBut.update ..) (store_at ho rfl) ⟨rfl, rfl, rfl⟩ ⟨_, rfl⟩ rfl
/-- a set of eight tuples, copied -/
theorem copied8 {a : Addr} {L : List (Addr × NK)} {es : Array (Int × Value)} {ep : Nat} {t : SetTable} (R : TSet P w s.heap a L es ep t) (h8 : L.length = 8)
    {Q : Value → Shared → Prop} (q : ∀ h' L' es' ep' t', (∀ c u, s.heap.get? c = some u → h'.get? c = some u) → TSet P w h' s.heap.objs.size L' es' ep' t' → L'.Perm L → t'.mask = 31 → Q (.ref s.heap.objs.size) { s with heap := h' }) :
    wpAny (model P w) A (copyOf a) Q E s := by
  obtain ⟨o, ho, hex, hd⟩ := R.ob
  have T : s.TypeIs (.ref a) "set" := ⟨o, ho, hex.1⟩
  have sz := size_of_ents R.en
  unfold copyOf
  refine wpAny_bind (base_set T ?_)
  refine wpAny_bind (new_set ?_)
  have hr0 : s.heap.get? s.heap.objs.size = none := by
    cases q : s.heap.get? s.heap.objs.size with
    | none => rfl
    | some o => exact absurd (Heap.lt_size q) (Nat.lt_irrefl _)
  have hR : (s.heap.push (newSetObj w)).get? s.heap.objs.size = some (newSetObj w) := Heap.get?_push_size _ rfl
  have kp : ∀ c u, s.heap.get? c = some u → (s.heap.push (newSetObj w)).get? c = some u := fun c u hc => Heap.get?_push_of_some _ hc
  refine wpAny_bind (m := addrOf (.ref s.heap.objs.size)) (wpAny_pure ?_)
  have ne : (s.heap.objs.size == a) = false := by
    rw [beq_eq_false_iff_ne]
    intro z
    rw [z] at hr0
    rw [hr0] at ho
    exact nomatch ho
  refine wpAny_bind ?_
  rw [merge_eq8]
  refine wp_if_neg (by rw [ne]; decide) ?_
  refine wpAny_bind (wpAny_setState_of (kp _ _ ho) hd R.fits ?_)
  dsimp only
  refine wp_if_neg (by rw [Array.isEmpty_iff_size_eq_zero, sz]; omega) ?_
  rw [sz, h8]
  refine wpAny_bind (room8 (s := { s with heap := s.heap.push (newSetObj w) }) hR fun h1 ob1 t1 sb hob1 hcl1 hdt1 et1 => ?_)
  obtain ⟨ep1, hdt1⟩ := hdt1
  have fit1 : t1.fits (#[] : Array (Int × Value)).size = true := by
    rw [et1]
    rfl
  have old : ∀ c u, s.heap.get? c = some u → h1.get? c = some u := fun c u hc => (sb.2 c (fun z => by rw [z, hr0] at hc; exact nomatch hc)).trans (kp c u hc)
  refine wpAny_bind (wpAny_setState_of (s := { s with heap := h1 }) hob1 hdt1 fit1 ?_)
  dsimp only
  have ledok : ∀ t' : SetTable, t'.led = ((!w.params.followText "set-order") && t.led) → (w.params.followText "set-order" = true ∨ t'.led = true) := fun t' e => by
    rw [e]
    cases hb : w.params.followText "set-order" with
    | true => exact .inl rfl
    | false =>
      rcases R.led with z | z
      · rw [hb] at z
        exact nomatch z
      · rw [z]
        exact .inr rfl
  have fin : ∀ (es' : Array (Int × Value)) (t' : SetTable) (L' : List (Addr × NK)), es'.toList = ents w L' → L'.Perm L → TabOk t' (hashes w L') → t'.led = ((!w.params.followText "set-order") && t.led) → t'.mask = 31 →
      wpAny (model P w) A (storeSet s.heap.objs.size es' t') (fun _ s' => wpAny (model P w) A (pure (Value.ref s.heap.objs.size)) Q E s') E { s with heap := h1 } := by
    intro es' t' L' he pm T hl hm
    have sz' : es'.size = 8 := by rw [size_of_ents he, pm.length_eq, h8]
    refine wpAny_storeSet_of (s := { s with heap := h1 }) hob1 hdt1 ?_ (by rw [sz', sizeLine_eq]; omega)
    have keep : ∀ c u, s.heap.get? c = some u → (h1.update s.heap.objs.size (Obj.putSet es' t')).get? c = some u := fun c u hc =>
      ((Heap.SameBut.update (h := h1) (a := s.heap.objs.size) (f := Obj.putSet es' t')).2 c (fun z => by rw [z, hr0] at hc; exact nomatch hc)).trans (old c u hc)
    have l8 : L'.length = 8 := by rw [pm.length_eq, h8]
    refine wpAny_pure (q _ L' es' (ep1 + 1) t' keep ⟨⟨_, store_at hob1 hdt1, hcl1, rfl⟩, he, T, (pm.map (·.2)).nodup_iff.mpr R.nd, fun p hp => (R.ks p (pm.mem_iff.mp hp)).kept keep, ledok t' hl, by rw [l8, hm]; decide, by rw [l8]; decide⟩ pm hm)
  subst et1
  by_cases slot : 31 = t.mask
  · have rd : ({ mask := 31, place := #[], dummies := #[], finger := 0, led := !w.params.followText "set-order", moves := 1, plain := true } : SetTable).road t = .slotForSlot := by
      unfold SetTable.road
      rw [R.tab.dm]
      show (if (0 != 0) = true then SetTable.Road.oneByOne else if (31 == t.mask && _) = true then _ else _) = _
      rw [← slot]
      rfl
    rw [rd]
    dsimp only
    exact fin es _ L R.en (List.Perm.refl _) ⟨R.tab.ris, R.tab.dm, R.tab.sz, R.tab.mok, R.tab.bd, R.tab.reach⟩ rfl slot.symm
  · have rd : ({ mask := 31, place := #[], dummies := #[], finger := 0, led := !w.params.followText "set-order", moves := 1, plain := true } : SetTable).road t = .clean := by
      unfold SetTable.road
      show (if (0 != 0) = true then SetTable.Road.oneByOne else if (31 == t.mask && _) = true then _ else _) = _
      have : (31 == t.mask) = false := by rw [beq_eq_false_iff_ne]; exact slot
      rw [this]
      rfl
    rw [rd]
    dsimp only
    have hsz : (es.map (·.1)).size = L.length := by rw [Array.size_map, sz]
    obtain ⟨t', order, e, p, T, msk, led⟩ := laid31T 0 0 ((!w.params.followText "set-order") && t.led) (true && t.plain) (hs := es.map (·.1)) (by rw [hsz]; omega)
    rw [hsz] at p
    obtain ⟨L2, r1, r2, r3⟩ := relist L es order R.en p
    have hs2 : (order.filterMap (es[·]?)).size = es.size := by rw [size_of_ents r1, r2.length_eq, sz]
    rw [e]
    dsimp only
    refine wpAny_bind (wp_if_neg (by rw [hs2, sz, h8]; decide) ?_)
    refine wpAny_pure ?_
    dsimp only
    rw [← r3] at T
    exact fin _ t' L2 r1 r2 T led msk
theorem erase_list {α : Type} (xs : Array α) (i : Nat) : (SetTable.eraseAt xs i).toList = xs.toList.eraseIdx i := by
  unfold SetTable.eraseAt
  rw [Array.toList_append, Array.toList_extract, Array.toList_extract, List.eraseIdx_eq_take_drop_succ]
  simp only [List.extract, List.drop_zero, Nat.sub_zero]
  congr 1
  exact List.take_of_length_le (by rw [List.length_drop, Array.length_toList]; exact Nat.le_refl _)
theorem erase_map {α β : Type} (f : α → β) : ∀ (l : List α) (i : Nat), (l.map f).eraseIdx i = (l.eraseIdx i).map f
  | [], _ => rfl
  | x :: l, 0 => rfl
  | x :: l, i + 1 => by
    rw [List.map_cons, List.eraseIdx_cons_succ, List.eraseIdx_cons_succ, List.map_cons, erase_map f l i]
theorem erase_unlike {y : Addr} {k : NK} : ∀ {L : List (Addr × NK)} {i : Nat} {p : Addr × NK}, L[i]? = some p → p.2 = k → (L.map (·.2)).Nodup → L.eraseIdx i = unlike L [(y, k)]
  | x :: L, 0, p, h, e, nd => by
    have nd' := List.nodup_cons.mp nd
    obtain rfl : x = p := Option.some.inj h
    unfold unlike
    rw [List.filter_cons_of_neg (by simp [e]), List.eraseIdx_cons_zero, List.filter_eq_self.mpr]
    intro z hz
    have : z.2 ≠ k := fun e2 => nd'.1 (List.mem_map.mpr ⟨z, hz, by rw [e2, ← e]⟩)
    simp [this]
  | x :: L, i + 1, p, h, e, nd => by
    have nd' := List.nodup_cons.mp nd
    have h' : L[i]? = some p := h
    have ne : x.2 ≠ k := fun e2 => nd'.1 (List.mem_map.mpr ⟨p, List.mem_of_getElem? h', by rw [e, ← e2]⟩)
    have ih := erase_unlike (y := y) h' e nd'.2
    unfold unlike at ih ⊢
    rw [List.filter_cons_of_pos (by simp [ne]), List.eraseIdx_cons_succ, ih]
theorem unlike_none {y : Addr} {k : NK} {L : List (Addr × NK)} (h : k ∉ L.map (·.2)) : unlike L [(y, k)] = L := by
  unfold unlike
  rw [List.filter_eq_self]
  intro z hz
  have : z.2 ≠ k := fun e => h (by rw [← e]; exact List.mem_map.mpr ⟨z, hz, rfl⟩)
  simp [this]
/-- the one tuple of b out of r -/
theorem less_one {id : String} {r b y : Addr} {k : NK} {L : List (Addr × NK)} {es e2 : Array (Int × Value)} {ep p2 : Nat} {t t2 : SetTable} (R : TSet P w s.heap r L es ep t) (h8 : L.length = 8) (hm : t.mask = 31) (R2 : TSet P w s.heap b [(y, k)] e2 p2 t2) (hne : b ≠ r) (hu : A.units + 8 < cLine)
    {Q : Unit → Shared → Prop} (q : ∀ h' d L' es' ep' t', Heap.SameBut r s.heap h' → SSet P w h' r L' es' ep' t' → L' = unlike L [(y, k)] → Q () { s with heap := h', drawn := d }) :
    wpAny (model P w) A (differenceUpdate id r (.ref b)) Q E s := by
  obtain ⟨o, ho, hex, hd⟩ := R.ob
  obtain ⟨o2, ho2, hex2, hd2⟩ := R2.ob
  have T2 : s.TypeIs (.ref b) "set" := ⟨o2, ho2, hex2.1⟩
  have z1 : es.size = 8 := by rw [size_of_ents R.en, h8]
  have z2 : e2.size = 1 := size_of_ents R2.en
  unfold differenceUpdate
  refine wp_if_neg (by simp [hne]) ?_
  refine wpAny_bind (any_set T2 ?_)
  refine wp_if_pos rfl ?_
  refine wpAny_bind (m := addrOf (.ref b)) (wpAny_pure ?_)
  refine wpAny_bind (size_of ho2 hd2 R2.fits ?_)
  refine wpAny_bind (size_of ho hd R.fits ?_)
  refine wp_if_neg (by rw [z2]; omega) ?_
  refine wpAny_bind (wpAny_setEpoch_of ho2 hd2 R2.fits ?_)
  refine wpAny_bind (wpAny_holding ?_)
  refine wpAny_bind (unseen_perm R2 fun out d pm => ?_)
  have eo : out.toList = [(k.hash w, Value.ref y)] := by
    have : e2.toList = [(k.hash w, Value.ref y)] := R2.en
    rw [this] at pm
    exact List.perm_singleton.mp pm
  rw [← Array.forIn_toList, eo]
  refine wpAny_bind ?_
  rw [List.forIn_cons]
  refine wpAny_bind ?_
  dsimp only
  refine wpAny_bind (wpAny_holding ?_)
  have Rd : TSet P w ({ s with drawn := d } : Shared).heap r L es ep t := R
  have hx : TupK ({ s with drawn := d } : Shared).heap k y := R2.ks (y, k) (List.mem_singleton.mpr rfl)
  have base : wpAny (model P w) A (setDiscardHashed r (.ref y) (k.hash w)) (fun _ s' => ∃ h', s' = { s with heap := h', drawn := d } ∧ Heap.SameBut r s.heap h' ∧ ∃ es' ep' t', SSet P w h' r (unlike L [(y, k)]) es' ep' t' ∧ t'.dummies.size ≤ 1 ∧ t'.mask = 31) E { s with drawn := d } := by
    unfold setDiscardHashed
    refine wpAny_bind (soughtI Rd hx hu (fun i p hi hk => ?_) fun hn => ?_)
    · dsimp only
      refine wpAny_bind (wpAny_setState_of (s := { s with drawn := d }) ho hd R.fits ?_)
      dsimp only
      have il : i < L.length := (List.getElem?_eq_some_iff.mp hi).1
      have ip : i < t.place.size := by
        have := R.tab.sz
        rw [hashes_len] at this
        omega
      have eL : L.eraseIdx i = unlike L [(y, k)] := erase_unlike hi hk R.nd
      have en : (SetTable.eraseAt es i).toList = ents w (L.eraseIdx i) := by
        rw [erase_list, R.en]
        unfold ents
        exact erase_map _ _ _
      have l7 : (L.eraseIdx i).length = 7 := by rw [List.length_eraseIdx_of_lt il, h8]
      obtain ⟨j, hj⟩ : ∃ j, t.place[i]? = some j := ⟨_, Array.getElem?_eq_getElem ip⟩
      have et : t.drop i = { t with place := SetTable.eraseAt t.place i, dummies := #[j] } := by
        unfold SetTable.drop
        rw [hj, R.tab.dm]
        rfl
      rw [et]
      have es7 : (SetTable.eraseAt es i).size = 7 := by rw [size_of_ents en, l7]
      refine wpAny_bind (wpAny_storeSet_of (s := { s with drawn := d }) ho hd ?_ (by rw [es7, sizeLine_eq]; decide))
      refine wpAny_bind (wpAny_point ?_)
      rw [← eL]
      have ps : (SetTable.eraseAt t.place i).size = 7 := by
        have := R.tab.sz
        rw [hashes_len] at this
        rw [← Array.length_toList, erase_list, List.length_eraseIdx_of_lt (by rw [Array.length_toList]; exact ip), Array.length_toList]
        omega
      refine wpAny_pure ⟨_, rfl, Heap.SameBut.update .., _, _, _, ⟨⟨_, store_at ho hd, hex.1, rfl⟩, en, ?_, ?_, R.led⟩, by show 1 ≤ 1; decide, hm⟩
      · unfold SetTable.fits SetTable.fill
        show ((SetTable.eraseAt t.place i).size == (SetTable.eraseAt es i).size && decide ((SetTable.eraseAt t.place i).size + 1 ≤ t.mask)) = true
        rw [ps, es7, hm]
        decide
      · show Ris (SetTable.eraseAt t.place i).toList
        rw [erase_list]
        exact R.tab.ris.sublist (List.eraseIdx_sublist _ _)
    · dsimp only
      refine wpAny_pure ⟨_, rfl, Heap.SameBut.refl _ _, es, ep, t, ?_, by rw [R.tab.dm]; decide, hm⟩
      rw [unlike_none hn]
      exact ⟨⟨o, ho, hex.1, hd⟩, R.en, R.fits, R.tab.ris, R.led⟩
  refine wpAny_mono base (fun _ s' hb => ?_) fun _ _ h => h
  obtain ⟨h', rfl, sb, es', ep', t', S, dm, mk⟩ := hb
  have ho2' : h'.get? b = some o2 := (sb.2 b hne).trans ho2
  unfold unchanged
  refine wpAny_bind (wpAny_bind (wpAny_setEpoch_of (s := { s with heap := h', drawn := d }) ho2' hd2 R2.fits ?_))
  refine wp_if_neg (by simp) ?_
  refine wpAny_pure ?_
  refine wpAny_pure ?_
  dsimp only
  refine wpAny_pure ?_
  refine wpAny_pure ?_
  obtain ⟨o', ho', hc', hd'⟩ := S.ob
  unfold setTidy
  refine wpAny_bind (wpAny_setState_of (s := { s with heap := h', drawn := d }) ho' hd' S.fit ?_)
  dsimp only
  refine wp_if_neg (by unfold SetTable.tooManyDummies; rw [mk]; simp; omega) ?_
  exact wpAny_pure (q h' d _ _ _ _ sb S rfl)
theorem diff_far8 {id : String} {a b : Addr} {L1 L2 : List (Addr × NK)} {e1 e2 : Array (Int × Value)} {p1 p2 : Nat} {t1 t2 : SetTable} (R1 : TSet P w s.heap a L1 e1 p1 t1) (R2 : TSet P w s.heap b L2 e2 p2 t2) (h8 : L1.length = 8) (h1 : L2.length ≤ 1) (hu : A.units + 8 < cLine)
    {Q : Value → Shared → Prop} (q : ∀ h' d L es ep t, (∀ c u, s.heap.get? c = some u → h'.get? c = some u) → SSet P w h' s.heap.objs.size L es ep t → L.Perm (unlike L1 L2) → Q (.ref s.heap.objs.size) { s with heap := h', drawn := d }) :
    wpAny (model P w) A (Builtin.Frozenset.difference id a (.ref b)) Q E s := by
  obtain ⟨o1, ho1, hex1, hd1⟩ := R1.ob
  obtain ⟨o2, ho2, hex2, hd2⟩ := R2.ob
  have T2 : s.TypeIs (.ref b) "set" := ⟨o2, ho2, hex2.1⟩
  have s1 := size_of_ents R1.en
  have s2 := size_of_ents R2.en
  rw [diff_eq]
  refine wpAny_bind (any_set T2 ?_)
  refine wp_if_neg (by decide) ?_
  try refine wpAny_bind (wpAny_pure ?_)
  refine wp_if_neg (by simp) ?_
  refine wp_if_pos rfl ?_
  refine wpAny_bind (size_of ho2 hd2 R2.fits ?_)
  dsimp only
  refine wpAny_bind (size_of ho1 hd1 R1.fits ?_)
  refine wp_if_pos (by rw [s1, s2]; omega) ?_
  refine wpAny_bind (wpAny_rule ?_)
  refine wpAny_bind (copied8 R1 h8 fun h' L' es' ep' t' keep R pm mk => ?_)
  have hb : b ≠ s.heap.objs.size := Nat.ne_of_lt (Heap.lt_size ho2)
  refine wpAny_bind (m := addrOf (.ref s.heap.objs.size)) (wpAny_pure ?_)
  have l8 : L'.length = 8 := by rw [pm.length_eq, h8]
  cases L2 with
  | nil =>
    refine wpAny_bind (wpAny_holding (less_none (s := { s with heap := h' }) (R.ss (s := { s with heap := h' }) rfl) R.tab.dm (R2.moved (keep b) fun p hp => nomatch hp) hb fun d => ?_))
    refine wpAny_pure (q h' d L' es' ep' t' keep (R.ss (s := { s with heap := h' }) rfl) ?_)
    have e : unlike L1 [] = L1 := by
      unfold unlike
      rw [List.filter_eq_self]
      exact fun p hp => rfl
    rw [e]
    exact pm
  | cons z L2 =>
    have n0 : L2 = [] := List.length_eq_zero_iff.mp (by rw [List.length_cons] at h1; omega)
    subst n0
    obtain ⟨y, k⟩ := z
    refine wpAny_bind (wpAny_holding (less_one (s := { s with heap := h' }) R l8 mk (R2.moved (keep b) fun p hp => (R2.ks p hp).kept keep) hb hu fun h2 d L3 es3 ep3 t3 sb S eL => ?_))
    refine wpAny_pure (q h2 d L3 es3 ep3 t3 (fun c u hc => (sb.2 c fun z => ?_).trans (keep c u hc)) S ?_)
    · rw [z] at hc
      exact absurd (Heap.lt_size hc) (Nat.lt_irrefl _)
    · rw [eL]
      exact pm.filter _
theorem sub_call8 {a b : Addr} {L1 L2 : List (Addr × NK)} {e1 e2 : Array (Int × Value)} {p1 p2 : Nat} {t1 t2 : SetTable} (R1 : TSet P w s.heap a L1 e1 p1 t1) (R2 : TSet P w s.heap b L2 e2 p2 t2) (few : L1.length ≤ 8) (hu : A.units + 16 < cLine)
    {Q : Value → Shared → Prop} (q : ∀ h' d L es ep t, (∀ c u, s.heap.get? c = some u → h'.get? c = some u) → SSet P w h' s.heap.objs.size L es ep t → L.Perm (unlike L1 L2) → Q (.ref s.heap.objs.size) { s with heap := h', drawn := d }) :
    wpAny (model P w) A (binaryOp .Sub (.ref a) (.ref b)) Q E s := by
  by_cases old : L1.length / 4 ≤ L2.length ∨ L2 = [] ∧ L1.length < 8
  · exact sub_call R1 R2 old hu q
  have h8 : L1.length = 8 ∧ L2.length ≤ 1 := by
    rw [not_or] at old
    obtain ⟨c1, c2⟩ := old
    by_cases l8 : L1.length < 8
    · have l2 : L2.length = 0 := by omega
      exact absurd ⟨List.length_eq_zero_iff.mp l2, l8⟩ c2
    · omega
  obtain ⟨o1, ho1, hex1, hd1⟩ := R1.ob
  obtain ⟨o2, ho2, hex2, hd2⟩ := R2.ob
  have T1 : s.TypeIs (.ref a) "set" := ⟨o1, ho1, hex1.1⟩
  have T2 : s.TypeIs (.ref b) "set" := ⟨o2, ho2, hex2.1⟩
  refine wpAny_binaryOp_same (op := .Sub) T1 T2 F.fills_set_sub F.slot_set_sub (wpAny_call_entry F.slot_set_sub T1 entry_set_sub ?_ (F.args_set_sub_2 _ _))
  show wpAny _ _ (do
    let r ← isAnySet (.ref a) <&&> isAnySet (.ref b)
    if !r then do
      rule s!"frozenset.{"__sub__"}.declined"
      ret .notImplemented
    else do
      let l ← addrOf (.ref a)
      let v ← Builtin.Frozenset.difference s!"frozenset.{"__sub__"}" l (.ref b)
      ret v) _ _ s
  refine wpAny_bind ?_
  unfold andM
  refine wpAny_bind (any_set T1 ?_)
  refine any_set T2 ?_
  refine wp_if_neg (by decide) ?_
  refine wpAny_bind (m := addrOf (.ref a)) (wpAny_pure ?_)
  refine wpAny_bind (diff_far8 R1 R2 h8.1 h8.2 ?_ fun h' d L es ep t k S pm => ?_)
  · simp only [Around.in1_units]
    omega
  · exact wpAny_pure ⟨_, rfl, (fun z => nomatch z), q h' d L es ep t k S pm⟩
end
section
variable {X : Cx} {pins : List (Addr × Obj)} {σ : L2.St} {H : Hp} {s : Shared}
/-- a - b, sets of tuples -/
def rSubE (K : PySem.W.Frag) (P : Program) (w : World) : R2 := fun x y H Q => ∃ (a b : Addr) (L1 L2 : List (Addr × PyData)), x = .ref a ∧ y = .ref b ∧ H a = some (TSetO w a L1) ∧ H b = some (TSetO w b L2) ∧ (∀ p ∈ L1, Good p.2 ∧ Dp K H (.ref p.1) p.2) ∧ (∀ p ∈ L2, Good p.2 ∧ Dp K H (.ref p.1) p.2) ∧
  (∃ D : List PyData, (∀ p ∈ L1, p.2 ∈ D) ∧ D.length ≤ 8) ∧ ∀ c L, H c = none → (∀ p ∈ L, p ∈ L1) → (∀ d, d ∈ L.map (·.2) ↔ d ∈ L1.map (·.2) ∧ d ∉ L2.map (·.2)) → (L.map (·.2)).Nodup → L.length < 76 → Q (.ref c) (upd H c (SSetO P w c L))
theorem op_subE (hu : X.A.units + 64 < cLine) : OpR X (binaryOp .Sub) (rSubE X.K X.prog X.w) := by
  intro pins s σ H x y v u Q I rx ry h
  obtain ⟨a, b, L1, L2, rfl, rfl, ha, hb, g1, g2, few, q⟩ := h
  obtain rfl : v = Value.ref a := rx
  obtain rfl : u = Value.ref b := ry
  obtain ⟨es1, ep1, t1, R1⟩ := tset_get I ha g1
  obtain ⟨es2, ep2, t2, R2⟩ := tset_get I hb g2
  have hn : H s.heap.objs.size = none := I.hok.fresh (Nat.le_refl _)
  have l1 : (tk L1).length = L1.length := List.length_map _
  have l2 : (tk L2).length = L2.length := List.length_map _
  refine sub_call8 R1 R2 ?_ (by omega) fun h' d L es ep t keep S pm => ?_
  · obtain ⟨D, hD, hD8⟩ := few
    have n1 : (L1.map (·.2)).Nodup := by
      have z : ((L1.map (·.2)).map toK).Nodup := by
        have e : (L1.map (·.2)).map toK = (tk L1).map (·.2) := by
          unfold tk
          rw [List.map_map, List.map_map]
          rfl
        rw [e]
        exact R1.nd
      exact nodup_of_map z
    have le := nodup_le (m := D) n1 fun d hd => by
      obtain ⟨p, hp, rfl⟩ := List.mem_map.mp hd
      exact hD p hp
    rw [List.length_map] at le
    omega
  have sub : ∀ p ∈ L, p ∈ tk L1 := fun p hp => (List.mem_filter.mp (pm.mem_iff.mp hp)).1
  obtain ⟨M, rfl, hM⟩ := tk_back L1 L sub
  have ndk : ((tk M).map (·.2)).Nodup := by
    refine (pm.map (·.2)).nodup_iff.mpr ?_
    exact List.Nodup.sublist (List.Sublist.map _ List.filter_sublist) R1.nd
  have nd : (M.map (·.2)).Nodup := by
    have z : ((M.map (·.2)).map toK).Nodup := by
      have e : (M.map (·.2)).map toK = (tk M).map (·.2) := by
        unfold tk
        rw [List.map_map, List.map_map]
        rfl
      rw [e]
      exact ndk
    exact nodup_of_map z
  have lenM : M.length < 76 := by
    have z1 := pm.length_eq
    have z2 : (unlike (tk L1) (tk L2)).length ≤ (tk L1).length := List.length_filter_le _ _
    have z3 : (tk M).length = M.length := List.length_map _
    have z4 := R1.few
    omega
  have mem : ∀ e, e ∈ M.map (·.2) ↔ e ∈ L1.map (·.2) ∧ e ∉ L2.map (·.2) := fun e => by
    have key : ∀ p ∈ L1, ((p.1, toK p.2) ∈ tk M ↔ p.2 ∉ L2.map (·.2)) := fun p hp => by
      rw [pm.mem_iff]
      unfold unlike
      rw [List.mem_filter]
      have hin : (p.1, toK p.2) ∈ tk L1 := List.mem_map.mpr ⟨p, hp, rfl⟩
      have e2 : toK p.2 ∈ (tk L2).map (·.2) ↔ p.2 ∈ L2.map (·.2) := by
        constructor
        · intro z
          obtain ⟨y, hy, ey⟩ := List.mem_map.mp z
          obtain ⟨y0, hy0, rfl⟩ := List.mem_map.mp hy
          have := toK_inj (g2 y0 hy0).1.ok (g1 p hp).1.ok ey
          exact List.mem_map.mpr ⟨y0, hy0, this⟩
        · intro z
          obtain ⟨y0, hy0, ey⟩ := List.mem_map.mp z
          exact List.mem_map.mpr ⟨(y0.1, toK y0.2), List.mem_map.mpr ⟨y0, hy0, rfl⟩, by rw [ey]⟩
      constructor
      · intro z
        have := z.2
        simp only [Bool.not_eq_true', decide_eq_false_iff_not] at this
        exact fun hh => this (e2.mpr hh)
      · intro z
        refine ⟨hin, ?_⟩
        simp only [Bool.not_eq_true', decide_eq_false_iff_not]
        exact fun hh => z (e2.mp hh)
    constructor
    · intro he
      obtain ⟨p, hp, rfl⟩ := List.mem_map.mp he
      exact ⟨List.mem_map.mpr ⟨p, hM p hp, rfl⟩, (key p (hM p hp)).mp (List.mem_map.mpr ⟨p, hp, rfl⟩)⟩
    · rintro ⟨h1, h2⟩
      obtain ⟨p, hp, rfl⟩ := List.mem_map.mp h1
      have z := (key p hp).mpr h2
      obtain ⟨y, hy, ey⟩ := List.mem_map.mp z
      have e3 : y.2 = p.2 := toK_inj (g1 y (hM y hy)).1.ok (g1 p hp).1.ok (congrArg Prod.snd ey)
      exact List.mem_map.mpr ⟨y, hy, e3⟩
  have new : ObjOk X.prog X.w (upd H s.heap.objs.size (SSetO X.prog X.w s.heap.objs.size M)) h' s.heap.objs.size (SSetO X.prog X.w s.heap.objs.size M) := by
    obtain ⟨o, ho, ho2⟩ := S.ob
    exact ⟨⟨es, ep, t, S⟩, ⟨o, ho⟩, fun h1 h2 ⟨es', ep', t', S'⟩ kk => ⟨es', ep', t', by
      obtain ⟨o', e1, e2⟩ := S'.ob
      exact ⟨⟨o', kk o' e1, e2⟩, S'.en, S'.fit, S'.ris, S'.led⟩⟩⟩
  have J : Inv X pins σ (upd H s.heap.objs.size (SSetO X.prog X.w s.heap.objs.size M)) { s with heap := h', gens := s.gens, drawn := d, toks := s.toks } :=
    I.call (ch := []) (Un.laid keep (Nat.le_refl _) hn) (I.hok.laid keep (Nat.le_refl _) new) I.bare (fun _ z => nomatch z)
  exact ⟨.ref s.heap.objs.size, _, J, rfl, q _ M hn hM mem nd lenM⟩
end
end Rw
namespace Rw
open PySem PySem.Spec PyProof.Rows L2
/-! ### Program's - -/
theorem scSub : FnScope ["self", "other", "rows"] ["self", "other"] (defScope sSub) := ⟨rfl, rfl, rfl, by decide +kernel, rfl, by decide +kernel, by decide +kernel⟩
theorem alike_rds {ds : List PyData} (h : ∀ d ∈ ds, ∃ r, d = rd r) : PySem.W.AllAlike ds := fun d hd e he => by
  obtain ⟨r, rfl⟩ := h d hd
  obtain ⟨q, rfl⟩ := h e he
  exact alike_rd r q
section
variable {P : Program} {w : World} {K : PySem.W.Frag} {mg : Str → Option Value} {base : Heap} {f : Addr} {fd : FuncData} {k : Nat}
def less (S1 S2 : List Rl) : List Rl := S1.filter fun r => !decide (r ∈ S2)
/-- one - other -/
def spSub (K : PySem.W.Frag) (C CP : Addr) : Sp := fun vs H Q E => ∃ (x y : V) (S1 : List Rl), vs = [x, y] ∧ PgAt K C H x S1 ∧ (∀ r ∈ S1, IsR r) ∧
  ((∃ S2 : List Rl, PgAt K C H y S2 ∧ S1.length ≤ 8 ∧ S2.length < 76 ∧ ∀ H' v S, Same H H' → Srt S (less S1 S2) → S.length < 76 → PgAt K C H' v S → Q v H') ∨
   (∃ d, Dp K H y d ∧ ∀ dx, H dx = none → E (.ref CP) (some dx) (upd H dx (.xd [(("thing" : Str), y)]))))
theorem ok_sub {C CP fI : Addr} (F : Fun K "__sub__" "Program.__sub__" sSub f fd) (T : Bl mg) (G : PgC K mg C) (n : NoAttr K C "_rules") (X : ErrT P w K mg base k "NotAProgram" "thing" CP) (M : Mk K C fI) (GI : FnR P w K mg base CX0 k fI (spInit K C)) : FnOk P w K mg base (L2.CX P w) (k + 2) f fd ["self", "other"] (spSub K C CP) := by
  obtain ⟨fE, fdE, i1, i2, i3, i4⟩ := X.ex
  refine F.okX scSub (fun vs H Q E h => ?_) (fun cdv A outer s H vs Q E hr h => ?_)
  · obtain ⟨x, y, S, rfl, _⟩ := h
    rfl
  obtain ⟨x, y, S1, rfl, ⟨a, dx, t, ys, rfl, h1, h2, h3⟩, hI, h⟩ := h
  refine ⟨_, pss_cons (ps_if (pt_not (pt_val (pe_callB call_isi (by rfl) T.isi PyProof.Rows.boot_isinstance (pa_cons (pv 1) (pa_cons (pe_glob (v := .ref C) (by rfl) G.m rfl) pa_nil)))))
      (pss_one (ps_raise rfl (takes_of rfl rfl rfl rfl) (pmk_oex X.oex i1 i2 i3 hr i4 .nil pass0 (by rfl) X.m (pa_cons (pv 1) pa_nil)))) pss_nil)
    (pss_cons (ps_set (i := 2) scSub.nd rfl (.inl rfl) (pe_callB (cr_sortS rfl hr.units) (by rfl) T.sorted (by decide +kernel) (pa_cons (pe_op (op_subE hr.units) (pe_callTy (T := "set") (cr_setR rfl hr.units) (by rfl) T.set (by decide +kernel) (pa_cons (pe_fld (pv 0) rfl) pa_nil)) (pe_callTy (T := "set") (cr_setR rfl hr.units) (by rfl) T.set (by decide +kernel) (pa_cons (pe_fld (pv 1) rfl) pa_nil))) pa_nil)))
    (pss_one (ps_ret (pe_makeS M GI hr (by rfl) G.m pass0 (pv 2))))), ?_⟩
  rcases h with ⟨S2, ⟨b, dy, u, zs, rfl, g1, g2, g3⟩, few1, few2, q⟩ | ⟨d, hd, q⟩
  · refine ⟨.ref b, rfl, .ref b, .ref C, .ref C, .ref C, true, rfl, .own C, ty_ins G g1, G.yes, true, rfl, iteF ?_⟩
    refine ⟨.ref a, rfl, a, C, dx, _, .ref t, rfl, h1, G.cls, n, rfl, t, ys, S1, rfl, .inr h2, h3, by omega, fun p1 M1 hp1 hM1 isP1 all1 => ?_⟩
    have s1 := same_new hp1 (TSetO w p1 M1)
    refine ⟨.ref b, rfl, b, C, dy, _, .ref u, rfl, s1 _ _ g1, G.cls, n, rfl, u, zs, S2, rfl, .inr (same_tup s1 g2), (Stay.same s1).dpAll _ _ (okDs_rd S2) g3, few2, fun p2 M2 hp2 hM2 isP2 all2 => ?_⟩
    have s2 := same_new hp2 (TSetO w p2 M2)
    have s12 := s1.trans s2
    refine ⟨p1, p2, M1, M2, rfl, rfl, s2 _ _ upd_same, upd_same, (fun e he => ⟨(hM1 e he).1, (Stay.same s12).dp _ _ (hM1 e he).1.ok (hM1 e he).2⟩), (fun e he => ⟨(hM2 e he).1, (Stay.same s2).dp _ _ (hM2 e he).1.ok (hM2 e he).2⟩),
      ⟨S1.map rd, (fun e he => by
        obtain ⟨r, hr, er⟩ := isP1 e he
        rw [er]
        exact List.mem_map.mpr ⟨r, hr, rfl⟩), by rw [List.length_map]; exact few1⟩, fun p3 L hp3 hL hmem hnd hfew => ?_⟩
    have s3 := same_new hp3 (SSetO P w p3 L)
    have s13 := s12.trans s3
    have ofL : ∀ d ∈ L.map (·.2), ∃ r, d = rd r := fun d hd => by
      obtain ⟨e, he, rfl⟩ := List.mem_map.mp hd
      obtain ⟨r, _, er⟩ := isP1 e (hL e he)
      exact ⟨r, er⟩
    refine ⟨p3, L, rfl, upd_same, (fun e he => ⟨(hM1 e (hL e he)).1, (Stay.same s13).dp _ _ (hM1 e (hL e he)).1.ok (hM1 e (hL e he)).2⟩), hnd, hfew, alike_rds ofL, fun ws ds p4 hpm hdn hdl hris hws hp4 => ?_⟩
    have s4 := same_new hp4 (.lst ws)
    have s14 := s13.trans s4
    obtain ⟨R, rfl⟩ := all_rd fun d hd => ofL d (hpm.mem_iff.mp hd)
    have memR : ∀ r, r ∈ R ↔ r ∈ less S1 S2 := fun r => by
      rw [← rd_mem, hpm.mem_iff, hmem]
      unfold less
      rw [List.mem_filter]
      have e1 : rd r ∈ M1.map (·.2) ↔ r ∈ S1 := ⟨fun hz => by
        obtain ⟨e, he, ee⟩ := List.mem_map.mp hz
        obtain ⟨r', hr', er⟩ := isP1 e he
        have : r = r' := rd_inj (by rw [← ee, er])
        rw [this]
        exact hr', fun hz => all1 r hz⟩
      have e2 : rd r ∈ M2.map (·.2) ↔ r ∈ S2 := ⟨fun hz => by
        obtain ⟨e, he, ee⟩ := List.mem_map.mp hz
        obtain ⟨r', hr', er⟩ := isP2 e he
        have : r = r' := rd_inj (by rw [← ee, er])
        rw [this]
        exact hr', fun hz => all2 r hz⟩
      rw [e1, e2]
      simp
    refine ⟨.ref p4, rfl, p4, ws, rfl, .inr (SqL.of upd_same), made_ok ((Stay.same s4).dpAll _ _ (okDs_rd R) hws) (fun r hr => hI r (List.mem_filter.mp ((memR r).mp hr)).1) (by rw [List.length_map] at hdl; exact hdl) fun H' v S s5 hS hl hv => q H' v S (s14.trans s5) ⟨hS.nd, hS.ris, fun r => (hS.mem r).trans (memR r)⟩ hl hv⟩
  · exact ⟨y, rfl, y, .ref C, .type (tyName d), .ref C, false, rfl, .own C, tyx_dp hd, G.odd d, false, rfl, iteT ⟨y, rfl, err_made q⟩⟩
end
end Rw
namespace Rw
open PySem PySem.Spec PyProof.Rows L2
/-! ### mathematics: conflicts and cures as lists of rules -/
theorem tAt_map {S : List Rl} {n : Nat} (h : n < S.length) : tAt (S.map tkB) n = tkB S[n] := by
  unfold tAt
  rw [List.getD_eq_getElem?_getD, List.getElem?_map, List.getElem?_eq_getElem h]
  rfl
theorem mem_pick {S : List Rl} {p : List Nat} {r : Rl} : r ∈ pickL S p ↔ ∃ n, n ∈ p ∧ ∃ h : n < S.length, S[n] = r := by
  unfold pickL
  rw [List.mem_filterMap]
  constructor
  · rintro ⟨n, hn, e⟩
    obtain ⟨h, e⟩ := List.getElem?_eq_some_iff.mp e
    exact ⟨n, hn, h, e⟩
  · rintro ⟨n, hn, h, e⟩
    exact ⟨n, hn, by rw [List.getElem?_eq_getElem h, e]⟩
theorem pick_in {S : List Rl} {p : List Nat} {r : Rl} (h : r ∈ pickL S p) : r ∈ S := by
  obtain ⟨n, _, l, rfl⟩ := mem_pick.mp h
  exact List.getElem_mem l
theorem at_one {S : List Rl} (nd : S.Nodup) {n m : Nat} (hn : n < S.length) (hm : m < S.length) (e : S[n] = S[m]) : n = m := (List.getElem_inj nd).mp e
/-- the place n is among p exactly if its rule is picked -/
theorem pick_at {S : List Rl} (nd : S.Nodup) {p : List Nat} {n : Nat} (hn : n < S.length) : S[n] ∈ pickL S p ↔ n ∈ p := by
  rw [mem_pick]
  constructor
  · rintro ⟨m, hm, h, e⟩
    rw [at_one nd hn h e.symm]
    exact hm
  · exact fun h => ⟨n, h, hn, rfl⟩
/-- r left out -/
def lessR (S : List Rl) (r : Rl) : List Rl := S.filter fun x => !decide (x = r)
theorem mem_lessR {S : List Rl} {r x : Rl} : x ∈ lessR S r ↔ x ∈ S ∧ x ≠ r := by
  unfold lessR
  rw [List.mem_filter, Bool.not_eq_true', decide_eq_false_iff_not]
def outL (S c : List Rl) : List Rl := S.filter fun x => !decide (x ∈ c)
theorem mem_outL {S c : List Rl} {x : Rl} : x ∈ outL S c ↔ x ∈ S ∧ x ∉ c := by
  unfold outL
  rw [List.mem_filter, Bool.not_eq_true', decide_eq_false_iff_not]
section
variable {S : List Rl} {own : W} (nd : S.Nodup) (few : S.length ≤ 8) (hn : ∀ z ∈ namesL S, z ∈ own)
include nd few hn
theorem sub_names {c : List Rl} (h : ∀ r ∈ c, r ∈ S) : ∀ z ∈ namesL c, z ∈ own := fun z hz => by
  obtain ⟨r, hr, e⟩ := List.mem_flatMap.mp hz
  exact hn z (List.mem_flatMap.mpr ⟨r, h r hr, e⟩)
theorem conf_sat {p : List Nat} : p ∈ confP own S ↔ p ∈ partsN S.length ∧ ¬ Sat (pickL S p) ∧ ∀ r ∈ pickL S p, Sat (lessR (pickL S p) r) := by
  unfold confP
  rw [List.mem_filter]
  refine and_congr_right fun hp => ?_
  have lt : ∀ n ∈ p, n < S.length := parts_lt _ few p hp
  rw [conf_iff (fun n hn => by rw [List.length_map]; exact lt n hn) (parts_up _ few p hp)]
  have one : (∀ a ∈ diag own, ∃ n ∈ p, tAt (S.map tkB) n a = true) ↔ ¬ Sat (pickL S p) := by
    rw [sat_diag (sub_names nd few hn fun r hr => pick_in hr)]
    constructor
    · rintro h ⟨a, ha, z⟩
      obtain ⟨n, hn', e⟩ := h a ha
      rw [tAt_map (lt n hn')] at e
      rw [z _ (mem_pick.mpr ⟨n, hn', lt n hn', rfl⟩)] at e
      cases e
    · intro h a ha
      refine Classical.byContradiction fun c => h ⟨a, ha, fun r hr => ?_⟩
      obtain ⟨n, hn', l, rfl⟩ := mem_pick.mp hr
      refine Bool.eq_false_iff.mpr fun e => c ⟨n, hn', ?_⟩
      rw [tAt_map l]
      exact e
  rw [one]
  refine and_congr_right fun no => ⟨fun h r hr => ?_, fun h n hn' => ?_⟩
  · obtain ⟨n, hn', l, rfl⟩ := mem_pick.mp hr
    obtain ⟨a, ha, _, z⟩ := h n hn'
    rw [sat_diag (sub_names nd few hn fun r hr => pick_in (mem_lessR.mp hr).1)]
    refine ⟨a, ha, fun r hr => ?_⟩
    obtain ⟨hr1, hr2⟩ := mem_lessR.mp hr
    obtain ⟨m, hm, lm, rfl⟩ := mem_pick.mp hr1
    rw [← tAt_map lm]
    exact z m hm fun e => hr2 (by subst e; rfl)
  · have l := lt n hn'
    have z := h _ (mem_pick.mpr ⟨n, hn', l, rfl⟩)
    rw [sat_diag (sub_names nd few hn fun r hr => pick_in (mem_lessR.mp hr).1)] at z
    obtain ⟨a, ha, z⟩ := z
    have oth : ∀ m ∈ p, m ≠ n → tAt (S.map tkB) m a = false := fun m hm ne => by
      have lm := lt m hm
      rw [tAt_map lm]
      exact z _ (mem_lessR.mpr ⟨mem_pick.mpr ⟨m, hm, lm, rfl⟩, fun e => ne (at_one nd lm l e)⟩)
    refine ⟨a, ha, ?_, oth⟩
    obtain ⟨m, hm, e⟩ := one.mpr no a ha
    by_cases c : m = n
    · subst c
      exact e
    · rw [oth m hm c] at e
      cases e
theorem free_map {p : List Nat} {a : PW2} : Free (S.map tkB) p a ↔ ∀ r ∈ outL S (pickL S p), tkB r a = false := by
  constructor
  · intro h r hr
    obtain ⟨h1, h2⟩ := mem_outL.mp hr
    obtain ⟨n, l, rfl⟩ := List.getElem_of_mem h1
    rw [← tAt_map l]
    exact h n (by rw [List.length_map]; exact l) fun z => h2 ((pick_at nd l).mpr z)
  · intro h n l z
    rw [List.length_map] at l
    rw [tAt_map l]
    exact h _ (mem_outL.mpr ⟨List.getElem_mem l, fun e => z ((pick_at nd l).mp e)⟩)
theorem cure_sat {p : List Nat} : p ∈ cureP own S ↔ p ∈ partsN S.length ∧ Sat (outL S (pickL S p)) ∧ ∀ r ∈ pickL S p, ¬ Sat (r :: outL S (pickL S p)) := by
  unfold cureP
  rw [List.mem_filter]
  refine and_congr_right fun hp => ?_
  have lt : ∀ n ∈ p, n < S.length := parts_lt _ few p hp
  rw [cure_iff, sat_diag (sub_names nd few hn fun r hr => (mem_outL.mp hr).1)]
  refine and_congr ⟨fun ⟨a, ha, z⟩ => ⟨a, ha, (free_map nd few hn).mp z⟩, fun ⟨a, ha, z⟩ => ⟨a, ha, (free_map nd few hn).mpr z⟩⟩ ⟨fun h r hr => ?_, fun h n hn' a ha fr => ?_⟩
  · obtain ⟨n, hn', l, rfl⟩ := mem_pick.mp hr
    rw [sat_diag (sub_names nd few hn fun r hr => by
      rcases List.mem_cons.mp hr with e | e
      · rw [e]; exact List.getElem_mem l
      · exact (mem_outL.mp e).1)]
    rintro ⟨a, ha, z⟩
    have := h n hn' a ha ((free_map nd few hn).mpr fun r hr => z r (List.mem_cons_of_mem _ hr))
    rw [tAt_map l, z _ List.mem_cons_self] at this
    cases this
  · have l := lt n hn'
    refine Classical.byContradiction fun c => h _ (mem_pick.mpr ⟨n, hn', l, rfl⟩) ?_
    rw [sat_diag (sub_names nd few hn fun r hr => by
      rcases List.mem_cons.mp hr with e | e
      · rw [e]; exact List.getElem_mem l
      · exact (mem_outL.mp e).1)]
    refine ⟨a, ha, fun r hr => ?_⟩
    rcases List.mem_cons.mp hr with e | e
    · rw [e, ← tAt_map l]
      exact Bool.eq_false_iff.mpr c
    · exact (free_map nd few hn).mp fr r e
end
end Rw
namespace Rw
open PySem PySem.Spec PyProof.Rows L2
/-! ### mathematics: what the law asks of them -/
def confL (own : W) (S : List Rl) : List (List Rl) := (confP own S).map (pickL S)
def cureL (own : W) (S : List Rl) : List (List Rl) := (cureP own S).map (pickL S)
theorem parts_head : ∀ m, m ≤ 8 → partsN m = [] :: (partsN m).tail ∧ ∀ p ∈ (partsN m).tail, p ≠ [] := by decide +kernel
theorem parts_nd : ∀ m, m ≤ 8 → (partsN m).Nodup := by decide +kernel
theorem parts_full : ∀ m, m ≤ 8 → List.range m ∈ partsN m := by decide +kernel
theorem pick_sub {S : List Rl} : ∀ {p q : List Nat}, p.Sublist q → (pickL S p).Sublist (pickL S q) := fun h => List.Sublist.filterMap _ h
theorem pick_take (S : List Rl) : ∀ n, pickL S (List.range n) = S.take n
  | 0 => rfl
  | n + 1 => by
    have ih := pick_take S n
    unfold pickL at ih ⊢
    rw [List.range_succ, List.filterMap_append, ih, List.take_add_one]
    congr 1
theorem pick_range (S : List Rl) : pickL S (List.range S.length) = S := by rw [pick_take, List.take_length]
theorem pick_range_sub {S : List Rl} {p : List Nat} (h : p.Sublist (List.range S.length)) : (pickL S p).Sublist S := by
  have := pick_sub (S := S) h
  rwa [pick_range] at this
theorem pick_nil {S : List Rl} {p : List Nat} (h : ∀ n ∈ p, n < S.length) : pickL S p = [] ↔ p = [] := by
  constructor
  · intro e
    cases p with
    | nil => rfl
    | cons n p =>
      have : S[n]'(h n List.mem_cons_self) ∈ pickL S (n :: p) := mem_pick.mpr ⟨n, List.mem_cons_self, _, rfl⟩
      rw [e] at this
      cases this
  · rintro rfl
    rfl
theorem filter_only {α : Type} [DecidableEq α] {f : α → Bool} : ∀ {L : List α} {a : α}, L.Nodup → a ∈ L → (∀ x ∈ L, f x = true ↔ x = a) → L.filter f = [a]
  | x :: L, a, nd, hm, h => by
    have nd' := List.nodup_cons.mp nd
    by_cases e : x = a
    · subst e
      rw [List.filter_cons_of_pos ((h x List.mem_cons_self).mpr rfl)]
      congr 1
      rw [List.filter_eq_nil_iff]
      intro y hy fy
      exact nd'.1 ((h y (List.mem_cons_of_mem _ hy)).mp fy ▸ hy)
    · rw [List.filter_cons_of_neg (fun z => e ((h x List.mem_cons_self).mp z))]
      have hm' : a ∈ L := (List.mem_cons.mp hm).resolve_left fun z => e z.symm
      exact filter_only nd'.2 hm' fun y hy => h y (List.mem_cons_of_mem _ hy)
section
variable {S : List Rl} {own : W} (nd : S.Nodup) (few : S.length ≤ 8) (hn : ∀ z ∈ namesL S, z ∈ own)
include nd few hn
theorem conf_mem {b : List Rl} (h : b ∈ confL own S) : b.Sublist S ∧ ¬ Sat b ∧ ∀ r ∈ b, Sat (lessR b r) := by
  obtain ⟨p, hp, rfl⟩ := List.mem_map.mp h
  obtain ⟨h1, h2, h3⟩ := (conf_sat nd few hn).mp hp
  exact ⟨pick_range_sub ((partsN_iff few).mp h1), h2, h3⟩
theorem cure_mem {c : List Rl} (h : c ∈ cureL own S) : c.Sublist S ∧ Sat (outL S c) ∧ ∀ r ∈ c, ¬ Sat (r :: outL S c) := by
  obtain ⟨p, hp, rfl⟩ := List.mem_map.mp h
  obtain ⟨h1, h2, h3⟩ := (cure_sat nd few hn).mp hp
  exact ⟨pick_range_sub ((partsN_iff few).mp h1), h2, h3⟩
theorem conf_nil : confL own S = [] ↔ Sat S := by
  constructor
  · intro e
    refine Classical.byContradiction fun no => ?_
    have cv : ∀ a ∈ diag own, ∃ n ∈ List.range (S.map tkB).length, tAt (S.map tkB) n a = true := fun a ha => by
      refine Classical.byContradiction fun c => no ((sat_diag hn).mpr ⟨a, ha, fun r hr => ?_⟩)
      obtain ⟨n, l, rfl⟩ := List.getElem_of_mem hr
      refine Bool.eq_false_iff.mpr fun z => c ⟨n, List.mem_range.mpr (by rw [List.length_map]; exact l), ?_⟩
      rw [tAt_map l]
      exact z
    obtain ⟨q, q1, q2⟩ := least_conf (List.Sublist.refl _) cv
    rw [List.length_map] at q1
    have : pickL S q ∈ confL own S := List.mem_map.mpr ⟨q, List.mem_filter.mpr ⟨(partsN_iff few).mpr q1, q2⟩, rfl⟩
    rw [e] at this
    cases this
  · intro h
    cases e : confL own S with
    | nil => rfl
    | cons b L =>
      have hb : b ∈ confL own S := by rw [e]; exact List.mem_cons_self
      obtain ⟨h1, h2, _⟩ := conf_mem nd few hn hb
      exact absurd (h.sub fun r hr => h1.subset hr) h2
theorem cure_one (h : Sat S) : cureL own S = [[]] := by
  have e : cureP own S = [[]] := by
    have f : ∀ p ∈ partsN S.length, lcB (diag own) (S.map tkB) p = true ↔ p = [] := fun p hp => by
      have := cure_sat nd few hn (p := p)
      unfold cureP at this
      rw [List.mem_filter] at this
      constructor
      · intro z
        obtain ⟨_, _, h3⟩ := this.mp ⟨hp, z⟩
        refine (pick_nil (parts_lt _ few p hp)).mp (List.eq_nil_iff_forall_not_mem.mpr fun r hr => h3 r hr (h.sub fun x hx => ?_))
        rcases List.mem_cons.mp hx with e | e
        · rw [e]; exact pick_in hr
        · exact (mem_outL.mp e).1
      · rintro rfl
        exact (this.mpr ⟨hp, h.sub fun r hr => (mem_outL.mp hr).1, fun r hr => nomatch hr⟩).2
    unfold cureP
    exact filter_only (parts_nd _ few) (by rw [(parts_head _ few).1]; exact List.mem_cons_self) f
  unfold cureL
  rw [e]
  rfl
theorem cure_no (h : ¬ Sat S) : [] ∉ cureL own S := fun z => by
  obtain ⟨_, h2, _⟩ := cure_mem nd few hn z
  exact h (h2.sub fun r hr => mem_outL.mpr ⟨hr, fun y => nomatch y⟩)
theorem cure_meets {c b : List Rl} (hc : c ∈ cureL own S) (hb : b ∈ confL own S) : ∃ r, r ∈ c ∧ r ∈ b := by
  obtain ⟨b1, b2, _⟩ := conf_mem nd few hn hb
  obtain ⟨_, c2, _⟩ := cure_mem nd few hn hc
  refine Classical.byContradiction fun z => b2 (c2.sub fun r hr => mem_outL.mpr ⟨b1.subset hr, fun y => z ⟨r, y, hr⟩⟩)
theorem cure_hit {c : List Rl} (hc : c ∈ cureL own S) {r : Rl} (hr : r ∈ c) : ∃ b ∈ confL own S, ∀ x ∈ c, x ∈ b → x = r := by
  obtain ⟨p, hp, rfl⟩ := List.mem_map.mp hc
  obtain ⟨h1, h2⟩ := List.mem_filter.mp hp
  have ps := (partsN_iff few).mp h1
  obtain ⟨n, hn', l, rfl⟩ := mem_pick.mp hr
  obtain ⟨q, q1, q2, q3⟩ := hit_cure (by rw [List.length_map]; exact ps) h2 hn'
  rw [List.length_map] at q1
  refine ⟨pickL S q, List.mem_map.mpr ⟨q, List.mem_filter.mpr ⟨(partsN_iff few).mpr q1, q2⟩, rfl⟩, fun x hx hy => ?_⟩
  obtain ⟨m, hm, lm, rfl⟩ := mem_pick.mp hx
  have := q3 m ((pick_at nd lm).mp hy) hm
  subst this
  rfl
theorem conf_hit {b : List Rl} (hb : b ∈ confL own S) {r : Rl} (hr : r ∈ b) : ∃ c ∈ cureL own S, ∀ x ∈ b, x ∈ c → x = r := by
  obtain ⟨p, hp, rfl⟩ := List.mem_map.mp hb
  obtain ⟨h1, h2⟩ := List.mem_filter.mp hp
  have ps := (partsN_iff few).mp h1
  obtain ⟨n, hn', l, rfl⟩ := mem_pick.mp hr
  obtain ⟨q, q1, q2, q3⟩ := hit_conf (by rw [List.length_map]; exact ps) h2 hn'
  rw [List.length_map] at q1
  refine ⟨pickL S q, List.mem_map.mpr ⟨q, List.mem_filter.mpr ⟨(partsN_iff few).mpr q1, q2⟩, rfl⟩, fun x hx hy => ?_⟩
  obtain ⟨m, hm, lm, rfl⟩ := mem_pick.mp hx
  have := q3 m ((pick_at nd lm).mp hy) hm
  subst this
  rfl
end
/-- the conflicts of a conflict: itself -/
theorem conf_self {S : List Rl} {own : W} (nd : S.Nodup) (few : S.length ≤ 8) (hn : ∀ z ∈ namesL S, z ∈ own) (no : ¬ Sat S) (yes : ∀ r ∈ S, Sat (lessR S r)) : confL own S = [S] := by
  have e : confP own S = [List.range S.length] := by
    have f : ∀ p ∈ partsN S.length, tjB (diag own) (pickT (S.map tkB) p) = true ↔ p = List.range S.length := fun p hp => by
      have := conf_sat nd few hn (p := p)
      unfold confP at this
      rw [List.mem_filter] at this
      have ps := (partsN_iff few).mp hp
      constructor
      · intro z
        obtain ⟨_, h2, _⟩ := this.mp ⟨hp, z⟩
        refine Classical.byContradiction fun ne => ?_
        have : ∃ n, n < S.length ∧ n ∉ p := Classical.byContradiction fun c => ne (ps.eq_of_length_le ?_)
        · obtain ⟨n, l, hnp⟩ := this
          exact h2 ((yes S[n] (List.getElem_mem l)).sub fun r hr => mem_lessR.mpr ⟨pick_in hr, fun e => hnp ((pick_at nd l).mp (e ▸ hr))⟩)
        · have sub : ∀ x ∈ List.range S.length, x ∈ p := fun x hx => Classical.byContradiction fun y => c ⟨x, List.mem_range.mp hx, y⟩
          exact len_le List.nodup_range sub
      · rintro rfl
        refine (this.mpr ⟨hp, ?_, ?_⟩).2
        · rw [pick_range]; exact no
        · rw [pick_range]; exact yes
    unfold confP
    exact filter_only (parts_nd _ few) (parts_full _ few) f
  unfold confL
  rw [e, List.map_singleton, pick_range]
end Rw
namespace Rw
open PySem PySem.Spec PyProof.Rows L2
/-! ### a list compared with [] -/
section
variable {X : Cx}
def rEqE (K : PySem.W.Frag) : R2 := fun x y H Q => ∃ p q xs, x = .ref p ∧ y = .ref q ∧ SqL K H p xs ∧ SqL K H q [] ∧ Q (.bl xs.isEmpty) H
def rNeE (K : PySem.W.Frag) : R2 := fun x y H Q => ∃ p q xs, x = .ref p ∧ y = .ref q ∧ SqL K H p xs ∧ SqL K H q [] ∧ Q (.bl (!xs.isEmpty)) H
theorem op_eqE (hu : X.A.units + 64 < cLine) : OpR X (compareOp .Eq) (rEqE X.K) := by
  intro pins s σ H x y v u Q I rx ry h
  obtain ⟨p, q, xs, rfl, rfl, hp, hq, k⟩ := h
  obtain rfl : v = Value.ref p := rx
  obtain rfl : u = Value.ref q := ry
  obtain ⟨its, rv, pl, _⟩ := I.list hp
  obtain ⟨its2, rv2, pl2, _⟩ := I.list hq
  cases rv2
  cases xs with
  | nil =>
    cases rv
    exact SeqAt.RcAt.lists (e := fun _ => true) pl.isList pl2.isList rfl (by omega) (fun j h1 _ => absurd h1 (Nat.not_lt_zero j)) X.prog X.w X.xe _ ⟨.bl true, H, I, rfl, k⟩
  | cons x xs =>
    cases rv with
    | cons _ _ => exact SeqAt.RcAt.lists_lengths pl.isList pl2.isList (by simp) (by omega) X.prog X.w X.xe _ ⟨.bl false, H, I, rfl, k⟩
theorem op_neE (hu : X.A.units + 64 < cLine) : OpR X (compareOp .NotEq) (rNeE X.K) := by
  intro pins s σ H x y v u Q I rx ry h
  obtain ⟨p, q, xs, rfl, rfl, hp, hq, k⟩ := h
  obtain rfl : v = Value.ref p := rx
  obtain rfl : u = Value.ref q := ry
  obtain ⟨its, rv, pl, _⟩ := I.list hp
  obtain ⟨its2, rv2, pl2, _⟩ := I.list hq
  cases rv2
  cases xs with
  | nil =>
    cases rv
    exact SeqAt.RcNeAt.lists (e := fun _ => true) pl.isList pl2.isList rfl (by omega) (fun j h1 _ => absurd h1 (Nat.not_lt_zero j)) X.prog X.w X.xe _ ⟨.bl false, H, I, rfl, k⟩
  | cons x xs =>
    cases rv with
    | cons _ _ => exact SeqAt.RcNeAt.lists_lengths pl.isList pl2.isList (by simp) (by omega) X.prog X.w X.xe _ ⟨.bl true, H, I, rfl, k⟩
end
end Rw
namespace Rw
open PySem PySem.SeqAt
open AutoSeq1 (wpAny_loadPart')
open MeetsSeq MeetsSeq2 MeetsSeq3 SeqRoads2 GQ
/-! ### == and != of two lists whose items are compared by what a promise says, in whatever way it comes out -/
def allN (N : Nat) (e : Nat → Bool) : Bool := (List.range N).all e
theorem allN_yes {N : Nat} {e : Nat → Bool} (h : ∀ j, j < N → e j = true) : allN N e = true := List.all_eq_true.mpr fun j hj => h j (List.mem_range.mp hj)
theorem allN_no {N i : Nat} {e : Nat → Bool} (hi : i < N) (h : e i = false) : allN N e = false := by
  cases c : allN N e with
  | false => rfl
  | true =>
    rw [List.all_eq_true.mp c i (List.mem_range.mpr hi)] at h
    cases h
section
variable {prog : Program} {w : World} {A : Around} {R : Result → Shared → Prop}
def ListB (prog : Program) (w : World) (A : Around) (E : Value → Shared → Prop) (l b : Addr) (N : Nat) (e : Nat → Bool) (I : Shared → Prop) : Prop :=
  ∀ i s, I s → ∃ (us vs : Array Value) (n n2 : Nat), s.heap.get? l = some { cls := .type "list", data := .seq us n } ∧ s.heap.get? b = some { cls := .type "list", data := .seq vs n2 } ∧ us.size = N ∧ vs.size = N ∧
    ∀ (h1 : i < us.size) (h2 : i < vs.size), wpAny (model prog w) A.in1 (eqBool us[i] vs[i]) (fun r s' => r = e i ∧ I s') E s
theorem lsq_turns (l b : Addr) (N : Nat) (e : Nat → Bool) (I : Shared → Prop) (hl : ListB prog w A (fun e s' => R (.error e) s') l b N e I) (fin : ∀ s, I s → R (.ok (.ret (.bool (allN N e)))) s) (k : Nat) :
    ∀ i : Nat, N - i = k → i ≤ N → (∀ j, j < i → e j = true) → ∀ s, I s → wpAny (model prog w) A.in1 (Builtin.«list.__eq__.loop» ⟨[.ref l, .ref b, rawInt i, rawInt 2], []⟩) (FinOf prog w A R) (fun e s' => R (.error e) s') s := by
  induction k with
  | zero =>
    intro i hk hi hj s h
    obtain ⟨us, vs, n, n2, g1, g2, z1, z2, _⟩ := hl i _ h
    have eN : i = N := by omega
    have done := fin s h
    rw [allN_yes (fun j h => hj j (by omega))] at done
    obtain ⟨hp, g, d, tk, os⟩ := s
    wp_walk using wpAny_loadPart' g1, wpAny_loadPart' g2
    have q1 : us[((i : Nat) : Int).toNat]? = none := by simp <;> omega
    have q2 : vs[((i : Nat) : Int).toNat]? = none := by simp <;> omega
    rw [q1, q2]
    wp_walk using wpAny_loadPart' g1, wpAny_loadPart' g2
    show R (.ok (.ret (.bool (us.size == vs.size)))) _
    rw [z1, z2]
    simpa using done
  | succ k ih =>
    intro i hk hi hj s h
    obtain ⟨us, vs, n, n2, g1, g2, z1, z2, turn⟩ := hl i _ h
    have b1 : i < us.size := by omega
    have b2 : i < vs.size := by omega
    have ht := turn b1 b2
    obtain ⟨hp, g, d, tk, os⟩ := s
    wp_walk using wpAny_loadPart' g1, wpAny_loadPart' g2
    have q1 : us[((i : Nat) : Int).toNat]? = some us[i] := by simp [b1]
    have q2 : vs[((i : Nat) : Int).toNat]? = some vs[i] := by simp [b2]
    have up : ((i : Int) + 1) = ((i + 1 : Nat) : Int) := by omega
    rw [q1, q2]
    refine wpAny_bind (wpAny_mono ht (fun r s2 h2 => ?_) fun _ _ z => z)
    obtain ⟨hr, h2⟩ := h2
    cases r with
    | true =>
      have again := ih (i + 1) (by omega) (by omega) (fun j hj' => by
        rcases Nat.lt_or_ge j i with z | z
        · exact hj j z
        · obtain rfl : j = i := by omega
          exact hr.symm) s2 h2
      obtain ⟨hp2, g2', d2, tk2, os2⟩ := s2
      wp_walk
      rw [up]
      exact ⟨plainId_quiet plain_eq_loop _, codeAny_builtin entry_eq_loop (by
        rw [Around.under_plainId plain_eq_loop _]
        exact again)⟩
    | false =>
      have done := fin s2 h2
      rw [allN_no (i := i) (by omega) hr.symm] at done
      obtain ⟨us', vs', n', n2', g1', g2', z1', z2', _⟩ := hl i _ h2
      obtain ⟨hp2, gg2, d2, tk2, os2⟩ := s2
      wp_walk using wpAny_loadPart' g1', wpAny_loadPart' g2'
      have q1 : us'[((i : Nat) : Int).toNat]? = some (us'[i]'(by omega)) := by simp <;> omega
      have q2 : vs'[((i : Nat) : Int).toNat]? = some (vs'[i]'(by omega)) := by simp <;> omega
      rw [q1, q2]
      wp_walk
      exact done
theorem lsn_turns (l b : Addr) (N : Nat) (e : Nat → Bool) (I : Shared → Prop) (hl : ListB prog w A (fun e s' => R (.error e) s') l b N e I) (fin : ∀ s, I s → R (.ok (.ret (.bool (!allN N e)))) s) (k : Nat) :
    ∀ i : Nat, N - i = k → i ≤ N → (∀ j, j < i → e j = true) → ∀ s, I s → wpAny (model prog w) A.in1 (Builtin.«list.__eq__.loop» ⟨[.ref l, .ref b, rawInt i, rawInt 3], []⟩) (FinOf prog w A R) (fun e s' => R (.error e) s') s := by
  induction k with
  | zero =>
    intro i hk hi hj s h
    obtain ⟨us, vs, n, n2, g1, g2, z1, z2, _⟩ := hl i _ h
    have eN : i = N := by omega
    have done := fin s h
    rw [allN_yes (fun j h => hj j (by omega))] at done
    simp only [Bool.not_true] at done
    obtain ⟨hp, g, d, tk, os⟩ := s
    wp_walk using wpAny_loadPart' g1, wpAny_loadPart' g2
    have q1 : us[((i : Nat) : Int).toNat]? = none := by simp <;> omega
    have q2 : vs[((i : Nat) : Int).toNat]? = none := by simp <;> omega
    rw [q1, q2]
    wp_walk using wpAny_loadPart' g1, wpAny_loadPart' g2
    show R (.ok (.ret (.bool (us.size != vs.size)))) _
    rw [z1, z2]
    simpa using done
  | succ k ih =>
    intro i hk hi hj s h
    obtain ⟨us, vs, n, n2, g1, g2, z1, z2, turn⟩ := hl i _ h
    have b1 : i < us.size := by omega
    have b2 : i < vs.size := by omega
    have ht := turn b1 b2
    obtain ⟨hp, g, d, tk, os⟩ := s
    wp_walk using wpAny_loadPart' g1, wpAny_loadPart' g2
    have q1 : us[((i : Nat) : Int).toNat]? = some us[i] := by simp [b1]
    have q2 : vs[((i : Nat) : Int).toNat]? = some vs[i] := by simp [b2]
    have up : ((i : Int) + 1) = ((i + 1 : Nat) : Int) := by omega
    rw [q1, q2]
    refine wpAny_bind (wpAny_mono ht (fun r s2 h2 => ?_) fun _ _ z => z)
    obtain ⟨hr, h2⟩ := h2
    cases r with
    | true =>
      have again := ih (i + 1) (by omega) (by omega) (fun j hj' => by
        rcases Nat.lt_or_ge j i with z | z
        · exact hj j z
        · obtain rfl : j = i := by omega
          exact hr.symm) s2 h2
      obtain ⟨hp2, g2', d2, tk2, os2⟩ := s2
      wp_walk
      rw [up]
      exact ⟨plainId_quiet plain_eq_loop _, codeAny_builtin entry_eq_loop (by
        rw [Around.under_plainId plain_eq_loop _]
        exact again)⟩
    | false =>
      have done := fin s2 h2
      rw [allN_no (i := i) (by omega) hr.symm] at done
      simp only [Bool.not_false] at done
      obtain ⟨us', vs', n', n2', g1', g2', z1', z2', _⟩ := hl i _ h2
      obtain ⟨hp2, gg2, d2, tk2, os2⟩ := s2
      wp_walk using wpAny_loadPart' g1', wpAny_loadPart' g2'
      have q1 : us'[((i : Nat) : Int).toNat]? = some (us'[i]'(by omega)) := by simp <;> omega
      have q2 : vs'[((i : Nat) : Int).toNat]? = some (vs'[i]'(by omega)) := by simp <;> omega
      rw [q1, q2]
      wp_walk
      exact done
theorem lsq_lists (l b : Addr) (N : Nat) (e : Nat → Bool) (I : Shared → Prop) (hl : ListB prog w A (fun e s' => R (.error e) s') l b N e I) (fin : ∀ s, I s → R (.ok (.ret (.bool (allN N e)))) s) {s : Shared} (h : I s) :
    wpAny (model prog w) A.in1 (Builtin.«list.__eq__» ⟨[.ref l, .ref b], []⟩) (FinOf prog w A R) (fun e s' => R (.error e) s') s := by
  obtain ⟨us, vs, n, n2, g1, g2, z1, z2, _⟩ := hl 0 _ h
  have turns := lsq_turns (A := A) (R := R) l b N e I hl fin _ 0 rfl (Nat.zero_le _) (fun j z => absurd z (Nat.not_lt_zero j)) s h
  obtain ⟨hp, g, d, tk, os⟩ := s
  have isL := AutoSeq1.sub_list_list
  have same : ¬ (us.size != vs.size) = true := by simp [z1, z2]
  wp_walk using wpAny_loadPart' g1, wpAny_loadPart' g2
  exact ⟨plainId_quiet plain_eq_loop _, codeAny_builtin entry_eq_loop (by
    rw [Around.under_plainId plain_eq_loop _]
    exact turns)⟩
theorem lsn_lists (l b : Addr) (N : Nat) (e : Nat → Bool) (I : Shared → Prop) (hl : ListB prog w A (fun e s' => R (.error e) s') l b N e I) (fin : ∀ s, I s → R (.ok (.ret (.bool (!allN N e)))) s) {s : Shared} (h : I s) :
    wpAny (model prog w) A.in1 (Builtin.«list.__ne__» ⟨[.ref l, .ref b], []⟩) (FinOf prog w A R) (fun e s' => R (.error e) s') s := by
  obtain ⟨us, vs, n, n2, g1, g2, z1, z2, _⟩ := hl 0 _ h
  have turns := lsn_turns (A := A) (R := R) l b N e I hl fin _ 0 rfl (Nat.zero_le _) (fun j z => absurd z (Nat.not_lt_zero j)) s h
  obtain ⟨hp, g, d, tk, os⟩ := s
  have isL := AutoSeq1.sub_list_list
  have same : ¬ (us.size != vs.size) = true := by simp [z1, z2]
  wp_walk using wpAny_loadPart' g1, wpAny_loadPart' g2
  exact ⟨plainId_quiet plain_eq_loop _, codeAny_builtin entry_eq_loop (by
    rw [Around.under_plainId plain_eq_loop _]
    exact turns)⟩
end
section
variable {prog : Program} {w : World} {A : Around} {E : Value → Shared → Prop} {s : Shared}
theorem rc_lsq {l b : Addr} {N : Nat} {e : Nat → Bool} {Q : Value → Shared → Prop} (hu : A.units < cLine) (I : Shared → Prop) (hl : ListB prog w A E l b N e I) (fin : ∀ s, I s → Q (.bool (allN N e)) s) (h : I s) : wpAny (model prog w) A (richCompare .Eq (.ref l) (.ref b)) Q E s := by
  obtain ⟨us, vs, n, n2, g1, g2, _, _, _⟩ := hl 0 _ h
  refine wpAny_richCompare_same_room (op := .Eq) ⟨_, g1, rfl⟩ ⟨_, g2, rfl⟩ F.slot_list_eq (call_here F.slot_list_eq ⟨_, g1, rfl⟩ F.entry_list_eq (F.args_list_eq_2 _ _) ?_) hu
  exact lsq_lists (R := wants (fun v s' => v ≠ .notImplemented ∧ Q v s') E) l b N e I hl (fun s' q => ⟨(fun z => nomatch z), fin s' q⟩) h
theorem rc_lsn {l b : Addr} {N : Nat} {e : Nat → Bool} {Q : Value → Shared → Prop} (hu : A.units < cLine) (I : Shared → Prop) (hl : ListB prog w A E l b N e I) (fin : ∀ s, I s → Q (.bool (!allN N e)) s) (h : I s) : wpAny (model prog w) A (richCompare .NotEq (.ref l) (.ref b)) Q E s := by
  obtain ⟨us, vs, n, n2, g1, g2, _, _, _⟩ := hl 0 _ h
  refine wpAny_richCompare_same_room (op := .NotEq) ⟨_, g1, rfl⟩ ⟨_, g2, rfl⟩ F.slot_list_ne (call_here F.slot_list_ne ⟨_, g1, rfl⟩ F.entry_list_ne (F.args_list_ne_2 _ _) ?_) hu
  exact lsn_lists (R := wants (fun v s' => v ≠ .notImplemented ∧ Q v s') E) l b N e I hl (fun s' q => ⟨(fun z => nomatch z), fin s' q⟩) h
end
section
open PySem.Spec PyProof.Rows L2
variable {X : Cx}
/-- two instances, asked whether they are equal: b is told -/
def InsEq (K : PySem.W.Frag) (C : Addr) (sp : Sp) (E : XK) (H : Hp) (x y : V) (b : Bool) : Prop := ∃ a dx fs c dy gs, x = .ref a ∧ y = .ref c ∧ H a = some (.ins C dx fs) ∧ H c = some (.ins C dy gs) ∧ (a = c → (∀ (P : Program) (w : World) (h : Heap), HOk P w H h → K.In h → b = true)) ∧ sp [x, y] H (fun v H' => v = .bl b ∧ H' = H) E
/-- two lists of them -/
def rLsEq (K : PySem.W.Frag) (C : Addr) (sp : Sp) (E : XK) (neg : Bool) : R2 := fun x y H Q => ∃ l b xs ys, x = .ref l ∧ y = .ref b ∧ H l = some (.lst xs) ∧ H b = some (.lst ys) ∧
  ((xs.length ≠ ys.length ∧ Q (.bl neg) H) ∨ (xs.length = ys.length ∧ ∃ e : Nat → Bool, (∀ i x y, xs[i]? = some x → ys[i]? = some y → InsEq K C sp E H x y (e i)) ∧ Q (.bl (allN xs.length e != neg)) H))
theorem insEq_turn {CX : CXT} {C g : Addr} {n : Nat} {sp : Sp} {E : XK} (hs : PySem.W.findIn X.K (.ref C) "__eq__" = some (some (.ref g))) (hf : PySem.W.isFn X.K (.ref g) = true) (F : FnR X.prog X.w X.K X.mg X.base CX n g sp) (hr : Room (n + 1) X.A) (hx : Passes CX X E)
    {pins : List (Addr × Obj)} {σ : L2.St} {H : Hp} {xs ys : List V} {its its2 : List Value} {e : Nat → Bool} (hall : ∀ i x y, xs[i]? = some x → ys[i]? = some y → InsEq X.K C sp E H x y (e i)) (len : xs.length = ys.length) (r : Vals xs its) (r2 : Vals ys its2)
    (i : Nat) (h1 : i < its.toArray.size) (h2 : i < its2.toArray.size) (s' : Shared) (I : Inv X pins σ H s') :
    wpAny (model X.prog X.w) X.A.in1 (eqBool its.toArray[i] its2.toArray[i]) (fun r s2 => r = e i ∧ Inv X pins σ H s2) X.xe s' := by
  have g1 : its[i]? = some its.toArray[i] := by
    have h1' : i < its.length := by simpa using h1
    rw [List.getElem?_eq_getElem h1'] <;> simp
  have g2 : its2[i]? = some its2.toArray[i] := by
    have h2' : i < its2.length := by simpa using h2
    rw [List.getElem?_eq_getElem h2'] <;> simp
  have k1 : i < xs.length := by rw [r.length]; simpa using h1
  have k2 : i < ys.length := by rw [r2.length]; simpa using h2
  obtain ⟨u, hu, ru⟩ := r.get (List.getElem?_eq_getElem k1)
  obtain ⟨v, hv, rv⟩ := r2.get (List.getElem?_eq_getElem k2)
  rw [g1] at hu
  rw [g2] at hv
  rw [Option.some.inj hu, Option.some.inj hv]
  obtain ⟨a, dx, fs, c, dy, gs, ex, ey, ha, hb, same, q⟩ := hall i _ _ (List.getElem?_eq_getElem k1) (List.getElem?_eq_getElem k2)
  rw [ex] at ru q
  rw [ey] at rv q
  obtain rfl : u = Value.ref a := ru
  obtain rfl : v = Value.ref c := rv
  by_cases hab : a = c
  · subst hab
    rw [same rfl X.prog X.w _ I.hok I.kIn]
    exact SeqAt.EqAt.same (A := X.A.in1) (s := s') (.ref a) X.prog X.w X.xe _ ⟨rfl, I⟩
  · refine GQ.eqBool_refG hab ?_
    obtain ⟨mA, J, _⟩ := ins_get I.hok ha
    obtain ⟨mB, J', _⟩ := ins_get I.hok hb
    obtain ⟨od, J, _⟩ := J.look
    obtain ⟨od', J', _⟩ := J'.look
    obtain ⟨m, hF⟩ := I.fr
    refine PySem.W.cmp_K (op := .Eq) (tb := .ref C) hr.in1.units0 hF I.ok.mod.kin J J'.type (by simp [PySem.W.notFirst]) hs hf ?_
    have e0 := I.env0
    have e1 : Env0 X.prog X.w X.K X.mg X.base X.A.in1 X.stack s' H := ⟨e0.frames, e0.mod, e0.bs, e0.bsz, e0.funs, e0.frf, e0.hok, e0.bare⟩
    refine wpAny_call (codeAny_mono (F X.A.in1 X.stack s' H [.ref a, .ref c] [.ref a, .ref c] _ E hr.in1 e1 (.cons rfl (.cons rfl .nil)) q) fun r s2 hq => ?_)
    cases r with
    | error z => exact hx pins σ H s' z s2 I hq
    | ok fl =>
      cases fl with
      | ret z =>
        obtain ⟨t, H', I', rz, ez, eh⟩ := I.after hq
        subst ez eh
        obtain rfl : z = Value.bool (e i) := rz
        exact (⟨e i, rfl, rfl, I'⟩ : ∃ r, Value.bool (e i) = Value.bool r ∧ r = e i ∧ Inv X pins σ H' s2)
      | next => exact False.elim hq
      | brk => exact False.elim hq
      | cont => exact False.elim hq
theorem op_lsEq {CX : CXT} {C g : Addr} {n : Nat} {sp : Sp} {E : XK} (hs : PySem.W.findIn X.K (.ref C) "__eq__" = some (some (.ref g))) (hf : PySem.W.isFn X.K (.ref g) = true) (F : FnR X.prog X.w X.K X.mg X.base CX n g sp) (hr : Room (n + 1) X.A) (hx : Passes CX X E) : OpR X (compareOp .Eq) (rLsEq X.K C sp E false) := by
  intro pins s σ H x y v u Q I rx ry h
  obtain ⟨l, b, xs, ys, rfl, rfl, hl, hb, h⟩ := h
  obtain rfl : v = Value.ref l := rx
  obtain rfl : u = Value.ref b := ry
  have un := hr.un
  rcases h with ⟨ne, q⟩ | ⟨len, e, hall, q⟩
  · obtain ⟨its, rv, pl, _⟩ := I.list (SqL.of hl)
    obtain ⟨its2, rv2, pl2, _⟩ := I.list (SqL.of hb)
    exact SeqAt.RcAt.lists_lengths pl.isList pl2.isList (by rw [List.size_toArray, List.size_toArray, ← rv.length, ← rv2.length]; simpa using ne) (by omega) X.prog X.w X.xe _ ⟨.bl false, H, I, rfl, q⟩
  · show wpAny _ _ (richCompare .Eq (.ref l) (.ref b)) _ _ _
    refine rc_lsq (N := xs.length) (e := e) (by omega) (fun s' => Inv X pins σ H s') (fun i s' I' => ?_) (fun s' I' => ⟨.bl (allN xs.length e), H, I', rfl, by simpa using q⟩) I
    obtain ⟨z, its, k, r, e1⟩ := I'.hok l _ hl
    obtain ⟨z2, its2, k2, r2, e2⟩ := I'.hok b _ hb
    exact ⟨its.toArray, its2.toArray, k, k2, e1, e2, by rw [List.size_toArray, ← r.length], by rw [List.size_toArray, ← r2.length, ← len], fun h1 h2 => insEq_turn hs hf F hr hx hall len r r2 i h1 h2 s' I'⟩
theorem op_lsNe {CX : CXT} {C g : Addr} {n : Nat} {sp : Sp} {E : XK} (hs : PySem.W.findIn X.K (.ref C) "__eq__" = some (some (.ref g))) (hf : PySem.W.isFn X.K (.ref g) = true) (F : FnR X.prog X.w X.K X.mg X.base CX n g sp) (hr : Room (n + 1) X.A) (hx : Passes CX X E) : OpR X (compareOp .NotEq) (rLsEq X.K C sp E true) := by
  intro pins s σ H x y v u Q I rx ry h
  obtain ⟨l, b, xs, ys, rfl, rfl, hl, hb, h⟩ := h
  obtain rfl : v = Value.ref l := rx
  obtain rfl : u = Value.ref b := ry
  have un := hr.un
  rcases h with ⟨ne, q⟩ | ⟨len, e, hall, q⟩
  · obtain ⟨its, rv, pl, _⟩ := I.list (SqL.of hl)
    obtain ⟨its2, rv2, pl2, _⟩ := I.list (SqL.of hb)
    exact SeqAt.RcNeAt.lists_lengths pl.isList pl2.isList (by rw [List.size_toArray, List.size_toArray, ← rv.length, ← rv2.length]; simpa using ne) (by omega) X.prog X.w X.xe _ ⟨.bl true, H, I, rfl, q⟩
  · show wpAny _ _ (richCompare .NotEq (.ref l) (.ref b)) _ _ _
    refine rc_lsn (N := xs.length) (e := e) (by omega) (fun s' => Inv X pins σ H s') (fun i s' I' => ?_) (fun s' I' => ⟨.bl (!allN xs.length e), H, I', rfl, by simpa using q⟩) I
    obtain ⟨z, its, k, r, e1⟩ := I'.hok l _ hl
    obtain ⟨z2, its2, k2, r2, e2⟩ := I'.hok b _ hb
    exact ⟨its.toArray, its2.toArray, k, k2, e1, e2, by rw [List.size_toArray, ← r.length], by rw [List.size_toArray, ← r2.length, ← len], fun h1 h2 => insEq_turn hs hf F hr hx hall len r r2 i h1 h2 s' I'⟩
end
end Rw
namespace Rw
open PySem PySem.Spec PyProof.Rows L2
/-! ### _law_meets -/
abbrev nMeets : List Str := ["one", "others", "other", "row"]
theorem scLawMeets : FnScope nMeets ["one", "others"] (defScope sLawMeets) := ⟨rfl, rfl, rfl, by decide +kernel, rfl, by decide +kernel, by decide +kernel⟩
def scMt : Scope := ⟨.function, [(".0", .local), ("other", .cell), ("one", .cell)], false, false, []⟩
/-- a list of programs, each with these very rules -/
def PgX (K : PySem.W.Frag) (C : Addr) (H : Hp) (l : Addr) (Ls : List (List Rl)) : Prop := ∃ ys, H l = some (.lst ys) ∧ ys.length = Ls.length ∧ ∀ (i : Nat) (v : V), ys[i]? = some v → ∃ L, Ls[i]? = some L ∧ PgAt K C H v L
theorem PgX.same {K : PySem.W.Frag} {C l : Addr} {H H' : Hp} {Ls : List (List Rl)} (h : PgX K C H l Ls) (e : Same H H') : PgX K C H' l Ls := by
  obtain ⟨ys, h1, h2, h3⟩ := h
  refine ⟨ys, e _ _ h1, h2, fun i v hv => ?_⟩
  obtain ⟨L, a, b⟩ := h3 i v hv
  exact ⟨L, a, b.same e⟩
theorem any_rd (L : List Rl) (r : Rl) : ((L.map rd).any fun z => PyData.eqv z (rd r)) = decide (r ∈ L) := by
  rw [Bool.eq_iff_iff, List.any_eq_true, decide_eq_true_eq]
  constructor
  · rintro ⟨z, hz, ez⟩
    obtain ⟨y, hy, rfl⟩ := List.mem_map.mp hz
    rw [eqv_rd, decide_eq_true_eq] at ez
    rw [← ez]
    exact hy
  · intro hy
    exact ⟨rd r, List.mem_map.mpr ⟨r, hy, rfl⟩, by rw [eqv_rd, decide_eq_true rfl]⟩
def hitB (S L : List Rl) : Bool := S.any fun r => decide (r ∈ L)
def meetsB (S : List Rl) (Ls : List (List Rl)) : Bool := Ls.all (hitB S)
theorem isE_filter {α : Type} {L : List α} {f : α → Bool} : (L.filter f).isEmpty = L.all fun x => !f x := by
  rw [Bool.eq_iff_iff, List.isEmpty_iff, List.filter_eq_nil_iff, List.all_eq_true]
  simp
section
variable {P : Program} {w : World} {K : PySem.W.Frag} {mg : Str → Option Value} {base : Heap} {f : Addr} {fd : FuncData} {k : Nat}
def spLawMeets (K : PySem.W.Frag) (C : Addr) : Sp := fun vs H Q _ => ∃ (v : V) (l : Addr) (S : List Rl) (Ls : List (List Rl)), vs = [v, .ref l] ∧ PgAt K C H v S ∧ (∀ r ∈ S, IsR r) ∧ S.length ≤ 40 ∧ PgX K C H l Ls ∧ Ls.length ≤ 256 ∧ (∀ L ∈ Ls, ∀ r ∈ L, IsR r) ∧ ∀ H', Same H H' → Q (.bl (meetsB S Ls)) H'
def tMtIn (K : PySem.W.Frag) (C : Addr) : TE := tLc (iTup K (tProp C (spRules K C) [] E0 (tVar 0))) (gName 3) (tTest (tOp (rInP C (spContains K C) E0) (tVar 3) (tVar 2))) (tVar 3) [3]
theorem ok_lawMeets {C gC pR fR : Addr} {fdR : FuncData} (F : Fun K "_law_meets" "_law_meets" sLawMeets f fd) (c : Cls K C) (hpR : PropOf K C "rules" pR fR)
    (GR : FnOk P w K mg base CX0 k fR fdR ["self"] (spRules K C)) (bR : Binds K fdR ["self"] [])
    (hC : PySem.W.findIn K (.ref C) "__contains__" = some (some (.ref gC))) (iC : PySem.W.isFn K (.ref gC) = true) (GC : FnR P w K mg base CX0 k gC (spContains K C)) : FnOk P w K mg base CX0 (k + 2) f fd ["one", "others"] (spLawMeets K C) := by
  refine F.ok scLawMeets (fun vs H Q E h => ?_) (fun cdv A outer s H vs Q E hr h => ?_)
  · obtain ⟨v, l, S, Ls, rfl, _⟩ := h
    rfl
  obtain ⟨v, l, S, Ls, rfl, hS, hI, few, hl, fewL, hIL, q⟩ := h
  have hu : (A.deeper (envOfC "_law_meets" (defScope sLawMeets) s.heap.objs.size f cdv)).units + 64 < cLine := by have := hr.un; omega
  refine ⟨_, pss_one (ps_ret (pe_cmpR (r := rEqE K) (op_eqE hu) (pe_lc (own := [("other", 2)]) (g := gName 2) (tt := tTest (tOp (rEqE K) (tMtIn K C) (tLst tNil))) (by rfl) scLawMeets.nd (pi_list (pv 1)) (blkOk_by (N := nMeets) (sc := defScope sLawMeets) (by decide +kernel))
      (fun _ _ _ _ _ => pg_name (i := 2) scLawMeets.nd rfl (Or.inr rfl)) (fun _ _ _ _ _ => pts_one (pt_cmpR (r := rEqE K) (op_eqE hu)
        (pe_lc (own := [("row", 3)]) (wi := iTup K (tProp C (spRules K C) [] E0 (tVar 0))) (g := gName 3) (tt := tTest (tOp (rInP C (spContains K C) E0) (tVar 3) (tVar 2))) (te := tVar 3) (by rfl) scLawMeets.nd (pi_tup (pe_prop (pv 0) c hpR GR (hr.mono (by omega)) bR .nil pass0 rfl)) (blkOk_by (N := nMeets) (sc := scMt) (by decide +kernel))
          (fun _ _ _ _ _ => pg_name (i := 3) scLawMeets.nd rfl (Or.inl rfl)) (fun _ _ _ _ _ => pts_one (pt_cmpR (r := rInP C (spContains K C) E0) (op_inP hC iC GC (hr.mono (by omega)) pass0) (pv 3) (pv 2) (by rfl))) (fun _ _ _ _ _ => pv 3))
        (pe_lst pa_nil) (nomark _))) (fun _ _ _ _ _ => pv 2)) (pe_lst pa_nil) (nomark _))), ?_⟩
  obtain ⟨av, dx, t0, ys0, rfl, i1, i2, i3⟩ := id hS
  obtain ⟨ys, hy, yl, hys⟩ := id hl
  refine ⟨.ref l, rfl, l, rfl, ⟨_, SqL.of hy⟩, fun D hD => ?_⟩
  refine lc_list (xs := ys) (fun i H1 => Same H H1 ∧ ∃ zs, H1 D = some (.lst zs) ∧ zs.length ≤ i ∧ zs.isEmpty = (Ls.take i).all (hitB S)) ⟨same_new hD _, [], upd_same, Nat.le_refl _, rfl⟩ (fun i H1 _ h => SqL.of (h.1 _ _ hy)) (fun i x H1 hx h => ?_) (fun H1 h => ?_)
  · obtain ⟨sm, zs, hd, zl, ze⟩ := h
    obtain ⟨L, hL, hxL⟩ := hys i x hx
    have il : i < ys.length := (List.getElem?_eq_some_iff.mp hx).1
    obtain ⟨ax, dx2, tx, yx, rfl, j1, j2, j3⟩ := id hxL
    refine ⟨rfl, .ref av, rfl, av, dx, _, rfl, sm _ _ i1, .ref av, S, rfl, hS.same sm, fun tr yr htr hyr => ?_⟩
    have yrl : yr.length = S.length := by rw [dpAll_len hyr, List.length_map]
    refine ⟨tr, rfl, ⟨_, htr⟩, fun D2 hD2 => ?_⟩
    refine lc_tup (xs := yr) (fun j H2 => Same H1 H2 ∧ ∃ us, H2 D2 = some (.lst us) ∧ us.length ≤ j ∧ us.isEmpty = !(S.take j).any fun r => decide (r ∈ L)) ⟨same_new hD2 _, [], upd_same, Nat.le_refl _, rfl⟩ (fun j H2 _ h => same_tup h.1 htr) (fun j u H2 hu2 h => ?_) (fun H2 h => ?_)
    · obtain ⟨s2, us, hd2, ul, ue⟩ := h
      obtain ⟨dd, hdd, hud⟩ := dpAll_at' hyr hu2
      obtain ⟨r, hr0, rfl⟩ := map_at hdd
      have jl : j < yr.length := (List.getElem?_eq_some_iff.mp hu2).1
      have hrS := List.mem_of_getElem? hr0
      refine ⟨rfl, u, rfl, .ref ax, rfl, ax, dx2, _, rfl, (sm.trans s2) _ _ j1, .ref ax, u, L, rd r, rfl, hxL.same (sm.trans s2), hIL L (List.mem_of_getElem? hL), dp_same s2 _ _ hud, shaped_rd (hI r hrS), _, rfl, ?_⟩
      rw [any_rd]
      refine ⟨_, rfl, ite2 (fun e => ?_) (fun e => ?_)⟩
      · refine ⟨u, rfl, us, hd2, small_line' (by omega), same_put s2 hD2, us ++ [u], upd_same, by rw [List.length_append, List.length_singleton]; omega, ?_⟩
        rw [take_snoc hr0, List.any_append]
        simp [of_decide_eq_true e]
      · refine ⟨s2, us, hd2, by omega, ?_⟩
        rw [ue, take_snoc hr0, List.any_append]
        have : r ∉ L := fun z => e (decide_eq_true z)
        simp [this]
    · obtain ⟨s2, us, hd2, ul, ue⟩ := h
      rw [List.take_of_length_le (by omega)] at ue
      refine ⟨by show 0 ≤ sizeLine; decide, fun e0 he0 => ?_⟩
      have s3 := same_new he0 (.lst [])
      refine ⟨D2, e0, us, rfl, rfl, SqL.of (s3 _ _ hd2), SqL.of upd_same, ?_⟩
      have s23 := sm.trans (s2.trans s3)
      have hd3 := s3 _ _ (s2 _ _ hd)
      have hit : us.isEmpty = !hitB S L := ue
      refine ⟨_, rfl, ite2 (fun e => ?_) (fun e => ?_)⟩
      · refine ⟨.ref ax, rfl, zs, hd3, small_line' (by omega), same_put s23 hD, zs ++ [.ref ax], upd_same, by rw [List.length_append, List.length_singleton]; omega, ?_⟩
        rw [take_snoc hL, List.all_append]
        rw [hit] at e
        have : hitB S L = false := by simpa using e
        simp [this]
      · refine ⟨s23, zs, hd3, by omega, ?_⟩
        rw [ze, take_snoc hL, List.all_append]
        rw [hit] at e
        have : hitB S L = true := by simpa using e
        simp [this]
  · obtain ⟨sm, zs, hd, zl, ze⟩ := h
    rw [List.take_of_length_le (by omega)] at ze
    refine ⟨by show 0 ≤ sizeLine; decide, fun e0 he0 => ?_⟩
    have s3 := same_new he0 (.lst [])
    refine ⟨D, e0, zs, rfl, rfl, SqL.of (s3 _ _ hd), SqL.of upd_same, ?_⟩
    rw [ze]
    exact q _ (sm.trans s3)
end
end Rw
namespace Rw
open PySem PySem.Spec PyProof.Rows L2
/-! ### _law_drawn -/
abbrev nDrawn : List Str := ["purse", "letters", "rules", "k", "some", "way"]
theorem scLawDrawn : FnScope nDrawn ["purse", "letters"] (defScope sLawDrawn) := ⟨rfl, rfl, rfl, by decide +kernel, rfl, by decide +kernel, by decide +kernel⟩
theorem none_same {H H' : Hp} {l : Addr} (s : Same H H') (n : H' l = none) : H l = none := by
  cases e : H l with
  | none => rfl
  | some u =>
    rw [s _ _ e] at n
    cases n
theorem isW_nil : IsW [] := ⟨(fun _ z => nomatch z), List.Pairwise.nil, by decide⟩
/-- a rule whose names are of ns -/
def RIn (ns : W) (r : Rl) : Prop := IsR r ∧ ∀ t ∈ parts r, t.Sublist ns
theorem rin_names {ns : W} {S : List Rl} (h : ∀ r ∈ S, RIn ns r) : ∀ z ∈ namesL S, z ∈ ns := fun z hz => by
  obtain ⟨r, hr, e⟩ := List.mem_flatMap.mp hz
  obtain ⟨t, ht, e⟩ := List.mem_flatMap.mp e
  exact ((h r hr).2 t ht).subset e
theorem rin_of {ns : W} {a b c d : W} (h1 : IsW a ∧ a.Sublist ns) (h2 : IsW b ∧ b.Sublist ns) (h3 : IsW c ∧ c.Sublist ns) (h4 : IsW d ∧ d.Sublist ns) : RIn ns (a, b, c, d) := ⟨⟨h1.1, h2.1, h3.1, h4.1⟩, fun t ht => by
  unfold parts at ht
  simp only [List.mem_cons, List.mem_nil_iff, or_false] at ht
  rcases ht with e | e | e | e <;> subst e
  · exact h1.2
  · exact h2.2
  · exact h3.2
  · exact h4.2⟩
theorem rin_at {ns : W} {r : Rl} (h : RIn ns r) : (IsW r.1 ∧ r.1.Sublist ns) ∧ (IsW r.2.1 ∧ r.2.1.Sublist ns) ∧ (IsW r.2.2.1 ∧ r.2.2.1.Sublist ns) ∧ (IsW r.2.2.2 ∧ r.2.2.2.Sublist ns) :=
  ⟨⟨h.1.h, h.2 _ (by simp [parts])⟩, ⟨h.1.d, h.2 _ (by simp [parts])⟩, ⟨h.1.n, h.2 _ (by simp [parts])⟩, ⟨h.1.b, h.2 _ (by simp [parts])⟩⟩
section
variable {P : Program} {w : World} {K : PySem.W.Frag} {mg : Str → Option Value} {base : Heap} {f : Addr} {fd : FuncData} {k : Nat}
def spLawDrawn (K : PySem.W.Frag) : Sp := fun vs H Q _ => ∃ (p l : Addr) (c : Int) (ns : W), vs = [.ref p, .ref l] ∧ Pur H p c ∧ c ≤ 700000 ∧ l ≠ p ∧ H l = some (.lst (ns.map V.str)) ∧ 1 ≤ ns.length ∧ IsW ns ∧
  ∀ (H' : Hp) (a : Addr) (ys : List V) (S : List Rl), Bar p H H' → Pur H' p (c + 5000) → H a = none → H' a = some (.lst ys) → DpAll K H' ys (S.map rd) → Srt S S → S.length ≤ 8 → (∀ r ∈ S, RIn ns r) → Q (.ref a) H'
theorem ok_lawDrawn {f1 f2 : Addr} {fd1 fd2 : FuncData} (F : Fun K "_law_drawn" "_law_drawn" sLawDrawn f fd) (T : Bl mg) (G1 : FnOk P w K mg base CX0 k f1 fd1 ["purse", "out_of"] spLawDraw) (b1 : Binds K fd1 ["purse", "out_of"] []) (k1 : PySem.W.keepIn K (.ref f1) = true) (m1 : mg "_law_draw" = some (.ref f1))
    (G2 : FnOk P w K mg base CX0 k f2 fd2 ["purse", "names", "sort"] (spLawRule K)) (b2 : Binds K fd2 ["purse", "names", "sort"] []) (k2 : PySem.W.keepIn K (.ref f2) = true) (m2 : mg "_law_rule" = some (.ref f2)) :
    FnOk P w K mg base CX0 (k + 1) f fd ["purse", "letters"] (spLawDrawn K) := by
  refine F.ok scLawDrawn (fun vs H Q E h => ?_) (fun cdv A outer s H vs Q E hr h => ?_)
  · obtain ⟨p, l, c, ns, rfl, _⟩ := h
    rfl
  obtain ⟨p, l, c, ns, rfl, hP, hc, nlp, hl, n1, hn, q⟩ := h
  refine ⟨_, pss_cons (ps_set (i := 2) scLawDrawn.nd rfl (.inl rfl) (pe_lst pa_nil))
    (pss_cons (ps_for PassesOwn.never rfl (pi_range1 rfl T.range (pa_cons (pe_call G1 hr (by rfl) m1 k1 b1 .nil pass0 (pa_cons (pv 0) (pa_cons pe_int pa_nil))) pa_nil)) (pg_name (i := 3) scLawDrawn.nd rfl (.inl rfl))
      (pss_cons (ps_set (i := 4) scLawDrawn.nd rfl (.inl rfl) (pe_call G2 hr (by rfl) m2 k2 b2 .nil pass0 (pa_cons (pv 0) (pa_cons (pv 1) (pa_cons (pe_op op_add pe_int (pe_call G1 hr (by rfl) m1 k1 b1 .nil pass0 (pa_cons (pv 0) (pa_cons pe_int pa_nil)))) pa_nil)))))
      (pss_cons (ps_set (i := 5) scLawDrawn.nd rfl (.inl rfl) (pe_call G1 hr (by rfl) m1 k1 b1 .nil pass0 (pa_cons (pv 0) (pa_cons pe_int pa_nil))))
      (pss_mid (ps_if (pt_cmpR op_lt (pv 5) pe_int (nomark _)) (pss_one (ps_set (i := 4) scLawDrawn.nd rfl (.inl rfl) (pe_tup (pa_cons (pe_tup pa_nil) (pa_cons (pe_ix ix_tup (pv 4) pe_int (fun _ _ => rfl)) (pa_cons (pe_ix ix_tup (pv 4) pe_int (fun _ _ => rfl)) (pa_cons (pe_ix ix_tup (pv 4) pe_int (fun _ _ => rfl)) pa_nil))))))) pss_nil)
      (pss_mid (ps_if (pt_cmpR op_eq (pv 5) pe_int (nomark _)) (pss_one (ps_set (i := 4) scLawDrawn.nd rfl (.inl rfl) (pe_tup (pa_cons (pe_ix ix_tup (pv 4) pe_int (fun _ _ => rfl)) (pa_cons (pe_ix ix_tup (pv 4) pe_int (fun _ _ => rfl)) (pa_cons (pe_tup pa_nil) (pa_cons (pe_tup pa_nil) pa_nil))))))) pss_nil)
      (pss_one (ps_expr (pe_bm PySem.F.plainAttrs_list PySem.F.slot_list_append PySem.F.type_list_append mt_append (pv 2) (pa_cons (pv 4) pa_nil)))))))))
    (pss_one (ps_ret (pe_callB (cr_sortR rfl hr.units) (by rfl) T.sorted (by decide +kernel) (pa_cons (pe_callTy (cr_setR rfl hr.units) (by rfl) T.set (by decide +kernel) (pa_cons (pv 2) pa_nil)) pa_nil))))), ?_⟩
  refine ⟨by show 0 ≤ sizeLine; decide, fun D hD => ?_⟩
  have sD := same_new hD (.lst [])
  have hPD := hP.same sD
  have nDp : D ≠ p := hP.some hD
  refine ⟨.ref p, rfl, p, 9, _, rfl, hPD, by omega, by decide, by decide, fun n0 us0 r0 r1 hP1 => ?_⟩
  refine ⟨n0, rfl, by omega, by omega, ?_⟩
  have nil : IsW ([] : W) ∧ ([] : W).Sublist ns := ⟨isW_nil, List.nil_sublist _⟩
  refine for_range (n := n0.toNat) (fun i σ H1 => (∃ y3 y4 y5, σ = [some (.ref p), some (.ref l), some (.ref D), y3, y4, y5]) ∧ Bar p H H1 ∧ Pur H1 p (c + 1 + 310 * i) ∧ ∃ (zs : List V) (L : List Rl), H1 D = some (.lst zs) ∧ DpAll K H1 zs (L.map rd) ∧ L.length = i ∧ ∀ r ∈ L, RIn ns r) ⟨⟨_, _, _, rfl⟩, (Bar.same sD).trans .draw, hP1.le (by omega), [], [], by rw [upd_ne nDp, upd_same], .nil, rfl, fun _ z => nomatch z⟩ (fun i σ H1 il hI1 => ?_) (fun σ H1 hI1 => ?_)
  · obtain ⟨⟨y3, y4, y5, rfl⟩, bar, pu, zs, L, hd, hzs, hL, hR⟩ := hI1
    have i8 : i < 9 := by omega
    refine ⟨.ref p, rfl, .ref l, rfl, .ref p, rfl, p, 2, _, rfl, pu, by omega, by decide, by decide, fun r2 us2 r20 r21 hP2 => ?_⟩
    have bar2 := bar.trans (Bar.draw (p := p) (o := .lst us2))
    refine ⟨_, _, rfl, rfl, p, l, _, 1 + r2, ns, rfl, by omega, hP2, by omega, nlp, bar2 _ _ nlp hl, n1, hn, fun H3 v3 q3 bar3 pu3 hv3 hr3 hsub3 => ?_⟩
    have barA := bar2.trans bar3
    refine ⟨.ref p, rfl, p, 4, _, rfl, pu3, by omega, by decide, by decide, fun way us4 w0 w1 hP4 => ?_⟩
    have bar4 : Bar p H3 (upd H3 p (.lst us4)) := .draw
    have hv4 : Dp K (upd H3 p (.lst us4)) v3 (rd q3) := (bar4.stay pu3.mut).dp _ _ (ok_rd q3) hv3
    have hd4 : (upd H3 p (.lst us4)) D = some (.lst zs) := bar4 _ _ nDp (bar3 _ _ nDp (by rw [upd_ne nDp]; exact hd))
    have hz4 : DpAll K (upd H3 p (.lst us4)) zs (L.map rd) := (bar4.stay pu3.mut).dpAll _ _ (okDs_rd L) ((bar3.stay hP2.mut).dpAll _ _ (okDs_rd L) ((Bar.stay (Bar.draw (p := p) (o := .lst us2)) pu.mut).dpAll _ _ (okDs_rd L) hzs))
    have barB := barA.trans bar4
    generalize upd H3 p (.lst us4) = H4 at hP4 bar4 hv4 hd4 hz4 barB
    refine ⟨fun σ H5 => ∃ (v5 : V) (q5 : Rl), σ = [some (.ref p), some (.ref l), some (.ref D), some (.int (0 + (i : Int))), some v5, some (.int way)] ∧ Same H4 H5 ∧ Dp K H5 v5 (rd q5) ∧ RIn ns q5, ?_, ?_⟩
    · refine ⟨.int way, rfl, _, _, rfl, rfl, _, rfl, ite2 (fun e => ?_) (fun e => ?_)⟩
      · obtain ⟨b, x1, x2, x3, x4, rfl, hT, g1, g2, g3, g4⟩ := of_rd hv4
        obtain ⟨a1, a2, a3, a4⟩ := rin_at ⟨hr3, hsub3⟩
        refine ⟨by show 0 ≤ sizeLine; decide, fun t0 ht0 => ?_⟩
        have s5 := same_new ht0 (.tup [])
        refine ⟨.ref b, rfl, b, _, 1, x2, rfl, rfl, same_tup s5 hT, atI_nat (j := 1) rfl, .ref b, rfl, b, _, 2, x3, rfl, rfl, same_tup s5 hT, atI_nat (j := 2) rfl, .ref b, rfl, b, _, 3, x4, rfl, rfl, same_tup s5 hT, atI_nat (j := 3) rfl, ?_⟩
        refine ⟨by show 4 ≤ sizeLine; decide, fun t1 ht1 => ?_⟩
        have s6 := same_new ht1 (.tup [.ref t0, x2, x3, x4])
        have s56 := s5.trans s6
        exact ⟨.ref t1, ([], q3.2.1, q3.2.2.1, q3.2.2.2), rfl, s56, to_rd (SqT.of upd_same) (to_wd (ns := []) (SqT.of (s6 _ _ upd_same))) (dp_same s56 _ _ g2) (dp_same s56 _ _ g3) (dp_same s56 _ _ g4), rin_of nil a2 a3 a4⟩
      · exact ⟨v3, q3, rfl, fun _ _ e => e, hv4, hr3, hsub3⟩
    rintro σ5 H5 ⟨v5, q5, rfl, s5, hv5, hr5⟩
    refine ⟨fun σ H6 => ∃ (v6 : V) (q6 : Rl), σ = [some (.ref p), some (.ref l), some (.ref D), some (.int (0 + (i : Int))), some v6, some (.int way)] ∧ Same H4 H6 ∧ Dp K H6 v6 (rd q6) ∧ RIn ns q6, ?_, ?_⟩
    · refine ⟨.int way, rfl, rfl, _, rfl, ite2 (fun e => ?_) (fun e => ?_)⟩
      · obtain ⟨b, x1, x2, x3, x4, rfl, hT, g1, g2, g3, g4⟩ := of_rd hv5
        obtain ⟨a1, a2, a3, a4⟩ := rin_at hr5
        refine ⟨.ref b, rfl, b, _, 0, x1, rfl, rfl, hT, atI_nat (j := 0) rfl, .ref b, rfl, b, _, 1, x2, rfl, rfl, hT, atI_nat (j := 1) rfl, ?_⟩
        refine ⟨by show 0 ≤ sizeLine; decide, fun t0 ht0 => ?_⟩
        have s6 := same_new ht0 (.tup [])
        refine ⟨by show 0 ≤ sizeLine; decide, fun t1 ht1 => ?_⟩
        have s7 := same_new ht1 (.tup [])
        refine ⟨by show 4 ≤ sizeLine; decide, fun t2 ht2 => ?_⟩
        have s8 := same_new ht2 (.tup [x1, x2, .ref t0, .ref t1])
        have s68 := s6.trans (s7.trans s8)
        exact ⟨.ref t2, (q5.1, q5.2.1, [], []), rfl, s5.trans s68, to_rd (SqT.of upd_same) (dp_same s68 _ _ g1) (dp_same s68 _ _ g2) (to_wd (ns := []) (SqT.of ((s7.trans s8) _ _ upd_same))) (to_wd (ns := []) (SqT.of (s8 _ _ upd_same))), rin_of a1 a2 nil nil⟩
      · exact ⟨v5, q5, rfl, s5, hv5, hr5⟩
    rintro σ6 H6 ⟨v6, q6, rfl, s6, hv6, hr6⟩
    have hd6 := s6 _ _ hd4
    refine ⟨.ref D, rfl, .inl ⟨rfl, zs, SqL.of hd6⟩, v6, rfl, ?_⟩
    refine ⟨D, zs, v6, rfl, rfl, hd6, small_line' (by rw [dpAll_len hzs, List.length_map]; omega), ?_⟩
    have m6 : Mut (H6 D) := by
      rw [hd6]
      exact True.intro
    have st := Stay.put m6 (.lst (zs ++ [v6]))
    have barC := (barB.trans (.same s6)).put (l := D) (o := .lst (zs ++ [v6])) hD
    refine ⟨⟨_, _, _, rfl⟩, barC, ((hP4.same s6).put nDp).le (by push_cast; omega), zs ++ [v6], L ++ [q6], upd_same, ?_, by rw [List.length_append, hL]; rfl, fun r hr => ?_⟩
    · rw [List.map_append]
      exact dpAll_app (((Stay.same s6).trans st).dpAll _ _ (okDs_rd L) hz4) (.cons (st.rd hv6) .nil)
    · rcases List.mem_append.mp hr with h | h
      · exact hR r h
      · rw [List.mem_singleton.mp h]
        exact hr6
  · obtain ⟨⟨y3, y4, y5, rfl⟩, bar, pu, zs, L, hd, hzs, hL, hR⟩ := hI1
    refine ⟨.ref D, rfl, D, zs, L, rfl, .inl (SqL.of hd), hzs, by omega, fun a M ha hM isP hall => ?_⟩
    have sa := same_new ha (TSetO w a M)
    refine ⟨a, M, L, rfl, upd_same, (fun e he => ⟨(hM e he).1, (Stay.same sa).dp _ _ (hM e he).1.ok (hM e he).2⟩), isP, hall, fun ys S l2 hS hSl hys hl2 => ?_⟩
    have sl := same_new hl2 (.lst ys)
    have n0' : H1 l2 = none := none_same sa hl2
    refine q _ l2 ys S (bar.trans (.same (sa.trans sl))) ((pu.same (sa.trans sl)).le (by omega)) (none_bar bar pu n0') upd_same ((Stay.same sl).dpAll _ _ (okDs_rd S) hys) ⟨hS.nd, hS.ris, fun _ => Iff.rfl⟩ (by have e := len_le hS.nd fun z hz => (hS.mem z).mp hz; omega) (fun r hr => hR r ((hS.mem r).mp hr))
end
end Rw
namespace Rw
open PySem PySem.Spec PyProof.Rows L2
/-! ### _law_least_right -/
abbrev nLeastR : List Str := ["lot", "others", "one", "row"]
theorem scLeastR : FnScope nLeastR ["lot", "others"] (defScope sLeastR) := ⟨rfl, rfl, rfl, by decide +kernel, rfl, by decide +kernel, by decide +kernel⟩
theorem srt_len {S L : List Rl} (h : Srt S L) : S.length ≤ L.length := nodup_le h.nd fun r hr => (h.mem r).mp hr
section
variable {K : PySem.W.Frag} {C : Addr} {Q : VK} {E : XK} {σ : L2.St} {H : Hp}
theorem make1_ok {e : TE} (r : Rl) (hr : IsR r) (he : ∀ Q2 : VK, (∀ H' y, Same H H' → Dp K H' y (rd r) → Q2 y H') → e σ H Q2) (q : ∀ H' v S, Same H H' → Srt S [r] → S.length < 76 → PgAt K C H' v S → Q v H') : StX.tMakeR C (spInit K C) E (tCons e tNil) σ H Q :=
  he _ fun H' y s hy => made_ok (C := C) (L := [r]) (Q := Q) (.cons hy .nil) (fun x hx => by rw [List.mem_singleton.mp hx]; exact hr) (by show 1 < 76; decide) fun H2 v S s2 => q H2 v S (s.trans s2)
end
theorem hit_congr {S S' L : List Rl} (h : ∀ r, r ∈ S ↔ r ∈ S') : hitB S L = hitB S' L := by
  unfold hitB
  rw [Bool.eq_iff_iff, List.any_eq_true, List.any_eq_true]
  exact ⟨fun ⟨r, hr, e⟩ => ⟨r, (h r).mp hr, e⟩, fun ⟨r, hr, e⟩ => ⟨r, (h r).mpr hr, e⟩⟩
theorem meets_congr {S S' : List Rl} {Ls : List (List Rl)} (h : ∀ r, r ∈ S ↔ r ∈ S') : meetsB S Ls = meetsB S' Ls := by
  unfold meetsB
  rw [Bool.eq_iff_iff, List.all_eq_true, List.all_eq_true]
  refine forall_congr' fun L => forall_congr' fun _ => ?_
  rw [hit_congr h]
section
variable {P : Program} {w : World} {K : PySem.W.Frag} {mg : Str → Option Value} {base : Heap} {f : Addr} {fd : FuncData} {k : Nat}
def spLeastR (K : PySem.W.Frag) (C : Addr) : Sp := fun vs H Q _ => ∃ (l1 l2 : Addr) (Ls Os : List (List Rl)), vs = [.ref l1, .ref l2] ∧ PgX K C H l1 Ls ∧ PgX K C H l2 Os ∧ Ls.length ≤ 256 ∧ Os.length ≤ 256 ∧ (∀ L ∈ Ls, L.length ≤ 8 ∧ ∀ r ∈ L, IsR r) ∧ (∀ L ∈ Os, ∀ r ∈ L, IsR r) ∧
  (∀ L ∈ Ls, meetsB L Os = true ∧ ∀ r ∈ L, meetsB (lessR L r) Os = false) ∧ ∀ H', Same H H' → Q (.bl true) H'
theorem ok_leastR {C CP fI gS pR fR f1 : Addr} {fdR fd1 : FuncData} (F : Fun K "_law_least_right" "_law_least_right" sLeastR f fd) (c : Cls K C) (hpR : PropOf K C "rules" pR fR) (M : Mk K C fI) (GI : FnR P w K mg base CX0 k fI (spInit K C)) (mP : mg "Program" = some (.ref C))
    (GR : FnOk P w K mg base CX0 k fR fdR ["self"] (spRules K C)) (bR : Binds K fdR ["self"] [])
    (hsf : PySem.W.selfFirst K C = true) (hS : PySem.W.findIn K (.ref C) "__sub__" = some (some (.ref gS))) (iS : PySem.W.isFn K (.ref gS) = true) (FS : FnR P w K mg base (L2.CX P w) (k + 1) gS (spSub K C CP))
    (G1 : FnOk P w K mg base CX0 (k + 1) f1 fd1 ["one", "others"] (spLawMeets K C)) (b1 : Binds K fd1 ["one", "others"] []) (k1 : PySem.W.keepIn K (.ref f1) = true) (m1 : mg "_law_meets" = some (.ref f1)) : FnOk P w K mg base CX0 (k + 2) f fd ["lot", "others"] (spLeastR K C) := by
  refine F.ok scLeastR (fun vs H Q E h => ?_) (fun cdv A outer s H vs Q E hr h => ?_)
  · obtain ⟨l1, l2, Ls, Os, rfl, _⟩ := h
    rfl
  obtain ⟨l1, l2, Ls, Os, rfl, hL, hO, fewL, fewO, hIL, hIO, key, q⟩ := h
  refine ⟨_, pss_cons (ps_for PassesOwn.never rfl (pi_list (pv 0)) (pg_name (i := 2) scLeastR.nd rfl (.inl rfl))
      (pss_cons (ps_if (pt_not (pt_val (pe_call G1 hr (by rfl) m1 k1 b1 .nil pass0 (pa_cons (pv 2) (pa_cons (pv 1) pa_nil))))) (pss_one (ps_ret pe_bl)) pss_nil)
      (pss_one (ps_for PassesOwn.never rfl (pi_tup (pe_prop (pv 2) c hpR GR (hr.mono (by omega)) bR .nil pass0 rfl)) (pg_name (i := 3) scLeastR.nd rfl (.inl rfl))
        (pss_one (ps_if (pt_val (pe_call G1 hr (by rfl) m1 k1 b1 .nil pass0 (pa_cons (pe_op (op_binP hsf hS iS FS hr passNo) (pv 2) (StX.pe_makeR M GI (hr.mono (by omega)) (by rfl) mP pass0 (pa_cons (pv 3) pa_nil))) (pa_cons (pv 1) pa_nil)))) (pss_one (ps_ret pe_bl)) pss_nil))))))
    (pss_one (ps_ret pe_bl)), ?_⟩
  obtain ⟨ys, hy, yl, hys⟩ := id hL
  refine ⟨.ref l1, rfl, l1, rfl, ⟨_, SqL.of hy⟩, for_list (xs := ys) (fun i σ H1 => (∃ y2 y3, σ = [some (.ref l1), some (.ref l2), y2, y3]) ∧ Same H H1) ⟨⟨_, _, rfl⟩, fun _ _ e => e⟩ (fun i σ H1 _ h => SqL.of (h.2 _ _ hy)) (fun i x σ H1 hx h => ?_) (fun σ H1 h => ?_)⟩
  · obtain ⟨⟨y2, y3, rfl⟩, sm⟩ := h
    obtain ⟨L, hLi, hxL⟩ := hys i x hx
    have Lm := List.mem_of_getElem? hLi
    obtain ⟨L8, LI⟩ := hIL L Lm
    obtain ⟨k1, k2⟩ := key L Lm
    refine ⟨x, rfl, .ref l2, rfl, x, l2, L, Os, rfl, hxL.same sm, LI, by omega, hO.same sm, fewO, hIO, fun H2 s2 => ?_⟩
    refine ⟨true, congrArg V.bl k1, iteF ?_⟩
    have s12 := sm.trans s2
    obtain ⟨ax, dx, tx, yx, rfl, j1, j2, j3⟩ := id (hxL.same s12)
    refine ⟨.ref ax, rfl, ax, dx, _, rfl, j1, .ref ax, L, rfl, hxL.same s12, fun tr yr htr hyr => ?_⟩
    have yrl : yr.length = L.length := by rw [dpAll_len hyr, List.length_map]
    refine ⟨tr, rfl, ⟨_, htr⟩, for_tup (xs := yr) (fun j σ H3 => (∃ y3, σ = [some (.ref l1), some (.ref l2), some (.ref ax), y3]) ∧ Same H2 H3) ⟨⟨_, rfl⟩, fun _ _ e => e⟩ (fun j σ H3 _ h => same_tup h.2 htr) (fun j u σ H3 hu h => ?_) (fun σ H3 h => ?_)⟩
    · obtain ⟨⟨y3, rfl⟩, s3⟩ := h
      obtain ⟨dd, hdd, hud⟩ := dpAll_at' hyr hu
      obtain ⟨r, hr0, rfl⟩ := map_at hdd
      have rm := List.mem_of_getElem? hr0
      have rI := LI r rm
      have hu3 := dp_same s3 _ _ hud
      refine ⟨.ref ax, rfl, make1_ok r rI (fun Q2 q2 => ⟨u, rfl, q2 H3 u (fun _ _ e => e) hu3⟩) fun H4 v4 S4 s4 hS4 hl4 hv4 => ?_⟩
      have s14 := s12.trans (s3.trans s4)
      have hxB := hxL.same s14
      obtain ⟨b, db, tb, yb, rfl, gb, _, _⟩ := id hv4
      have l4 := srt_len hS4
      rw [List.length_singleton] at l4
      refine ⟨ax, dx, _, b, db, _, rfl, rfl, (s3.trans s4) _ _ j1, gb, .ref ax, .ref b, L, rfl, hxB, LI, .inl ⟨S4, hv4, L8, by omega, fun H5 v5 S5 s5 hS5 hl5 hv5 => ?_⟩⟩
      have mem5 : ∀ y, y ∈ S5 ↔ y ∈ lessR L r := fun y => by
        rw [hS5.mem, mem_lessR]
        unfold less
        rw [List.mem_filter, Bool.not_eq_true', decide_eq_false_iff_not, hS4.mem, List.mem_singleton]
      have l5 : S5.length ≤ L.length := nodup_le hS5.nd fun y hy => (mem_lessR.mp ((mem5 y).mp hy)).1
      refine ⟨.ref l2, rfl, v5, l2, S5, Os, rfl, hv5, fun y hy => LI y (mem_lessR.mp ((mem5 y).mp hy)).1, by omega, hO.same (s14.trans s5), fewO, hIO, fun H6 s6 => ?_⟩
      refine ⟨false, congrArg V.bl (by rw [meets_congr mem5]; exact k2 r rm), iteF ⟨⟨_, rfl⟩, s3.trans (s4.trans (s5.trans s6))⟩⟩
    · obtain ⟨⟨y3, rfl⟩, s3⟩ := h
      exact ⟨⟨_, _, rfl⟩, s12.trans s3⟩
  · obtain ⟨⟨y2, y3, rfl⟩, sm⟩ := h
    exact q H1 sm
end
end Rw
namespace Rw
open PySem PySem.Spec PyProof.Rows L2 ClX
/-! ### law -/
abbrev nLaw : List Str := ["script", "pool", "at", "purse", "letters", "sheet", "bad", "cured", "part", "kept", "row"]
theorem scLaw : FnScope ["script", "pool", "at", "purse", "letters", "sheet", "bad", "cured", "part", "kept", "row"] ["script"] (defScope sLaw) := ⟨rfl, rfl, rfl, by decide +kernel, rfl, by decide +kernel, by decide +kernel⟩
def poolW : W := ["a", "b", "c", "z"]
theorem isW_pool : IsW poolW := ⟨by decide +kernel, by decide +kernel, by decide⟩
theorem cut_pool (m : Nat) : cutV (poolW.map V.str) none (some ((1 + m : Nat) : Int)) = (poolW.take (min (1 + m) 4)).map V.str := by
  unfold cutV
  rw [HT.sIx_nat]
  show ((poolW.map V.str).drop 0).take (_ - 0) = _
  rw [List.drop_zero, Nat.sub_zero, List.map_take]
  rfl
/-! ### lists of programs, compared -/
section
variable {K : PySem.W.Frag} {C : Addr} {H : Hp} {Q : VK}
theorem pgX_of {l : Addr} {Ls : List (List Rl)} (h : PgL K C H l Ls) (hs : ∀ L ∈ Ls, Srt L L) : PgX K C H l Ls := by
  obtain ⟨ys, h1, h2, h3⟩ := h
  refine ⟨ys, h1, h2, fun i v hv => ?_⟩
  obtain ⟨L, S', a, b, _, d⟩ := h3 i v hv
  obtain rfl : S' = L := b.one (hs L (List.mem_of_getElem? a)) fun _ => Iff.rfl
  exact ⟨_, a, d⟩
theorem srt_sub {S L : List Rl} (h : Srt S S) (s : L.Sublist S) : Srt L L := ⟨h.nd.sublist s, List.Pairwise.sublist (s.map rd) h.ris, fun _ => Iff.rfl⟩
theorem pgAt_len {P : Program} {w : World} {h : Heap} {v : V} {S1 S2 : List Rl} (hok : HOk P w H h) (KX : K.In h) (h1 : PgAt K C H v S1) (h2 : PgAt K C H v S2) : S1.length = S2.length := by
  obtain ⟨a, dx, t, ys, rfl, a1, a2, a3⟩ := h1
  obtain ⟨c, dy, u, zs, e, c1, c2, c3⟩ := h2
  cases e
  rw [a1] at c1
  obtain ⟨_, e2⟩ := HO.ins.inj (Option.some.inj c1) |>.2
  injection e2 with e2 _
  injection e2 with _ e2
  injection e2 with e2
  subst e2
  obtain ⟨its, o, n, r1, g1, _, d1⟩ := sqT_at hok KX a2
  obtain ⟨its2, o2, n2, r2, g2, _, d2⟩ := sqT_at hok KX c2
  rw [g1] at g2
  obtain rfl := Option.some.inj g2
  rw [d1] at d2
  injection d2 with d2 _
  have e : its = its2 := by simpa using d2
  have l1 := dpAll_len a3
  have l2 := dpAll_len c3
  have m1 := r1.length
  have m2 := r2.length
  rw [List.length_map] at l1 l2
  rw [e] at m1
  omega
theorem ins_eq {x y : V} {S1 S2 : List Rl} {b : Bool} (h1 : PgAt K C H x S1) (h2 : PgAt K C H y S2) (i1 : ∀ r ∈ S1, IsR r) (i2 : ∀ r ∈ S2, IsR r) (e : decide (S1 = S2) = b) (n : S1.length = S2.length → b = true) : InsEq K C (spPEqG K C) E0 H x y b := by
  obtain ⟨a, dx, t, ys, rfl, a1, a2, a3⟩ := id h1
  obtain ⟨c, dy, u, zs, rfl, c1, c2, c3⟩ := id h2
  refine ⟨a, dx, _, c, dy, _, rfl, rfl, a1, c1, fun z P w h hok KX => n ?_, .ref a, .ref c, S1, rfl, h1, i1, .inl ⟨S2, h2, i2, congrArg V.bl e, rfl⟩⟩
  subst z
  exact pgAt_len hok KX h1 h2
theorem ls_same {l b : Addr} {neg : Bool} {Ls : List (List Rl)} (h1 : PgX K C H l Ls) (h2 : PgX K C H b Ls) (hI : ∀ L ∈ Ls, ∀ r ∈ L, IsR r) (q : Q (.bl (!neg)) H) : rLsEq K C (spPEqG K C) E0 neg (.ref l) (.ref b) H Q := by
  obtain ⟨xs, a1, a2, a3⟩ := h1
  obtain ⟨ys, b1, b2, b3⟩ := h2
  refine ⟨l, b, xs, ys, rfl, rfl, a1, b1, .inr ⟨a2.trans b2.symm, fun _ => true, fun i x y hx hy => ?_, ?_⟩⟩
  · obtain ⟨L, e1, p1⟩ := a3 i x hx
    obtain ⟨L', e2, p2⟩ := b3 i y hy
    obtain rfl : L = L' := Option.some.inj (e1.symm.trans e2)
    have hr := hI L (List.mem_of_getElem? e1)
    exact ins_eq p1 p2 hr hr (decide_eq_true rfl) fun _ => rfl
  · rw [allN_yes fun _ _ => rfl]
    cases neg <;> exact q
/-- a list of programs compared with [Program()] -/
theorem ls_nil {l b : Addr} {v0 : V} {Ls : List (List Rl)} {yes : Bool} (h1 : PgX K C H l Ls) (hb : H b = some (.lst [v0])) (h0 : PgAt K C H v0 []) (hI : ∀ L ∈ Ls, ∀ r ∈ L, IsR r) (e1 : yes = true → Ls = [[]]) (e2 : yes = false → [] ∉ Ls) (q : Q (.bl yes) H) : rLsEq K C (spPEqG K C) E0 false (.ref l) (.ref b) H Q := by
  obtain ⟨xs, a1, a2, a3⟩ := h1
  refine ⟨l, b, xs, [v0], rfl, rfl, a1, hb, ?_⟩
  by_cases c : xs.length = 1
  · refine .inr ⟨c, fun _ => yes, fun i x y hx hy => ?_, ?_⟩
    · obtain ⟨L, f1, p1⟩ := a3 i x hx
      have i0 : i = 0 := by
        have := (List.getElem?_eq_some_iff.mp hx).1
        omega
      subst i0
      obtain rfl : v0 = y := Option.some.inj hy
      have hr := hI L (List.mem_of_getElem? f1)
      cases yes with
      | true =>
        have : L = [] := by
          rw [e1 rfl] at f1
          exact (Option.some.inj f1).symm
        exact ins_eq p1 h0 hr (fun _ z => nomatch z) (decide_eq_true this) fun _ => rfl
      | false =>
        have ne : L ≠ [] := fun z => e2 rfl (by rw [← z]; exact List.mem_of_getElem? f1)
        exact ins_eq p1 h0 hr (fun _ z => nomatch z) (decide_eq_false ne) fun z => absurd (List.length_eq_zero_iff.mp z) ne
    · have : allN xs.length (fun _ => yes) = yes := by
        rw [c]
        cases yes <;> rfl
      rw [this]
      cases yes <;> exact q
  · refine .inl ⟨c, ?_⟩
    cases yes with
    | false => exact q
    | true =>
      rw [e1 rfl] at a2
      exact absurd a2 c
end
theorem conf_own {S : List Rl} {own own' : W} (h : own = own') : confP own S = confP own' S := by rw [h]
theorem parts_few {m : Nat} (h : m ≤ 8) : (partsN m).length ≤ 256 := (parts_len9 m h).1
theorem meets_iff {S : List Rl} {Ls : List (List Rl)} : meetsB S Ls = true ↔ ∀ L ∈ Ls, ∃ r, r ∈ S ∧ r ∈ L := by
  unfold meetsB hitB
  simp only [List.all_eq_true, List.any_eq_true, decide_eq_true_eq]
theorem meets_no {S : List Rl} {Ls : List (List Rl)} : meetsB S Ls = false ↔ ∃ L ∈ Ls, ∀ r ∈ S, r ∉ L := by
  rw [← Bool.not_eq_true, meets_iff]
  constructor
  · intro h
    refine Classical.byContradiction fun c => h fun L hL => Classical.byContradiction fun d => c ⟨L, hL, fun r hr hl => d ⟨r, hr, hl⟩⟩
  · rintro ⟨L, hL, n⟩ h
    obtain ⟨r, h1, h2⟩ := h L hL
    exact n r h1 h2
theorem least_cures {S : List Rl} {own : W} (nd : S.Nodup) (few : S.length ≤ 8) (hn : ∀ z ∈ namesL S, z ∈ own) : ∀ L ∈ cureL own S, meetsB L (confL own S) = true ∧ ∀ r ∈ L, meetsB (lessR L r) (confL own S) = false := fun L hL =>
  ⟨meets_iff.mpr fun b hb => cure_meets nd few hn hL hb, fun r hr => by
    obtain ⟨b, hb, z⟩ := cure_hit nd few hn hL hr
    exact meets_no.mpr ⟨b, hb, fun x hx hy => (mem_lessR.mp hx).2 (z x (mem_lessR.mp hx).1 hy)⟩⟩
theorem least_confs {S : List Rl} {own : W} (nd : S.Nodup) (few : S.length ≤ 8) (hn : ∀ z ∈ namesL S, z ∈ own) : ∀ L ∈ confL own S, meetsB L (cureL own S) = true ∧ ∀ r ∈ L, meetsB (lessR L r) (cureL own S) = false := fun L hL =>
  ⟨meets_iff.mpr fun c hc => by
    obtain ⟨r, h1, h2⟩ := cure_meets nd few hn hc hL
    exact ⟨r, h2, h1⟩, fun r hr => by
    obtain ⟨b, hb, z⟩ := conf_hit nd few hn hL hr
    exact meets_no.mpr ⟨b, hb, fun x hx hy => (mem_lessR.mp hx).2 (z x (mem_lessR.mp hx).1 hy)⟩⟩
theorem lst_one {e : TE} {σ : L2.St} {H : Hp} {Q : VK} (h : e σ H fun y H1 => 1 ≤ sizeLine ∧ ∀ l, H1 l = none → Q (.ref l) (upd H1 l (.lst [y]))) : tLst (tCons e tNil) σ H Q := h
theorem dps_bls {K : PySem.W.Frag} {H : Hp} : ∀ bs : List Bool, DpAll K H (bs.map V.bl) (bs.map PyData.bool)
  | [] => .nil
  | b :: bs => .cons (.bl b) (dps_bls bs)
theorem lay_bls : ∀ bs : List Bool, PyData.canLayAll0 (bs.map PyData.bool) = true ∧ PyData.depthAll (bs.map PyData.bool) ≤ 1
  | [] => ⟨rfl, by simp [PyData.depthAll]⟩
  | b :: bs => by
    obtain ⟨h1, h2⟩ := lay_bls bs
    constructor
    · rw [List.map_cons, PyData.canLayAll0, h1]
      rfl
    · have : (PyData.bool b).depth ≤ 1 := by simp [PyData.depth]
      rw [List.map_cons, PyData.depthAll]
      omega
theorem shaped_bls (bs : List Bool) : SeqAt.shaped (.list (bs.map PyData.bool)) = true := by
  obtain ⟨h1, h2⟩ := lay_bls bs
  refine shaped_of ?_ ?_
  · rw [PyData.canLay0]
    exact h1
  · rw [PyData.depth]
    omega
theorem same_bls {α : Type} (L : List α) (b : Bool) : (((L.map fun _ => b).map PyData.bool).any fun z => PyData.eqv z (.bool (!b))) = false := by
  rw [List.any_eq_false]
  intro z hz
  obtain ⟨c, hc, rfl⟩ := List.mem_map.mp hz
  obtain ⟨_, _, rfl⟩ := List.mem_map.mp hc
  cases b <;> decide
section
variable {P : Program} {w : World} {K : PySem.W.Frag} {mg : Str → Option Value} {base : Heap} {f : Addr} {fd : FuncData} {k : Nat}
def spLaw (K : PySem.W.Frag) : Sp := fun vs H Q _ => ∃ (a : Addr) (ns : List Int), vs = [.ref a] ∧ SqL K H a (ns.map V.int) ∧ ns.length ≤ 63 ∧ ∀ H', Q (.bl true) H'
theorem ok_law {C CP gE gS gA pO fO pR fR fI f1 f2 f3 f4 f5 f6 f7 f8 : Addr} {mc : Value} {fdR fd1 fd2 fd3 fd4 fd5 fd6 fd7 fd8 : FuncData} (F : Fun K "law" "law" sLaw f fd) (T : Bl mg) (mC : mg "Program" = some (.ref C)) (c : Cls K C) (cr : CRead K C mc) (cm : CMet K C mc "of" pO fO) (GO : FnR P w K mg base CX0 (k + 1) fO (spOf K C))
    (M : Mk K C fI) (GI : FnR P w K mg base CX0 k fI (spInit K C)) (hpR : PropOf K C "rules" pR fR) (GR : FnOk P w K mg base CX0 k fR fdR ["self"] (spRules K C)) (bR : Binds K fdR ["self"] [])
    (hE : PySem.W.findIn K (.ref C) "__eq__" = some (some (.ref gE))) (iE : PySem.W.isFn K (.ref gE) = true) (GE : FnR P w K mg base CX0 k gE (spPEqG K C))
    (hsf : PySem.W.selfFirst K C = true) (hS : PySem.W.findIn K (.ref C) "__sub__" = some (some (.ref gS))) (iS : PySem.W.isFn K (.ref gS) = true) (FS : FnR P w K mg base (L2.CX P w) (k + 1) gS (spSub K C CP))
    (hA : PySem.W.findIn K (.ref C) "__add__" = some (some (.ref gA))) (iA : PySem.W.isFn K (.ref gA) = true) (FA : FnR P w K mg base (L2.CX P w) (k + 1) gA (spAdd K C CP))
    (G1 : FnOk P w K mg base CX0 (k + 1) f1 fd1 ["script", "at"] (spLawPurse K)) (b1 : Binds K fd1 ["script", "at"] []) (k1 : PySem.W.keepIn K (.ref f1) = true) (m1 : mg "_law_purse" = some (.ref f1))
    (G2 : FnOk P w K mg base CX0 (k + 1) f2 fd2 ["purse", "out_of"] spLawDraw) (b2 : Binds K fd2 ["purse", "out_of"] []) (k2 : PySem.W.keepIn K (.ref f2) = true) (m2 : mg "_law_draw" = some (.ref f2))
    (G3 : FnOk P w K mg base CX0 (k + 1) f3 fd3 ["purse", "letters"] (spLawDrawn K)) (b3 : Binds K fd3 ["purse", "letters"] []) (k3 : PySem.W.keepIn K (.ref f3) = true) (m3 : mg "_law_drawn" = some (.ref f3))
    (G4 : FnOk P w K mg base CX0 (k + 1) f4 fd4 ["program"] (spConf K C confP)) (b4 : Binds K fd4 ["program"] []) (k4 : PySem.W.keepIn K (.ref f4) = true) (m4 : mg "conflicts" = some (.ref f4))
    (G5 : FnOk P w K mg base CX0 (k + 1) f5 fd5 ["program"] (spConf K C cureP)) (b5 : Binds K fd5 ["program"] []) (k5 : PySem.W.keepIn K (.ref f5) = true) (m5 : mg "cures" = some (.ref f5))
    (G6 : FnOk P w K mg base CX0 (k + 1) f6 fd6 ["sheet"] (spLawHas K C)) (b6 : Binds K fd6 ["sheet"] []) (k6 : PySem.W.keepIn K (.ref f6) = true) (m6 : mg "_law_has" = some (.ref f6))
    (G7 : FnOk P w K mg base (L2.CX P w) (k + 1) f7 fd7 ["program"] (spAnswers K C CP)) (b7 : Binds K fd7 ["program"] []) (k7 : PySem.W.keepIn K (.ref f7) = true) (m7 : mg "answers" = some (.ref f7))
    (G8 : FnOk P w K mg base CX0 (k + 1) f8 fd8 ["lot", "others"] (spLeastR K C)) (b8 : Binds K fd8 ["lot", "others"] []) (k8 : PySem.W.keepIn K (.ref f8) = true) (m8 : mg "_law_least_right" = some (.ref f8)) :
    FnOk P w K mg base CX0 (k + 2) f fd ["script"] (spLaw K) := by
  refine F.ok scLaw (fun vs H Q E h => ?_) (fun cdv A outer s H vs Q E hr h => ?_)
  · obtain ⟨a, ns, rfl, _⟩ := h
    rfl
  obtain ⟨a, ns, rfl, hSq, hl, q⟩ := h
  have hu : (A.deeper (envOfC "law" (defScope sLaw) s.heap.objs.size f cdv)).units + 64 < cLine := by have := hr.un; omega
  have hu65 : (A.deeper (envOfC "law" (defScope sLaw) s.heap.objs.size f cdv)).units + 65 < cLine := by have := hr.un; omega
  refine ⟨_, (pss_cons (ps_set (i := 1) scLaw.nd rfl (.inl rfl) (pe_lst (pa_cons pe_str (pa_cons pe_str (pa_cons pe_str (pa_cons pe_str pa_nil)))))) (pss_cons (ps_for PassesOwn.never rfl (pi_range1 rfl T.range (pa_cons (pe_op op_add pe_int (pe_callB (call_min2 rfl) (by rfl) T.min (by decide +kernel) (pa_cons pe_int (pa_cons (pe_callB call_len_seq (by rfl) T.len PySem.boot_len (pa_cons (pv 0) pa_nil)) pa_nil)))) pa_nil)) (pg_name (i := 2) scLaw.nd rfl (.inl rfl)) (pss_cons (ps_set (i := 3) scLaw.nd rfl (.inl rfl) (pe_call G1 hr (by rfl) m1 k1 b1 .nil pass0 (pa_cons (pv 0) (pa_cons (pv 2) pa_nil)))) (pss_cons (ps_set (i := 4) scLaw.nd rfl (.inl rfl) (pe_slice sl_list (pv 1) po_none (po_some (pe_op op_add pe_int (pe_call G2 hr (by rfl) m2 k2 b2 .nil pass0 (pa_cons (pv 3) (pa_cons pe_int pa_nil))))))) (pss_cons (ps_set (i := 5) scLaw.nd rfl (.inl rfl) (pe_cmeth (pe_glob (v := .ref C) (by rfl) mC rfl) cr cm GO hr pass0 (pa_cons (pe_call G3 hr (by rfl) m3 k3 b3 .nil pass0 (pa_cons (pv 3) (pa_cons (pv 4) pa_nil))) pa_nil))) (pss_cons (ps_par (i := 6) (j := 7) rfl scLaw.nd rfl rfl (by decide) rfl rfl (pa_cons (pe_call G4 hr (by rfl) m4 k4 b4 .nil pass0 (pa_cons (pv 5) pa_nil)) (pa_cons (pe_call G5 hr (by rfl) m5 k5 b5 .nil pass0 (pa_cons (pv 5) pa_nil)) pa_nil)) rfl) (pss_cons (ps_if (PW.pt (pw_or (pt_cmpR  op_ne (pe_cmpR  (op_eqE hu) (pv 6) (pe_lst pa_nil) (nomark _)) (pe_call G6 hr (by rfl) m6 k6 b6 .nil pass0 (pa_cons (pv 5) pa_nil)) (nomark _)) (pw_or1 (pt_cmpR  op_ne (pe_cmpR  (op_lsEq hE iE GE hr pass0) (pv 7) (pe_lst (pa_cons (pe_makeR0 M GI hr (by rfl) mC pass0) pa_nil)) (nomark _)) (pe_call G6 hr (by rfl) m6 k6 b6 .nil pass0 (pa_cons (pv 5) pa_nil)) (nomark _))))) pss_never pss_nil) (pss_cons (ps_for PassesOwn.never rfl (pi_list (pv 6)) (pg_name (i := 8) scLaw.nd rfl (.inr rfl)) (pss_cons (ps_if (PW.pt (pw_or (pt_val (pe_call G6 hr (by rfl) m6 k6 b6 .nil pass0 (pa_cons (pv 8) pa_nil))) (pw_or1 (pt_cmpR  (op_neE hu) (pe_call G7 hr (by rfl) m7 k7 b7 .nil passNo (pa_cons (pv 8) pa_nil)) (pe_lst pa_nil) (nomark _))))) pss_never pss_nil) (pss_one (ps_if (pt_cmpR  (op_inD hu65) pe_bl (pe_lc (own := [("row", 10)]) (g := gName 10) (te := tCall (spLawHas K C) [] E0 (tCons (tOp (rBinP C (spSub K C CP) E0) (tVar 8) (StX.tMakeR C (spInit K C) E0 (tCons (tVar 10) tNil))) tNil)) (by rfl) scLaw.nd (pi_tup (pe_prop (pv 8) c hpR GR hr bR .nil pass0 rfl)) (blkOk_by (N := nLaw) (sc := defScope sLaw) (by decide +kernel)) (fun _ _ _ _ _ => (pg_name (i := 10) scLaw.nd rfl (Or.inl rfl))) (fun _ _ _ _ _ => pts_nil) (fun _ _ _ _ _ => (pe_call G6 hr (by rfl) m6 k6 b6 .nil pass0 (pa_cons (pe_op (op_binP hsf hS iS FS hr passNo) (pv 8) (StX.pe_makeR M GI hr (by rfl) mC pass0 (pa_cons (pv 10) pa_nil))) pa_nil)))) (by rfl)) pss_never pss_nil)))) (pss_cons (ps_for PassesOwn.never rfl (pi_list (pv 7)) (pg_name (i := 8) scLaw.nd rfl (.inr rfl)) (pss_cons (ps_set (i := 9) scLaw.nd rfl (.inr rfl) (pe_op (op_binP hsf hS iS FS hr passNo) (pv 5) (pv 8))) (pss_one (ps_if (PW.pt (pw_or (pt_not (pt_val (pe_call G6 hr (by rfl) m6 k6 b6 .nil pass0 (pa_cons (pv 9) pa_nil)))) (pw_or1 (pt_cmpR  (op_inD hu65) pe_bl (pe_lc (own := [("row", 10)]) (g := gName 10) (te := tCall (spLawHas K C) [] E0 (tCons (tOp (rBinP C (spAdd K C CP) E0) (tVar 9) (StX.tMakeR C (spInit K C) E0 (tCons (tVar 10) tNil))) tNil)) (by rfl) scLaw.nd (pi_tup (pe_prop (pv 8) c hpR GR hr bR .nil pass0 rfl)) (blkOk_by (N := nLaw) (sc := defScope sLaw) (by decide +kernel)) (fun _ _ _ _ _ => (pg_name (i := 10) scLaw.nd rfl (Or.inl rfl))) (fun _ _ _ _ _ => pts_nil) (fun _ _ _ _ _ => (pe_call G6 hr (by rfl) m6 k6 b6 .nil pass0 (pa_cons (pe_op (op_binP hsf hA iA FA hr passNo) (pv 9) (StX.pe_makeR M GI hr (by rfl) mC pass0 (pa_cons (pv 10) pa_nil))) pa_nil)))) (by rfl))))) pss_never pss_nil)))) (pss_mid (ps_if (PW.pt (pw_or (pt_not (pt_val (pe_call G8 hr (by rfl) m8 k8 b8 .nil pass0 (pa_cons (pv 7) (pa_cons (pv 6) pa_nil))))) (pw_or1 (PW.pt (pw_and (pt_cmpR  (op_neE hu) (pv 6) (pe_lst pa_nil) (nomark _)) (pw_and1 (pt_not (pt_val (pe_call G8 hr (by rfl) m8 k8 b8 .nil pass0 (pa_cons (pv 6) (pa_cons (pv 7) pa_nil))))))))))) pss_never pss_nil) (pss_one (ps_if (PW.pt (pw_or (pt_cmpR  (op_neE hu) (pe_lc (own := [("part", 8)]) (g := gName 8) (tt := tTest (tOp (rLsEq K C (spPEqG K C) E0 true) (tCall (spConf K C confP) [] E0 (tCons (tVar 8) tNil)) (tLst (tCons (tVar 8) tNil)))) (te := tVar 8) (by rfl) scLaw.nd (pi_list (pv 6)) (blkOk_by (N := nLaw) (sc := defScope sLaw) (by decide +kernel)) (fun _ _ _ _ _ => (pg_name (i := 8) scLaw.nd rfl (Or.inl rfl))) (fun _ _ _ _ _ => pts_one (pt_cmpR (r := rLsEq K C (spPEqG K C) E0 true) (op_lsNe hE iE GE hr pass0) (pe_call G4 hr (by rfl) m4 k4 b4 .nil pass0 (pa_cons (pv 8) pa_nil)) (pe_lst (pa_cons (pv 8) pa_nil)) (nomark _))) (fun _ _ _ _ _ => (pv 8))) (pe_lst pa_nil) (nomark _)) (pw_or1 (pt_cmpR  (op_lsNe hE iE GE hr pass0) (pe_call G4 hr (by rfl) m4 k4 b4 .nil pass0 (pa_cons (pe_op (op_binP hsf hA iA FA hr passNo) (pv 5) (pv 5)) pa_nil)) (pv 6) (nomark _))))) pss_never pss_nil))))))))))) (pss_one (ps_ret pe_bl)))), ?_⟩
  refine ⟨by show 4 ≤ sizeLine; decide, fun e1 he1 => ?_⟩
  have s1 := same_new he1 (.lst (poolW.map V.str))
  let HP0 : Hp := upd H e1 (.lst (poolW.map V.str))
  obtain ⟨n0, hn0, hn1⟩ : ∃ n0 : Nat, (1 + (if ((ns.map V.int).length : Int) < 5 then ((ns.map V.int).length : Int) else 5)) = (n0 : Int) ∧ n0 ≤ 6 := by
    rw [List.length_map]
    by_cases c : (ns.length : Int) < 5
    · rw [if_pos c]
      exact ⟨1 + ns.length, by omega, by omega⟩
    · rw [if_neg c]
      exact ⟨6, by omega, by omega⟩
  refine ⟨.ref a, rfl, a, _, rfl, .inl (s1.seq hSq), 5, ((ns.map V.int).length : Int), rfl, _, _, rfl, rfl, _, rfl, ?_⟩
  rw [hn0]
  refine ⟨by omega, by omega, ?_⟩
  refine for_range (n := (n0 : Int).toNat) (fun i σ H1 => (∃ y2 y3 y4 y5 y6 y7 y8 y9, σ = [some (.ref a), some (.ref e1), y2, y3, y4, y5, y6, y7, y8, y9, none]) ∧ Same HP0 H1) ⟨⟨_, _, _, _, _, _, _, _, rfl⟩, fun _ _ e => e⟩ (fun i σ HA hi hI => ?_) (fun σ H1 hI => q H1)
  obtain ⟨⟨y2, y3, y4, y5, y6, y7, y8, y9, rfl⟩, smA⟩ := hI
  have hi7 : i < 6 := by omega
  -- the purse
  refine ⟨.ref a, rfl, .int (0 + (i : Int)), rfl, a, ns, i, ?_, (s1.trans smA).seq hSq, hl, by omega, fun HB p sAB hpn hP0 => ?_⟩
  · rw [Int.zero_add]
    rfl
  have up : ∀ H', Bar p HB H' → Same HP0 H' := fun H' b c u e => b c u (fun z => by
    have := smA _ _ e
    rw [z, hpn] at this
    cases this) (sAB _ _ (smA _ _ e))
  have hp1 : HB e1 = some (.lst (poolW.map V.str)) := (smA.trans sAB) _ _ upd_same
  have ne1 : e1 ≠ p := fun z => by
    have := smA _ _ (upd_same : HP0 e1 = _)
    rw [z, hpn] at this
    cases this
  -- the letters
  refine ⟨.ref e1, rfl, .ref p, rfl, p, 4, _, rfl, hP0, by omega, by decide, by decide, fun r us r0 r1 hP1 => ?_⟩
  obtain ⟨m, rfl⟩ := Int.eq_ofNat_of_zero_le r0
  have bar1 : Bar p HB (upd HB p (.lst us)) := .draw
  refine ⟨1, (m : Int), rfl, rfl, _, rfl, e1, _, rfl, SqL.of (bar1 _ _ ne1 hp1), fun lL hlL => ?_⟩
  have ec : cutV (poolW.map V.str) none (some (1 + (m : Int))) = (poolW.take (min (1 + m) 4)).map V.str := by
    have z := cut_pool m
    rw [show ((1 + m : Nat) : Int) = 1 + (m : Int) by omega] at z
    exact z
  let lets : W := poolW.take (min (1 + m) 4)
  let HC : Hp := upd (upd HB p (.lst us)) lL (.lst (cutV (poolW.map V.str) none (some (1 + (m : Int)))))
  have hL : HC lL = some (.lst (lets.map V.str)) := by
    show upd _ _ _ lL = _
    rw [upd_same, ec]
  have sC : Same (upd HB p (.lst us)) HC := same_new hlL _
  have barC : Bar p HB HC := bar1.trans (.same sC)
  have puC : Pur HC p (100000 + 1) := hP1.same sC
  have nlp : lL ≠ p := hP1.some hlL
  have hlets : IsW lets := isW_sub isW_pool (List.take_sublist _ _)
  have l4 : lets.length ≤ 4 := by
    show (poolW.take (min (1 + m) 4)).length ≤ 4
    rw [List.length_take]
    show min (min (1 + m) 4) 4 ≤ 4
    omega
  have ln : 1 ≤ lets.length := by
    show 1 ≤ (poolW.take (min (1 + m) 4)).length
    rw [List.length_take]
    show 1 ≤ min (min (1 + m) 4) 4
    omega
  -- the sheet
  refine ⟨rfl, .ref p, rfl, .ref lL, rfl, p, lL, _, lets, rfl, puC, by omega, nlp, hL, ln, hlets, fun HD aR ysR S barD puD hnR hR hysR srtS S8 hRIn => ?_⟩
  have hIs : ∀ r ∈ S, IsR r := fun r hr => (hRIn r hr).1
  have inl : ∀ z ∈ namesL S, z ∈ lets := rin_names hRIn
  refine ⟨aR, ysR, S, rfl, .inr (SqL.of hR), hysR, hIs, by omega, fun H3 v S' s3 hS' few' hv => ?_⟩
  obtain rfl : S = S' := srtS.one hS' fun _ => Iff.rfl
  have up3 := up _ ((barC.trans barD).trans (.same s3))
  -- its conflicts and cures
  refine ⟨v, rfl, v, S, lets, rfl, hv, hIs, S8, inl, by omega, fun H4 lb own s4 nlb hw hm hbad => ?_⟩
  have hv4 := hv.same s4
  refine ⟨v, rfl, v, S, lets, rfl, hv4, hIs, S8, inl, by omega, fun H5 lc own2 s5 nlc hw2 hm2 hcur => ⟨.ref lb, .ref lc, rfl, ?_⟩⟩
  obtain rfl : own = own2 := upX_one hw.up hw2.up fun z => (hm z).trans (hm2 z).symm
  have nd := srtS.nd
  have hn : ∀ z ∈ namesL S, z ∈ own := fun z hz => (hm z).mpr hz
  have cfm := fun L (h : L ∈ confL own S) => conf_mem nd S8 hn h
  have cum := fun L (h : L ∈ cureL own S) => cure_mem nd S8 hn h
  have hB : PgX K C H5 lb (confL own S) := (pgX_of hbad fun L h => srt_sub srtS (cfm L h).1).same s5
  have hC : PgX K C H5 lc (cureL own S) := pgX_of hcur fun L h => srt_sub srtS (cum L h).1
  have fewB : (confL own S).length ≤ 256 := by
    unfold confL confP
    rw [List.length_map]
    exact Nat.le_trans (List.length_filter_le _ _) (parts_few S8)
  have fewC : (cureL own S).length ≤ 256 := by
    unfold cureL cureP
    rw [List.length_map]
    exact Nat.le_trans (List.length_filter_le _ _) (parts_few S8)
  have IB : ∀ L ∈ confL own S, ∀ r ∈ L, IsR r := fun L h r hr => hIs r ((cfm L h).1.subset hr)
  have IC : ∀ L ∈ cureL own S, ∀ r ∈ L, IsR r := fun L h r hr => hIs r ((cum L h).1.subset hr)
  have lB : ∀ L ∈ confL own S, L.length ≤ 8 := fun L h => Nat.le_trans (cfm L h).1.length_le S8
  have lC : ∀ L ∈ cureL own S, L.length ≤ 8 := fun L h => Nat.le_trans (cum L h).1.length_le S8
  have subl : ∀ {L : List Rl}, (∀ r ∈ L, r ∈ S) → ∀ z ∈ namesL L, z ∈ lets := fun h => rin_names fun r hr => hRIn r (h r hr)
  obtain ⟨yes, hyes⟩ : ∃ yes : Bool, yes = true ↔ Sat S := by
    by_cases c : Sat S
    · exact ⟨true, fun _ => c, fun _ => rfl⟩
    · exact ⟨false, (fun z => nomatch z), fun z => absurd z c⟩
  have hasV : ∀ {own' : W}, (∀ z, z ∈ own' ↔ z ∈ namesL S) → hasB own' S = yes := fun {own'} h => by
    rw [Bool.eq_iff_iff, has_iff fun z hz => (h z).mpr hz, hyes]
  have hv5 := hv4.same s5
  obtain ⟨yb, b1', b2', b3'⟩ := id hB
  obtain ⟨yc, c1', c2', c3'⟩ := id hC
  have up5 := up3.trans (s4.trans s5)
  generalize hG : H5 = HG at hB hC hv5 b1' b3' c1' c3' up5 ⊢
  clear hG hbad hcur
  -- (bad == []) != _law_has(sheet)
  have bE : yb.isEmpty = yes := by
    rw [Bool.eq_iff_iff, List.isEmpty_iff, hyes, ← conf_nil nd S8 hn, ← List.length_eq_zero_iff, b2', List.length_eq_zero_iff]
  refine ⟨.ref lb, rfl, by show 0 ≤ sizeLine; decide, fun e0 he0 => ?_⟩
  have t0 := same_new he0 (.lst [])
  refine ⟨lb, e0, yb, rfl, rfl, SqL.of (t0 _ _ b1'), SqL.of upd_same, ?_⟩
  refine ⟨v, rfl, v, S, lets, rfl, hv5.same t0, hIs, by omega, inl, by omega, fun H6 own6 s6 hw6 hm6 => ⟨rfl, false, congrArg V.bl (by rw [bE, hasV hm6, decide_eq_true rfl]; rfl), iteF ?_⟩⟩
  have t06 := t0.trans s6
  -- (cured == [Program()]) != _law_has(sheet)
  refine ⟨.ref lc, rfl, lst_one (make0_ok fun H7 v0 S0 s7 hS0 hl0 hv0 => ?_)⟩
  obtain rfl : S0 = [] := List.eq_nil_iff_forall_not_mem.mpr fun r hr => nomatch (hS0.mem r).mp hr
  refine ⟨by show 1 ≤ sizeLine; decide, fun l1 hl1 => ?_⟩
  have t7 := same_new hl1 (.lst [v0])
  have t07 := t06.trans (s7.trans t7)
  refine ls_nil (yes := yes) (hC.same t07) upd_same (hv0.same t7) IC (fun e => cure_one nd S8 hn (hyes.mp e)) (fun e => cure_no nd S8 hn fun z => by rw [hyes.mpr z] at e; cases e) ?_
  refine ⟨v, rfl, v, S, lets, rfl, hv5.same t07, hIs, by omega, inl, by omega, fun H8 own8 s8 hw8 hm8 => ⟨rfl, false, congrArg V.bl (by rw [hasV hm8, decide_eq_true rfl]; rfl), iteF ?_⟩⟩
  have t08 := t07.trans s8
  -- for part in bad
  refine ⟨.ref lb, rfl, lb, rfl, ⟨_, SqL.of (t08 _ _ b1')⟩, for_list (xs := yb) (fun j σ H1 => (∃ y8, σ = [some (.ref a), some (.ref e1), some (.int (0 + (i : Int))), some (.ref p), some (.ref lL), some v, some (.ref lb), some (.ref lc), y8, y9, none]) ∧ Same HG H1) ⟨⟨_, rfl⟩, t08⟩ (fun j σ H1 _ h => SqL.of (h.2 _ _ b1')) (fun j x σ H1 hx h => ?_) (fun σ H1 h => ?_)⟩
  · obtain ⟨⟨y8', rfl⟩, sm⟩ := h
    obtain ⟨L, hLj, hxL0⟩ := b3' j x hx
    have hLm := List.mem_of_getElem? hLj
    obtain ⟨Lsub, Lno, Lyes⟩ := cfm L hLm
    have LI := IB L hLm
    have L8 := lB L hLm
    have Lin : ∀ z ∈ namesL L, z ∈ lets := subl fun r hr => Lsub.subset hr
    have hxL := hxL0.same sm
    -- _law_has(part)
    refine ⟨x, rfl, x, L, lets, rfl, hxL, LI, by omega, Lin, by omega, fun HA' ownA sA hwA hmA => ⟨false, congrArg V.bl ?_, iteF ?_⟩⟩
    · rw [← Bool.not_eq_true, has_iff fun z hz => (hmA z).mpr hz]
      exact Lno
    have u1 := sm.trans sA
    -- answers(part) != []
    refine ⟨x, rfl, x, rfl, .inl ⟨L, lets, hxL.same sA, LI, by omega, Lin, by omega, fun HB' la ownB sB nla hwB hmB hW => ?_⟩⟩
    obtain ⟨yw, w1, w2⟩ := id hW
    have yw0 : yw = [] := by
      have := dpAll_len w2
      rw [found_none (fun z hz => (hmB z).mpr hz) Lno] at this
      exact List.length_eq_zero_iff.mp this
    subst yw0
    refine ⟨by show 0 ≤ sizeLine; decide, fun e2 he2 => ?_⟩
    have t2 := same_new he2 (.lst [])
    have u2 := u1.trans (sB.trans t2)
    refine ⟨la, e2, [], rfl, rfl, SqL.of (t2 _ _ w1), SqL.of upd_same, false, rfl, iteF ?_⟩
    -- False in [..]
    obtain ⟨ax, dx, tx, yx, rfl, j1, j2, j3⟩ := id (hxL0.same u2)
    refine ⟨.ref ax, rfl, ax, dx, _, rfl, j1, .ref ax, L, rfl, hxL0.same u2, fun tr yr htr hyr => ?_⟩
    have yrl : yr.length = L.length := by rw [dpAll_len hyr, List.length_map]
    refine ⟨tr, rfl, ⟨_, htr⟩, fun D hD => ?_⟩
    refine lc_tup (xs := yr) (fun n H2 => Same (upd HB' e2 (.lst [])) H2 ∧ H2 D = some (.lst ((L.take n).map fun _ => V.bl true))) ⟨same_new hD _, upd_same⟩ (fun n H2 _ h => same_tup h.1 htr) (fun n u H2 hu2 h => ?_) (fun H2 h => ?_)
    · obtain ⟨s2, hd⟩ := h
      obtain ⟨dd, hdd, hud⟩ := dpAll_at' hyr hu2
      obtain ⟨r, hr0, rfl⟩ := map_at hdd
      have rm := List.mem_of_getElem? hr0
      have hu3 := dp_same s2 _ _ hud
      refine ⟨rfl, .ref ax, rfl, make1_ok r (LI r rm) (fun Q2 q2 => ⟨u, rfl, q2 H2 u (fun _ _ e => e) hu3⟩) fun H4' v4 S4 s4' hS4 hl4 hv4' => ?_⟩
      obtain ⟨b, db, tb, ybb, rfl, gb, _, _⟩ := id hv4'
      have l4' := srt_len hS4
      rw [List.length_singleton] at l4'
      have u3 := u2.trans (s2.trans s4')
      refine ⟨ax, dx, _, b, db, _, rfl, rfl, (s2.trans s4') _ _ j1, gb, .ref ax, .ref b, L, rfl, hxL0.same u3, LI, .inl ⟨S4, hv4', L8, by omega, fun H5' v5 S5 s5' hS5 hl5 hv5' => ?_⟩⟩
      have mem5 : ∀ y, y ∈ S5 ↔ y ∈ lessR L r := fun y => by
        rw [hS5.mem, mem_lessR]
        unfold less
        rw [List.mem_filter, Bool.not_eq_true', decide_eq_false_iff_not, hS4.mem, List.mem_singleton]
      have in5 : ∀ y ∈ S5, y ∈ S := fun y hy => Lsub.subset (mem_lessR.mp ((mem5 y).mp hy)).1
      refine ⟨v5, S5, lets, rfl, hv5', fun y hy => hIs y (in5 y hy), hl5, subl in5, by omega, fun H6' own6' s6' hw6' hm6' => ?_⟩
      have e6 : hasB own6' S5 = true := (has_iff fun z hz => (hm6' z).mpr hz).mpr ((Lyes r rm).sub fun y hy => (mem5 y).mp hy)
      rw [e6]
      have s26 := s4'.trans (s5'.trans s6')
      refine ⟨_, s26 _ _ hd, small_line' (by rw [List.length_map, List.length_take]; omega), same_put (s2.trans s26) hD, ?_⟩
      rw [upd_same, take_snoc hr0, List.map_append]
      rfl
    · obtain ⟨s2, hd⟩ := h
      rw [yrl, List.take_length] at hd
      have hd' : H2 D = some (.lst ((L.map fun _ => true).map V.bl)) := by
        rw [hd, List.map_map]
        rfl
      refine ⟨.bool false, (L.map fun _ => true).map .bool, .bl _, .lst (SqL.of hd') (dps_bls _), by decide, shaped_bls _, false, congrArg V.bl (same_bls L true), iteF ⟨⟨_, rfl⟩, u2.trans s2⟩⟩
  obtain ⟨⟨y8', rfl⟩, sm⟩ := h
  -- for part in cured
  obtain ⟨av, dv, tv, yv, rfl, iv1, iv2, iv3⟩ := id hv5
  refine ⟨.ref lc, rfl, lc, rfl, ⟨_, SqL.of (sm _ _ c1')⟩, for_list (xs := yc) (fun j σ H1 => (∃ y8 y9, σ = [some (.ref a), some (.ref e1), some (.int (0 + (i : Int))), some (.ref p), some (.ref lL), some (.ref av), some (.ref lb), some (.ref lc), y8, y9, none]) ∧ Same HG H1) ⟨⟨_, _, rfl⟩, sm⟩ (fun j σ H1 _ h => SqL.of (h.2 _ _ c1')) (fun j x σ H1 hx h => ?_) (fun σ H1 h => ?_)⟩
  · obtain ⟨⟨y8', y9', rfl⟩, sm⟩ := h
    obtain ⟨L, hLj, hxL0⟩ := c3' j x hx
    have hLm := List.mem_of_getElem? hLj
    obtain ⟨Lsub, Lyes, Lno⟩ := cum L hLm
    have LI := IC L hLm
    have L8 := lC L hLm
    -- kept = sheet - part
    obtain ⟨ax, dx, tx, yx, rfl, j1, j2, j3⟩ := id (hxL0.same sm)
    refine ⟨.ref av, rfl, .ref ax, rfl, av, dv, _, ax, dx, _, rfl, rfl, sm _ _ iv1, j1, .ref av, .ref ax, S, rfl, hv5.same sm, hIs, .inl ⟨L, hxL0.same sm, S8, by omega, fun HK vk Sk sk hSk hlk hvk => ?_⟩⟩
    have uk := sm.trans sk
    have memk : ∀ y, y ∈ Sk ↔ y ∈ outL S L := fun y => by
      rw [hSk.mem]
      rfl
    have ink : ∀ y ∈ Sk, y ∈ S := fun y hy => (mem_outL.mp ((memk y).mp hy)).1
    have Ik : ∀ y ∈ Sk, IsR y := fun y hy => hIs y (ink y hy)
    have lk : Sk.length ≤ 8 := Nat.le_trans (nodup_le hSk.nd ink) S8
    -- not _law_has(kept)
    refine ⟨vk, rfl, vk, Sk, lets, rfl, hvk, Ik, hlk, subl ink, by omega, fun HA' ownA sA hwA hmA => ⟨true, congrArg V.bl ?_, iteF ?_⟩⟩
    · rw [has_iff fun z hz => (hmA z).mpr hz]
      exact Lyes.sub fun y hy => (memk y).mp hy
    have uA := uk.trans sA
    have hvkA := hvk.same sA
    -- True in [..]
    refine ⟨.ref ax, rfl, ax, dx, _, rfl, (sk.trans sA) _ _ j1, .ref ax, L, rfl, hxL0.same uA, fun tr yr htr hyr => ?_⟩
    have yrl : yr.length = L.length := by rw [dpAll_len hyr, List.length_map]
    refine ⟨tr, rfl, ⟨_, htr⟩, fun D hD => ?_⟩
    refine lc_tup (xs := yr) (fun n H2 => Same HA' H2 ∧ H2 D = some (.lst ((L.take n).map fun _ => V.bl false))) ⟨same_new hD _, upd_same⟩ (fun n H2 _ h => same_tup h.1 htr) (fun n u H2 hu2 h => ?_) (fun H2 h => ?_)
    · obtain ⟨s2, hd⟩ := h
      obtain ⟨dd, hdd, hud⟩ := dpAll_at' hyr hu2
      obtain ⟨r, hr0, rfl⟩ := map_at hdd
      have rm := List.mem_of_getElem? hr0
      have hu3 := dp_same s2 _ _ hud
      refine ⟨rfl, vk, rfl, make1_ok r (LI r rm) (fun Q2 q2 => ⟨u, rfl, q2 H2 u (fun _ _ e => e) hu3⟩) fun H4' v4 S4 s4' hS4 hl4 hv4' => ?_⟩
      obtain ⟨b, db, tb, ybb, rfl, gb, _, _⟩ := id hv4'
      obtain ⟨ak, dk, tk, yk, rfl, gk, _, _⟩ := id (hvkA.same (s2.trans s4'))
      have l4' := srt_len hS4
      rw [List.length_singleton] at l4'
      have I4 : ∀ y ∈ S4, IsR y := fun y hy => by
        rw [List.mem_singleton.mp ((hS4.mem y).mp hy)]
        exact LI r rm
      refine ⟨ak, dk, _, b, db, _, rfl, rfl, gk, gb, .ref ak, .ref b, Sk, rfl, hvkA.same (s2.trans s4'), Ik, .inl ⟨S4, hv4', I4, by omega, fun H5' v5 S5 s5' hS5 hl5 hv5' => ?_⟩⟩
      have mem5 : ∀ y, y ∈ S5 ↔ y ∈ r :: outL S L := fun y => by
        rw [hS5.mem, List.mem_append, memk, hS4.mem, List.mem_singleton, List.mem_cons, or_comm]
      have in5 : ∀ y ∈ S5, y ∈ S := fun y hy => by
        rcases List.mem_cons.mp ((mem5 y).mp hy) with e | e
        · rw [e]
          exact Lsub.subset rm
        · exact (mem_outL.mp e).1
      refine ⟨v5, S5, lets, rfl, hv5', fun y hy => hIs y (in5 y hy), hl5, subl in5, by omega, fun H6' own6' s6' hw6' hm6' => ?_⟩
      have e6 : hasB own6' S5 = false := by
        rw [← Bool.not_eq_true, has_iff fun z hz => (hm6' z).mpr hz]
        exact fun z => Lno r rm (z.sub fun y hy => (mem5 y).mpr hy)
      rw [e6]
      have s26 := s4'.trans (s5'.trans s6')
      refine ⟨_, s26 _ _ hd, small_line' (by rw [List.length_map, List.length_take]; omega), same_put (s2.trans s26) hD, ?_⟩
      rw [upd_same, take_snoc hr0, List.map_append]
      rfl
    · obtain ⟨s2, hd⟩ := h
      rw [yrl, List.take_length] at hd
      have hd' : H2 D = some (.lst ((L.map fun _ => false).map V.bl)) := by
        rw [hd, List.map_map]
        rfl
      refine ⟨.bool true, (L.map fun _ => false).map .bool, .bl _, .lst (SqL.of hd') (dps_bls _), by decide, shaped_bls _, false, congrArg V.bl (same_bls L false), iteF ⟨⟨_, _, rfl⟩, uA.trans s2⟩⟩
  obtain ⟨⟨y8', y9', rfl⟩, sm⟩ := h
  -- not _law_least_right(cured, bad) or bad != [] and not _law_least_right(bad, cured)
  have lcs := least_cures nd S8 hn
  have lcf := least_confs nd S8 hn
  refine ⟨fun σ H1 => σ = [some (.ref a), some (.ref e1), some (.int (0 + (i : Int))), some (.ref p), some (.ref lL), some (.ref av), some (.ref lb), some (.ref lc), y8', y9', none] ∧ Same HG H1, ?_, ?_⟩
  · refine ⟨.ref lc, rfl, .ref lb, rfl, lc, lb, _, _, rfl, hC.same sm, hB.same sm, fewC, fewB, fun L h => ⟨lC L h, IC L h⟩, IB, lcs, fun HA' sA => ⟨true, rfl, iteF ?_⟩⟩
    have uA := sm.trans sA
    refine ⟨.ref lb, rfl, by show 0 ≤ sizeLine; decide, fun e2 he2 => ?_⟩
    have t2 := same_new he2 (.lst [])
    have uB := uA.trans t2
    refine ⟨lb, e2, yb, rfl, rfl, SqL.of (uB _ _ b1'), SqL.of upd_same, _, rfl, ite2 (fun e => ?_) (fun e => ⟨rfl, uB⟩)⟩
    exact ⟨.ref lb, rfl, .ref lc, rfl, lb, lc, _, _, rfl, hB.same uB, hC.same uB, fewB, fewC, fun L h => ⟨lB L h, IB L h⟩, IC, lcf, fun HC' sC' => ⟨true, rfl, iteF ⟨rfl, uB.trans sC'⟩⟩⟩
  rintro σ HZ ⟨rfl, sz⟩
  -- [part for part in bad if conflicts(part) != [part]] != []
  refine ⟨.ref lb, rfl, lb, rfl, ⟨_, SqL.of (sz _ _ b1')⟩, fun D hD => ?_⟩
  refine lc_list (xs := yb) (fun n H2 => Same HZ H2 ∧ H2 D = some (.lst [])) ⟨same_new hD _, upd_same⟩ (fun n H2 _ h => SqL.of ((sz.trans h.1) _ _ b1')) (fun n x H2 hx h => ?_) (fun H2 h => ?_)
  · obtain ⟨s2, hd⟩ := h
    obtain ⟨L, hLj, hxL0⟩ := b3' n x hx
    have hLm := List.mem_of_getElem? hLj
    obtain ⟨Lsub, Lno, Lyes⟩ := cfm L hLm
    have LI := IB L hLm
    have L8 := lB L hLm
    have Lin : ∀ z ∈ namesL L, z ∈ lets := subl fun r hr => Lsub.subset hr
    have srtL := srt_sub srtS Lsub
    have u2 := sz.trans s2
    refine ⟨rfl, x, rfl, x, L, lets, rfl, hxL0.same u2, LI, L8, Lin, by omega, fun H3' l3 own3 s3' nl3 hw3 hm3 hP3 => ?_⟩
    have ec3 : confL own3 L = [L] := conf_self srtL.nd L8 (fun z hz => (hm3 z).mpr hz) Lno Lyes
    have hP3' : PgX K C H3' l3 [L] := by
      refine pgX_of (Ls := [L]) ?_ fun L' hL' => by rw [List.mem_singleton.mp hL']; exact srtL
      rw [← ec3]
      exact hP3
    refine ⟨x, rfl, by show 1 ≤ sizeLine; decide, fun l4' hl4' => ?_⟩
    have t4 := same_new hl4' (.lst [x])
    have u4 := u2.trans (s3'.trans t4)
    refine ls_same (Ls := [L]) (hP3'.same t4) ⟨[x], upd_same, rfl, fun i' v' hv' => ?_⟩ (fun L' hL' => by rw [List.mem_singleton.mp hL']; exact LI) ⟨false, rfl, iteF ⟨s2.trans (s3'.trans t4), (s3'.trans t4) _ _ hd⟩⟩
    have i0 : i' = 0 := by
      have := (List.getElem?_eq_some_iff.mp hv').1
      rw [List.length_singleton] at this
      omega
    subst i0
    obtain rfl : x = v' := Option.some.inj hv'
    exact ⟨L, rfl, hxL0.same u4⟩
  obtain ⟨s2, hd⟩ := h
  have u2 := sz.trans s2
  refine ⟨by show 0 ≤ sizeLine; decide, fun e3 he3 => ?_⟩
  have t3 := same_new he3 (.lst [])
  refine ⟨D, e3, [], rfl, rfl, SqL.of (t3 _ _ hd), SqL.of upd_same, false, rfl, iteF ?_⟩
  have u3 := u2.trans t3
  -- conflicts(sheet + sheet) != bad
  refine ⟨.ref av, rfl, .ref av, rfl, av, dv, _, av, dv, _, rfl, rfl, u3 _ _ iv1, u3 _ _ iv1, .ref av, .ref av, S, rfl, hv5.same u3, hIs, .inl ⟨S, hv5.same u3, hIs, by omega, fun H4' v4 S4 s4' hS4 hl4 hv4' => ?_⟩⟩
  obtain rfl : S = S4 := srtS.one hS4 fun r => by rw [List.mem_append, or_self]
  refine ⟨v4, S, lets, rfl, hv4', hIs, S8, inl, by omega, fun H5' l5 own5 s5' nl5 hw5 hm5 hP5 => ?_⟩
  obtain rfl : own = own5 := upX_one hw.up hw5.up fun z => (hm z).trans (hm5 z).symm
  have hP5' : PgX K C H5' l5 (confL own S) := pgX_of hP5 fun L h => srt_sub srtS (cfm L h).1
  have u5 := u3.trans (s4'.trans s5')
  refine ⟨.ref lb, rfl, ls_same hP5' (hB.same u5) IB ⟨false, rfl, iteF ⟨⟨_, _, _, _, _, _, _, _, rfl⟩, up5.trans u5⟩⟩⟩
end
end Rw
namespace Rw
open PySem PySem.Spec PyProof.Rows L2 ClX
theorem exL_at {K : PySem.W.Frag} {C : Addr} (h : (exL K C).all id = true) (i : Nat) {b : Bool} (e : (exL K C)[i]? = some b) : b = true := List.all_eq_true.mp h b (List.mem_of_getElem? e)
theorem pgC_of {K : PySem.W.Frag} {mg : Str → Option Value} {C : Addr} (h : pgP K C) (m : mg "Program" = some (.ref C)) (c : Cls K C) : PgC K mg C := by
  obtain ⟨h1, h2, h3, h4, h5, h6, h7, h8, h9, h10, h11, h12⟩ := h
  exact ⟨h1, h2, h3, h4, h5, h6, h7, h8, m, c, h9, h10, h11, h12⟩
theorem hfacts {P : Program} {w : World} {K : PySem.W.Frag} {h : Heap} {mg : Str → Option Value} {f : Addr} (X : K.In h) (G : h.Ns mainGlobals mg) (hfa_ : mg ("law" : Str) = some (.ref f)) (c : He5.SaysA hfa hfn K) (ce : exB K = true) :
    ∃ fd : FuncData, (∀ (s : Shared) (v : Value), BindsTo s fd ⟨[v], []⟩ [("script", v)]) ∧ ∀ base : Heap, K.In base → base.Ns mainGlobals mg → FnOk P w K mg base CX0 12 f fd ["script"] (spLaw K) := by
  obtain ⟨fd0, D0⟩ := c.def_ 0 (d := dOf "is_name" sIsName) rfl
  have F0 : Fun K "is_name" "is_name" sIsName _ fd0 := fun_of D0
  have B0 := D0.bindsN (ps := ["thing"]) fun _ _ _ _ _ _ us hl => match us, hl with | [_], _ => rfl
  have M0 : mg "is_name" = _ := He.glo_ok X G (c.fact 19 (f := .glo "is_name") rfl)
  obtain ⟨fd1, D1⟩ := c.def_ 1 (d := dOf "_are_names" sAreNames) rfl
  have F1 : Fun K "_are_names" "_are_names" sAreNames _ fd1 := fun_of D1
  have B1 := D1.bindsN (ps := ["thing"]) fun _ _ _ _ _ _ us hl => match us, hl with | [_], _ => rfl
  have M1 : mg "_are_names" = _ := He.glo_ok X G (c.fact 20 (f := .glo "_are_names") rfl)
  obtain ⟨fd2, D2⟩ := c.def_ 2 (d := dOf "_set_of" sSetOf) rfl
  have F2 : Fun K "_set_of" "_set_of" sSetOf _ fd2 := fun_of D2
  have B2 := D2.bindsN (ps := ["names"]) fun _ _ _ _ _ _ us hl => match us, hl with | [_], _ => rfl
  have M2 : mg "_set_of" = _ := He.glo_ok X G (c.fact 21 (f := .glo "_set_of") rfl)
  obtain ⟨fd3, D3⟩ := c.def_ 3 (d := dOf "is_world" sIsWorld) rfl
  have F3 : Fun K "is_world" "is_world" sIsWorld _ fd3 := fun_of D3
  have B3 := D3.bindsN (ps := ["thing"]) fun _ _ _ _ _ _ us hl => match us, hl with | [_], _ => rfl
  have M3 : mg "is_world" = _ := He.glo_ok X G (c.fact 22 (f := .glo "is_world") rfl)
  obtain ⟨fd4, D4⟩ := c.def_ 4 (d := dOf "is_rule" sIsRule) rfl
  have F4 : Fun K "is_rule" "is_rule" sIsRule _ fd4 := fun_of D4
  have B4 := D4.bindsN (ps := ["thing"]) fun _ _ _ _ _ _ us hl => match us, hl with | [_], _ => rfl
  have M4 : mg "is_rule" = _ := He.glo_ok X G (c.fact 23 (f := .glo "is_rule") rfl)
  obtain ⟨fd5, D5⟩ := c.def_ 5 (d := dOf "has_all" sHasAll) rfl
  have F5 : Fun K "has_all" "has_all" sHasAll _ fd5 := fun_of D5
  have B5 := D5.bindsN (ps := ["names", "wanted"]) fun _ _ _ _ _ _ us hl => match us, hl with | [_, _], _ => rfl
  have M5 : mg "has_all" = _ := He.glo_ok X G (c.fact 24 (f := .glo "has_all") rfl)
  obtain ⟨fd6, D6⟩ := c.def_ 6 (d := dOf "check_program" sCheckProgram) rfl
  have F6 : Fun K "check_program" "check_program" sCheckProgram _ fd6 := fun_of D6
  have B6 := D6.bindsN (ps := ["thing"]) fun _ _ _ _ _ _ us hl => match us, hl with | [_], _ => rfl
  have M6 : mg "check_program" = _ := He.glo_ok X G (c.fact 25 (f := .glo "check_program") rfl)
  obtain ⟨fd7, D7⟩ := c.def_ 7 (d := dOf "_chosen_names" sChosen) rfl
  have F7 : Fun K "_chosen_names" "_chosen_names" sChosen _ fd7 := fun_of D7
  have B7 := D7.bindsN (ps := ["program", "names"]) fun _ _ _ _ _ _ us hl => match us, hl with | [_, _], _ => rfl
  have M7 : mg "_chosen_names" = _ := He.glo_ok X G (c.fact 26 (f := .glo "_chosen_names") rfl)
  obtain ⟨fd8, D8⟩ := c.def_ 8 (d := dOf "_bits_of" sBitsOf) rfl
  have F8 : Fun K "_bits_of" "_bits_of" sBitsOf _ fd8 := fun_of D8
  have B8 := D8.bindsN (ps := ["names"]) fun _ _ _ _ _ _ us hl => match us, hl with | [_], _ => rfl
  have M8 : mg "_bits_of" = _ := He.glo_ok X G (c.fact 27 (f := .glo "_bits_of") rfl)
  obtain ⟨fd9, D9⟩ := c.def_ 9 (d := dOf "_number" sNumber) rfl
  have F9 : Fun K "_number" "_number" sNumber _ fd9 := fun_of D9
  have B9 := D9.bindsN (ps := ["world", "bits"]) fun _ _ _ _ _ _ us hl => match us, hl with | [_, _], _ => rfl
  have M9 : mg "_number" = _ := He.glo_ok X G (c.fact 28 (f := .glo "_number") rfl)
  obtain ⟨fd10, D10⟩ := c.def_ 10 (d := dOf "_numbered" sNumbered) rfl
  have F10 : Fun K "_numbered" "_numbered" sNumbered _ fd10 := fun_of D10
  have B10 := D10.bindsN (ps := ["program", "bits"]) fun _ _ _ _ _ _ us hl => match us, hl with | [_, _], _ => rfl
  have M10 : mg "_numbered" = _ := He.glo_ok X G (c.fact 29 (f := .glo "_numbered") rfl)
  obtain ⟨fd11, D11⟩ := c.def_ 11 (d := dOf "_every_world" sEvery) rfl
  have F11 : Fun K "_every_world" "_every_world" sEvery _ fd11 := fun_of D11
  have B11 := D11.bindsN (ps := ["names"]) fun _ _ _ _ _ _ us hl => match us, hl with | [_], _ => rfl
  have M11 : mg "_every_world" = _ := He.glo_ok X G (c.fact 30 (f := .glo "_every_world") rfl)
  obtain ⟨fd12, D12⟩ := c.def_ 12 (d := dOf "_agree" sAgree) rfl
  have F12 : Fun K "_agree" "_agree" sAgree _ fd12 := fun_of D12
  have B12 := D12.bindsN (ps := ["rows", "here", "there"]) fun _ _ _ _ _ _ us hl => match us, hl with | [_, _, _], _ => rfl
  have M12 : mg "_agree" = _ := He.glo_ok X G (c.fact 31 (f := .glo "_agree") rfl)
  obtain ⟨fd13, D13⟩ := c.def_ 13 (d := dOf "_all_met" sAllMet) rfl
  have F13 : Fun K "_all_met" "_all_met" sAllMet _ fd13 := fun_of D13
  have B13 := D13.bindsN (ps := ["urgent", "here"]) fun _ _ _ _ _ _ us hl => match us, hl with | [_, _], _ => rfl
  have M13 : mg "_all_met" = _ := He.glo_ok X G (c.fact 32 (f := .glo "_all_met") rfl)
  obtain ⟨fd14, D14⟩ := c.def_ 14 (d := dOf "_is_founded" sIsFounded) rfl
  have F14 : Fun K "_is_founded" "_is_founded" sIsFounded _ fd14 := fun_of D14
  have B14 := D14.bindsN (ps := ["rows", "there"]) fun _ _ _ _ _ _ us hl => match us, hl with | [_, _], _ => rfl
  have M14 : mg "_is_founded" = _ := He.glo_ok X G (c.fact 33 (f := .glo "_is_founded") rfl)
  obtain ⟨fd15, D15⟩ := c.def_ 15 (d := dOf "answers" sAnswers) rfl
  have F15 : Fun K "answers" "answers" sAnswers _ fd15 := fun_of D15
  have B15 := D15.bindsN (ps := ["program"]) fun _ _ _ _ _ _ us hl => match us, hl with | [_], _ => rfl
  have M15 : mg "answers" = _ := He.glo_ok X G (c.fact 34 (f := .glo "answers") rfl)
  obtain ⟨fd16, D16⟩ := c.def_ 16 (d := dOf "_mark" sMark) rfl
  have F16 : Fun K "_mark" "_mark" sMark _ fd16 := fun_of D16
  have B16 := D16.bindsN (ps := ["marks", "things", "bit"]) fun _ _ _ _ _ _ us hl => match us, hl with | [_, _, _], _ => rfl
  have M16 : mg "_mark" = _ := He.glo_ok X G (c.fact 35 (f := .glo "_mark") rfl)
  obtain ⟨fd17, D17⟩ := c.def_ 17 (d := dOf "_union" sUnion) rfl
  have F17 : Fun K "_union" "_union" sUnion _ fd17 := fun_of D17
  have B17 := D17.bindsN (ps := ["taken"]) fun _ _ _ _ _ _ us hl => match us, hl with | [_], _ => rfl
  have M17 : mg "_union" = _ := He.glo_ok X G (c.fact 36 (f := .glo "_union") rfl)
  obtain ⟨fd18, D18⟩ := c.def_ 18 (d := dOf "_shared" sShared) rfl
  have F18 : Fun K "_shared" "_shared" sShared _ fd18 := fun_of D18
  have B18 := D18.bindsN (ps := ["taken"]) fun _ _ _ _ _ _ us hl => match us, hl with | [_], _ => rfl
  have M18 : mg "_shared" = _ := He.glo_ok X G (c.fact 37 (f := .glo "_shared") rfl)
  obtain ⟨fd19, D19⟩ := c.def_ 19 (d := dOf "_takes_just" sTakesJust) rfl
  have F19 : Fun K "_takes_just" "_takes_just" sTakesJust _ fd19 := fun_of D19
  have B19 := D19.bindsN (ps := ["taken", "wanted"]) fun _ _ _ _ _ _ us hl => match us, hl with | [_, _], _ => rfl
  have M19 : mg "_takes_just" = _ := He.glo_ok X G (c.fact 38 (f := .glo "_takes_just") rfl)
  obtain ⟨fd20, D20⟩ := c.def_ 20 (d := dOf "_is_least_cure" sLeastCure) rfl
  have F20 : Fun K "_is_least_cure" "_is_least_cure" sLeastCure _ fd20 := fun_of D20
  have B20 := D20.bindsN (ps := ["part", "taken", "every"]) fun _ _ _ _ _ _ us hl => match us, hl with | [_, _, _], _ => rfl
  have M20 : mg "_is_least_cure" = _ := He.glo_ok X G (c.fact 39 (f := .glo "_is_least_cure") rfl)
  obtain ⟨fd21, D21⟩ := c.def_ 21 (d := dOf "_parts" sParts) rfl
  have F21 : Fun K "_parts" "_parts" sParts _ fd21 := fun_of D21
  have B21 := D21.bindsN (ps := ["many"]) fun _ _ _ _ _ _ us hl => match us, hl with | [_], _ => rfl
  have M21 : mg "_parts" = _ := He.glo_ok X G (c.fact 40 (f := .glo "_parts") rfl)
  obtain ⟨fd22, D22⟩ := c.def_ 22 (d := dOf "_picked" sPicked) rfl
  have F22 : Fun K "_picked" "_picked" sPicked _ fd22 := fun_of D22
  have B22 := D22.bindsN (ps := ["program", "part"]) fun _ _ _ _ _ _ us hl => match us, hl with | [_, _], _ => rfl
  have M22 : mg "_picked" = _ := He.glo_ok X G (c.fact 41 (f := .glo "_picked") rfl)
  obtain ⟨fd23, D23⟩ := c.def_ 23 (d := dOf "_taken_worlds" sTaken) rfl
  have F23 : Fun K "_taken_worlds" "_taken_worlds" sTaken _ fd23 := fun_of D23
  have B23 := D23.bindsN (ps := ["program"]) fun _ _ _ _ _ _ us hl => match us, hl with | [_], _ => rfl
  have M23 : mg "_taken_worlds" = _ := He.glo_ok X G (c.fact 42 (f := .glo "_taken_worlds") rfl)
  obtain ⟨fd24, D24⟩ := c.def_ 24 (d := dOf "conflicts" sConflicts) rfl
  have F24 : Fun K "conflicts" "conflicts" sConflicts _ fd24 := fun_of D24
  have B24 := D24.bindsN (ps := ["program"]) fun _ _ _ _ _ _ us hl => match us, hl with | [_], _ => rfl
  have M24 : mg "conflicts" = _ := He.glo_ok X G (c.fact 43 (f := .glo "conflicts") rfl)
  obtain ⟨fd25, D25⟩ := c.def_ 25 (d := dOf "cures" sCures) rfl
  have F25 : Fun K "cures" "cures" sCures _ fd25 := fun_of D25
  have B25 := D25.bindsN (ps := ["program"]) fun _ _ _ _ _ _ us hl => match us, hl with | [_], _ => rfl
  have M25 : mg "cures" = _ := He.glo_ok X G (c.fact 44 (f := .glo "cures") rfl)
  obtain ⟨fd26, D26⟩ := c.def_ 26 (d := dOf "_law_at" sLawAt) rfl
  have F26 : Fun K "_law_at" "_law_at" sLawAt _ fd26 := fun_of D26
  have B26 := D26.bindsN (ps := ["script", "k"]) fun _ _ _ _ _ _ us hl => match us, hl with | [_, _], _ => rfl
  have M26 : mg "_law_at" = _ := He.glo_ok X G (c.fact 45 (f := .glo "_law_at") rfl)
  obtain ⟨fd27, D27⟩ := c.def_ 27 (d := dOf "_law_mixed" sLawMixed) rfl
  have F27 : Fun K "_law_mixed" "_law_mixed" sLawMixed _ fd27 := fun_of D27
  have B27 := D27.bindsN (ps := ["cell", "k"]) fun _ _ _ _ _ _ us hl => match us, hl with | [_, _], _ => rfl
  have M27 : mg "_law_mixed" = _ := He.glo_ok X G (c.fact 46 (f := .glo "_law_mixed") rfl)
  obtain ⟨fd28, D28⟩ := c.def_ 28 (d := dOf "_law_purse" sLawPurse) rfl
  have F28 : Fun K "_law_purse" "_law_purse" sLawPurse _ fd28 := fun_of D28
  have B28 := D28.bindsN (ps := ["script", "at"]) fun _ _ _ _ _ _ us hl => match us, hl with | [_, _], _ => rfl
  have M28 : mg "_law_purse" = _ := He.glo_ok X G (c.fact 47 (f := .glo "_law_purse") rfl)
  obtain ⟨fd29, D29⟩ := c.def_ 29 (d := dOf "_law_draw" sLawDraw) rfl
  have F29 : Fun K "_law_draw" "_law_draw" sLawDraw _ fd29 := fun_of D29
  have B29 := D29.bindsN (ps := ["purse", "out_of"]) fun _ _ _ _ _ _ us hl => match us, hl with | [_, _], _ => rfl
  have M29 : mg "_law_draw" = _ := He.glo_ok X G (c.fact 48 (f := .glo "_law_draw") rfl)
  obtain ⟨fd30, D30⟩ := c.def_ 30 (d := dOf "_law_some" sLawSome) rfl
  have F30 : Fun K "_law_some" "_law_some" sLawSome _ fd30 := fun_of D30
  have B30 := D30.bindsN (ps := ["purse", "names", "most"]) fun _ _ _ _ _ _ us hl => match us, hl with | [_, _, _], _ => rfl
  have M30 : mg "_law_some" = _ := He.glo_ok X G (c.fact 49 (f := .glo "_law_some") rfl)
  obtain ⟨fd31, D31⟩ := c.def_ 31 (d := dOf "_law_rule" sLawRule) rfl
  have F31 : Fun K "_law_rule" "_law_rule" sLawRule _ fd31 := fun_of D31
  have B31 := D31.bindsN (ps := ["purse", "names", "sort"]) fun _ _ _ _ _ _ us hl => match us, hl with | [_, _, _], _ => rfl
  have M31 : mg "_law_rule" = _ := He.glo_ok X G (c.fact 50 (f := .glo "_law_rule") rfl)
  obtain ⟨fd32, D32⟩ := c.def_ 32 (d := dOf "_law_has" sLawHas) rfl
  have F32 : Fun K "_law_has" "_law_has" sLawHas _ fd32 := fun_of D32
  have B32 := D32.bindsN (ps := ["sheet"]) fun _ _ _ _ _ _ us hl => match us, hl with | [_], _ => rfl
  have M32 : mg "_law_has" = _ := He.glo_ok X G (c.fact 51 (f := .glo "_law_has") rfl)
  obtain ⟨fd33, D33⟩ := c.def_ 33 (d := dOf "_law_meets" sLawMeets) rfl
  have F33 : Fun K "_law_meets" "_law_meets" sLawMeets _ fd33 := fun_of D33
  have B33 := D33.bindsN (ps := ["one", "others"]) fun _ _ _ _ _ _ us hl => match us, hl with | [_, _], _ => rfl
  have M33 : mg "_law_meets" = _ := He.glo_ok X G (c.fact 52 (f := .glo "_law_meets") rfl)
  obtain ⟨fd34, D34⟩ := c.def_ 34 (d := dOf "_law_drawn" sLawDrawn) rfl
  have F34 : Fun K "_law_drawn" "_law_drawn" sLawDrawn _ fd34 := fun_of D34
  have B34 := D34.bindsN (ps := ["purse", "letters"]) fun _ _ _ _ _ _ us hl => match us, hl with | [_, _], _ => rfl
  have M34 : mg "_law_drawn" = _ := He.glo_ok X G (c.fact 53 (f := .glo "_law_drawn") rfl)
  obtain ⟨fd35, D35⟩ := c.def_ 35 (d := dOf "_law_least_right" sLeastR) rfl
  have F35 : Fun K "_law_least_right" "_law_least_right" sLeastR _ fd35 := fun_of D35
  have B35 := D35.bindsN (ps := ["lot", "others"]) fun _ _ _ _ _ _ us hl => match us, hl with | [_, _], _ => rfl
  have M35 : mg "_law_least_right" = _ := He.glo_ok X G (c.fact 54 (f := .glo "_law_least_right") rfl)
  obtain ⟨fd36, D36⟩ := c.def_ 36 (d := dOf "law" sLaw) rfl
  have F36 : Fun K "law" "law" sLaw _ fd36 := fun_of D36
  have B36 := D36.bindsN (ps := ["script"]) fun _ _ _ _ _ _ us hl => match us, hl with | [_], _ => rfl
  have M36 : mg "law" = _ := He.glo_ok X G (c.fact 55 (f := .glo "law") rfl)
  obtain ⟨fdInit, DInit⟩ := c.def_ 37 (d := dMInit) rfl
  have FInit : Fun K "__init__" "Program.__init__" sInit _ fdInit := fun_of DInit
  obtain ⟨fdOf, DOf⟩ := c.def_ 38 (d := dMOf) rfl
  have FOf : Fun K "of" "Program.of" sOf _ fdOf := fun_of DOf
  have BOf := DOf.bindsN (ps := ["cls", "rules"]) fun _ _ _ _ _ _ us hl => match us, hl with | [_, _], _ => rfl
  obtain ⟨fdRules, DRules⟩ := c.def_ 39 (d := dMRules) rfl
  have FRules : Fun K "rules" "Program.rules" sRules _ fdRules := fun_of DRules
  have BRules := DRules.bindsN (ps := ["self"]) fun _ _ _ _ _ _ us hl => match us, hl with | [_], _ => rfl
  obtain ⟨fdNames, DNames⟩ := c.def_ 40 (d := dMNames) rfl
  have FNames : Fun K "names" "Program.names" sNames _ fdNames := fun_of DNames
  have BNames := DNames.bindsN (ps := ["self"]) fun _ _ _ _ _ _ us hl => match us, hl with | [_], _ => rfl
  obtain ⟨fdAdd, DAdd⟩ := c.def_ 41 (d := dMAdd) rfl
  have FAdd : Fun K "__add__" "Program.__add__" sAdd _ fdAdd := fun_of DAdd
  have BAdd := DAdd.bindsN (ps := ["self", "other"]) fun _ _ _ _ _ _ us hl => match us, hl with | [_, _], _ => rfl
  obtain ⟨fdSub, DSub⟩ := c.def_ 42 (d := dMSub) rfl
  have FSub : Fun K "__sub__" "Program.__sub__" sSub _ fdSub := fun_of DSub
  have BSub := DSub.bindsN (ps := ["self", "other"]) fun _ _ _ _ _ _ us hl => match us, hl with | [_, _], _ => rfl
  obtain ⟨fdContains, DContains⟩ := c.def_ 43 (d := dMContains) rfl
  have FContains : Fun K "__contains__" "Program.__contains__" sContains _ fdContains := fun_of DContains
  have BContains := DContains.bindsN (ps := ["self", "thing"]) fun _ _ _ _ _ _ us hl => match us, hl with | [_, _], _ => rfl
  obtain ⟨fdPLen, DPLen⟩ := c.def_ 44 (d := dMPLen) rfl
  have FPLen : Fun K "__len__" "Program.__len__" sPLen _ fdPLen := fun_of DPLen
  have BPLen := DPLen.bindsN (ps := ["self"]) fun _ _ _ _ _ _ us hl => match us, hl with | [_], _ => rfl
  obtain ⟨fdPEq, DPEq⟩ := c.def_ 45 (d := dMPEq) rfl
  have FPEq : Fun K "__eq__" "Program.__eq__" sPEq _ fdPEq := fun_of DPEq
  have BPEq := DPEq.bindsN (ps := ["self", "other"]) fun _ _ _ _ _ _ us hl => match us, hl with | [_, _], _ => rfl
  obtain ⟨fdTabInit, DTabInit⟩ := c.def_ 46 (d := dMTabInit) rfl
  have FTabInit : Fun K "__init__" "Table.__init__" sTabInit _ fdTabInit := fun_of DTabInit
  have BTabInit := DTabInit.bindsN (ps := ["self", "chosen"]) fun _ _ _ _ _ _ us hl => match us, hl with | [_, _], _ => rfl
  obtain ⟨fdAgainst, DAgainst⟩ := c.def_ 47 (d := dMAgainst) rfl
  have FAgainst : Fun K "against" "Table.against" sAgainst _ fdAgainst := fun_of DAgainst
  have BAgainst := DAgainst.bindsN (ps := ["self", "row"]) fun _ _ _ _ _ _ us hl => match us, hl with | [_, _], _ => rfl
  obtain ⟨fdUnmet, DUnmet⟩ := c.def_ 48 (d := dMUnmet) rfl
  have FUnmet : Fun K "_unmet" "Table._unmet" sUnmet _ fdUnmet := fun_of DUnmet
  have BUnmet := DUnmet.bindsN (ps := ["self", "row", "asked"]) fun _ _ _ _ _ _ us hl => match us, hl with | [_, _, _], _ => rfl
  obtain ⟨fdENotProg, DENotProg⟩ := c.def_ 49 (d := dMENotProg) rfl
  have EENotProg : FunD K "__init__" "NotAProgram.__init__" (defArgs sENotProg) (defBody sENotProg) (defScope sENotProg) [.non] [] _ fdENotProg := DENotProg
  obtain ⟨dsENotProg, vENotProg, BENotProg⟩ := EENotProg.binds1 (ps := ["self", "thing"]) 2 1 (by simp) rfl fun T kV doc pm an cdv ct us its h1 h2 => match us, its, h1, h2 with | [_, _], [_], _, _ => ⟨_, rfl, rfl⟩
  cases vENotProg
  obtain ⟨fdWorlds, DWorlds⟩ := c.def_ 50 (d := dOfV "worlds" sWorlds (.non)) rfl
  have EWorlds : FunD K "worlds" "worlds" (defArgs sWorlds) (defBody sWorlds) (defScope sWorlds) [.non] [] _ fdWorlds := DWorlds
  have MWorlds : mg "worlds" = _ := He.glo_ok X G (c.fact 56 (f := .glo "worlds") rfl)
  obtain ⟨dsW, vW, BW⟩ := EWorlds.binds1 (ps := ["program", "names"]) 2 1 (by simp) rfl fun T kV doc pm an cdv ct us its h1 h2 => match us, its, h1, h2 with | [_, _], [_], _, _ => ⟨_, rfl, rfl⟩
  cases vW
  obtain ⟨dsW1, vW1, BW1⟩ := EWorlds.binds1 (ps := ["program", "names"]) 1 0 (by simp) rfl fun T kV doc pm an cdv ct us its h1 h2 => match us, its, h1, h2 with | [_], [_], _, _ => ⟨_, rfl, rfl⟩
  cases vW1 with
  | cons rW tW =>
  cases tW
  cases rW
  have mProgram : mg "Program" = _ := He.glo_ok X G (c.fact 16 (f := .glo "Program") rfl)
  have mNotAProgram : mg "NotAProgram" = _ := He.glo_ok X G (c.fact 17 (f := .glo "NotAProgram") rfl)
  have mTable : mg "Table" = _ := He.glo_ok X G (c.fact 18 (f := .glo "Table") rfl)
  have T : Bl mg := ⟨He.free_ok X G (c.fact 0 (f := .free "len") rfl), He.free_ok X G (c.fact 1 (f := .free "isinstance") rfl), He.free_ok X G (c.fact 2 (f := .free "all") rfl), He.free_ok X G (c.fact 3 (f := .free "any") rfl), He.free_ok X G (c.fact 4 (f := .free "tuple") rfl), He.free_ok X G (c.fact 5 (f := .free "list") rfl), He.free_ok X G (c.fact 6 (f := .free "sorted") rfl), He.free_ok X G (c.fact 7 (f := .free "set") rfl), He.free_ok X G (c.fact 8 (f := .free "str") rfl), He.free_ok X G (c.fact 9 (f := .free "int") rfl), He.free_ok X G (c.fact 10 (f := .free "max") rfl), He.free_ok X G (c.fact 11 (f := .free "min") rfl), He.free_ok X G (c.fact 12 (f := .free "range") rfl), He.free_ok X G (c.fact 13 (f := .free "enumerate") rfl)⟩
  have Ts := He.free_ok X G (c.fact 14 (f := .free "sum") rfl)
  have mL := He.str_ok X G (c.fact 15 (f := .str "LETTERS" lettersS) rfl)
  have cP := He.cls_ok (c.fact 57 (f := .cls "Program") rfl)
  have nR := He.noat_ok (c.fact 58 (f := .noat "Program" "_rules") rfl)
  have MK := He.mkr_ok (c.fact 59 (f := .mkr "Program") rfl)
  have cT := He.cls_ok (c.fact 60 (f := .cls "Table") rfl)
  have MT := He.mkr_ok (c.fact 61 (f := .mkr "Table") rfl)
  have NT : NoTab K (He.ga K "Table") := ⟨cT, He.noat_ok (c.fact 64 (f := .noat "Table" "every") rfl), He.noat_ok (c.fact 65 (f := .noat "Table" "_here") rfl), He.noat_ok (c.fact 66 (f := .noat "Table" "_there") rfl), He.noat_ok (c.fact 67 (f := .noat "Table" "_own") rfl), He.noat_ok (c.fact 68 (f := .noat "Table" "_around") rfl)⟩
  have meA := He.meth_ok (c.fact 62 (f := .meth "Table" "against") rfl)
  have meU := He.meth_ok (c.fact 63 (f := .meth "Table" "_unmet") rfl)
  have noNotAProgram := He.noat_ok (c.fact 69 (f := .noat "NotAProgram" "thing") rfl)
  have ce' : (exL K (He.ga K "Program")).all id = true := ce
  have PG := pgC_of (of_decide_eq_true (exL_at ce' 0 rfl)) mProgram cP
  obtain ⟨rd1, rd2⟩ := (of_decide_eq_true (exL_at ce' 1 rfl))
  have CR : CRead K (He.ga K "Program") (.type "type") := ⟨rd1, rd2⟩
  have PR := propP_ok (of_decide_eq_true (exL_at ce' 4 rfl)) (exL_at ce' 5 rfl)
  have PN := propP_ok (of_decide_eq_true (exL_at ce' 6 rfl)) (exL_at ce' 7 rfl)
  have CO := He5.cmet_of (exL_at ce' 8 rfl) (exL_at ce' 9 rfl)
  have heq := (of_decide_eq_true (exL_at ce' 10 rfl))
  have jeq := (exL_at ce' 11 rfl)
  have hadd := (of_decide_eq_true (exL_at ce' 12 rfl))
  have jadd := (exL_at ce' 13 rfl)
  have hsub := (of_decide_eq_true (exL_at ce' 14 rfl))
  have jsub := (exL_at ce' 15 rfl)
  have hlen := (of_decide_eq_true (exL_at ce' 16 rfl))
  have jlen := (exL_at ce' 17 rfl)
  have hcontains := (of_decide_eq_true (exL_at ce' 18 rfl))
  have jcontains := (exL_at ce' 19 rfl)
  have sf := (exL_at ce' 20 rfl)
  obtain ⟨iNotAProgram1, iNotAProgram2⟩ := (of_decide_eq_true (exL_at ce' 3 rfl))
  have e := hfa_.symm.trans M36
  cases e
  refine ⟨fd36, fun s v => ?_, fun base _ _ => ?_⟩
  · exact FunD.bindsA (ps := ["script"]) D36 (fun _ _ _ _ _ _ us hl => match us, hl with | [_], _ => rfl) s [v] rfl
  have gIsName : ∀ k, FnOk P w K mg base CX0 (k + 1) _ fd0 ["thing"] (spIsName K) := fun k => ok_isName (k := k) F0 T mL
  have gAre : ∀ k, FnOk P w K mg base CX0 (k + 2) _ fd1 ["thing"] (spAreNames K) := fun k => ok_areNames (k := k + 1) F1 T (gIsName k) B0 F0.kp M0
  have gSet : ∀ k, FnOk P w K mg base CX0 (k + 1) _ fd2 ["names"] (spSetOf K) := fun k => ok_setOf (k := k) F2 T
  have gIsW : ∀ k, FnOk P w K mg base CX0 (k + 3) _ fd3 ["thing"] (spIsWorld K) := fun k => ok_isWorld (k := k + 2) F3 T (gAre k) B1 F1.kp M1 (gSet (k + 1)) B2 F2.kp M2
  have gIsR : ∀ k, FnOk P w K mg base CX0 (k + 4) _ fd4 ["thing"] (spIsRule K) := fun k => ok_isRule (k := k + 3) F4 T (gIsW k) B3 F3.kp M3
  have gHas : ∀ k, FnOk P w K mg base CX0 (k + 1) _ fd5 ["names", "wanted"] (spHasAll K) := fun k => ok_hasAll (k := k) F5 T
  have gBits : ∀ k, FnOk P w K mg base CX0 (k + 1) _ fd8 ["names"] (spBitsOf K) := fun k => ok_bitsOf (k := k) F8 T
  have gNum : ∀ k, FnOk P w K mg base CX0 (k + 1) _ fd9 ["world", "bits"] (spNumber K) := fun k => ok_number (k := k) F9 T Ts
  have gEvery : ∀ k, FnOk P w K mg base CX0 (k + 1) _ fd11 ["names"] (spEvery K) := fun k => ok_every (k := k) F11
  have gEveryT : ∀ k, FnOk P w K mg base CX0 (k + 1) _ fd11 ["names"] (spEveryT K) := fun k => ok_everyT (k := k) F11
  have gAgree : ∀ k, FnOk P w K mg base CX0 (k + 1) _ fd12 ["rows", "here", "there"] (spAgree K) := fun k => ok_agree (k := k) F12
  have gAllMet : ∀ k, FnOk P w K mg base CX0 (k + 1) _ fd13 ["urgent", "here"] (spAllMet K) := fun k => ok_allMet (k := k) F13
  have gFounded : ∀ k, FnOk P w K mg base CX0 (k + 2) _ fd14 ["rows", "there"] (spIsFounded K) := fun k => ok_isFounded (k := k + 1) F14 (gAgree k) B12 F12.kp M12 (gAllMet k) B13 F13.kp M13
  have gMarkS : ∀ k, FnOk P w K mg base CX0 (k + 1) _ fd16 ["marks", "things", "bit"] (spMarkS K) := fun k => ok_markS (k := k) F16
  have gMarkT : ∀ k, FnOk P w K mg base CX0 (k + 1) _ fd16 ["marks", "things", "bit"] (spMarkT K) := fun k => ok_markT (k := k) F16
  have gUnion : ∀ k, FnOk P w K mg base CX0 (k + 1) _ fd17 ["taken"] (spUnion K) := fun k => ok_union (k := k) F17
  have gShared : ∀ k, FnOk P w K mg base CX0 (k + 1) _ fd18 ["taken"] (spShared K) := fun k => ok_shared (k := k) F18
  have gTakesJust : ∀ k, FnOk P w K mg base CX0 (k + 2) _ fd19 ["taken", "wanted"] (spTakesJust K) := fun k => ok_takesJust (k := k + 1) F19 T (gShared k) B18 F18.kp M18 (gUnion k) B17 F17.kp M17
  have gLeastCure : ∀ k, FnOk P w K mg base CX0 (k + 2) _ fd20 ["part", "taken", "every"] (spLeastCure K) := fun k => ok_leastCure (k := k + 1) F20 T (gUnion k) B17 F17.kp M17
  have gParts : ∀ k, FnOk P w K mg base CX0 (k + 1) _ fd21 ["many"] (spParts) := fun k => ok_parts (k := k) F21 T
  have xNotAProgram : ∀ k, ErrT P w K mg base (k + 1) "NotAProgram" "thing" (He.ga K "NotAProgram") := fun k => ⟨oexB_ok (exL_at ce' 2 rfl), ⟨_, _, iNotAProgram1, iNotAProgram2, ok_eNotProg (k := k) EENotProg (oexB_ok (exL_at ce' 2 rfl)) noNotAProgram, BENotProg⟩, mNotAProgram⟩
  have gInit : ∀ k, FnR P w K mg base CX0 (k + 5) _ (spInit K (He.ga K "Program")) := fun k => by
    obtain ⟨oc, od, kV, doc, pm, an, cdv, ct, osl, e, lk, hcd⟩ := FInit.ex
    subst e
    exact ok_init (k := k + 4) lk hcd T cP nR (gIsR k) B4 F4.kp M4
  have gOfF : ∀ k, FnOk P w K mg base CX0 (k + 7) _ fdOf ["cls", "rules"] (spOf K (He.ga K "Program")) := fun k => ok_of (k := k + 5) FOf MK (gInit k)
  have gOf : ∀ k, FnR P w K mg base CX0 (k + 7) _ (spOf K (He.ga K "Program")) := fun k => fnr_of (gOfF k) BOf
  have gRules : ∀ k, FnOk P w K mg base CX0 (k + 1) _ fdRules ["self"] (spRules K (He.ga K "Program")) := fun k => ok_rules (k := k) FRules cP nR
  have gNames : ∀ k, FnOk P w K mg base CX0 (k + 1) _ fdNames ["self"] (spNames K (He.ga K "Program")) := fun k => ok_names (k := k) FNames T cP nR
  have gEq : ∀ k, FnR P w K mg base CX0 (k + 1) _ (spPEqG K (He.ga K "Program")) := fun k => fnr_of (ok_pEqG (k := k) FPEq T PG nR) BPEq
  have gLen : ∀ k, FnR P w K mg base CX0 (k + 1) _ (spPLen K (He.ga K "Program")) := fun k => fnr_of (ok_pLen (k := k) FPLen T cP nR) BPLen
  have gCon : ∀ k, FnR P w K mg base CX0 (k + 1) _ (spContains K (He.ga K "Program")) := fun k => fnr_of (ok_contains (k := k) FContains cP nR) BContains
  have gAdd : ∀ k, FnR P w K mg base (L2.CX P w) (k + 7) _ (spAdd K (He.ga K "Program") (He.ga K "NotAProgram")) := fun k => fnr_of (ok_add (k := k + 5) FAdd T PG nR (xNotAProgram (k + 4)) MK (gInit k)) BAdd
  have gSub : ∀ k, FnR P w K mg base (L2.CX P w) (k + 7) _ (spSub K (He.ga K "Program") (He.ga K "NotAProgram")) := fun k => fnr_of (ok_sub (k := k + 5) FSub T PG nR (xNotAProgram (k + 4)) MK (gInit k)) BSub
  have gTab : ∀ k, FnR P w K mg base CX0 (k + 2) _ (spTabInit K (He.ga K "Table")) := fun k => fnr_of (ok_tabInit (k := k + 1) FTabInit T NT (gMarkS k) (gMarkT k) B16 F16.kp M16) BTabInit
  have gUnmet : ∀ k, FnOk P w K mg base CX0 (k + 1) _ fdUnmet ["self", "row", "asked"] (spUnmet K (He.ga K "Table")) := fun k => ok_unmet (k := k) FUnmet NT
  have gAgainst : ∀ k, FnOk P w K mg base CX0 (k + 2) _ fdAgainst ["self", "row"] (spAgainst K (He.ga K "Table")) := fun k => ok_against (k := k + 1) FAgainst NT meU (gUnmet k) BUnmet
  have gCP : ∀ k, FnOk P w K mg base (L2.CX P w) (k + 3) _ fd6 ["thing"] (spCheckProgram K (He.ga K "Program") (He.ga K "NotAProgram")) := fun k => ok_checkProgram (k := k + 1) F6 T PG (xNotAProgram k)
  have gChosen : ∀ k, FnOk P w K mg base CX0 (k + 5) _ fd7 ["program", "names"] (spChosen K (He.ga K "Program")) := fun k => ok_chosen (k := k + 3) F7 cP PN (gCP (k + 1)) B6 F6.kp M6 (gNames (k + 2)) BNames (gIsW (k + 1)) B3 F3.kp M3 (gHas (k + 3)) B5 F5.kp M5
  have gChosenM : ∀ k, FnOk P w K mg base CX0 (k + 5) _ fd7 ["program", "names"] (spChosenM K (He.ga K "Program")) := fun k => ok_chosenM (gChosen k)
  have gNumd : ∀ k, FnOk P w K mg base CX0 (k + 3) _ fd10 ["program", "bits"] (spNumbered K (He.ga K "Program")) := fun k => ok_numbered (k := k + 1) F10 T cP PR (gNum (k + 1)) B9 F9.kp M9 (gRules k) BRules
  have gAnswers : ∀ k, FnOk P w K mg base (L2.CX P w) (k + 5) _ fd15 ["program"] (spAnswers K (He.ga K "Program") (He.ga K "NotAProgram")) := fun k => ok_answers (k := k + 3) F15 cP PN (gCP (k + 1)) B6 F6.kp M6 (gNames (k + 2)) BNames (gBits (k + 3)) B8 F8.kp M8 (gNumd (k + 1)) B10 F10.kp M10 (gEvery (k + 3)) B11 F11.kp M11 (gFounded (k + 2)) B14 F14.kp M14 (gNum (k + 3)) B9 F9.kp M9
  have gPicked : ∀ k, FnOk P w K mg base CX0 (k + 7) _ fd22 ["program", "part"] (spPicked K (He.ga K "Program")) := fun k => ok_picked (k := k + 4) F22 cP PR MK (gInit k) mProgram (gRules (k + 3)) BRules
  have gWorlds : ∀ k, CFn P w K mg base (k + 6) _ fdWorlds ["program", "names"] (spWorlds K (He.ga K "Program")) := fun k => ok_worlds (k := k + 5) EWorlds (gChosenM k) B7 F7.kp M7 (gBits (k + 4)) B8 F8.kp M8 (gNumd (k + 2)) B10 F10.kp M10 (gEveryT (k + 4)) B11 F11.kp M11 (gNum (k + 4)) B9 F9.kp M9 (gAgree (k + 4)) B12 F12.kp M12
  have gTaken : ∀ k, FnOk P w K mg base CX0 (k + 10) _ fd23 ["program"] (spTaken K (He.ga K "Program")) := fun k => ok_taken (k := k + 6) F23 T cP NT PN PR MK (gInit (k + 3)) mProgram MT (gTab (k + 6)) mTable (gNames (k + 7)) BNames (gRules (k + 7)) BRules (gWorlds k) BW EWorlds.kp MWorlds meA (gAgainst (k + 7)) BAgainst
  have gConflicts : ∀ k, FnOk P w K mg base CX0 (k + 11) _ fd24 ["program"] (spConf K (He.ga K "Program") confP) := fun k => ok_conflicts (k := k + 9) F24 T hlen jlen (gLen (k + 8)) (gCP (k + 7)) B6 F6.kp M6 (gTaken k) B23 F23.kp M23 (gParts (k + 9)) B21 F21.kp M21 (gTakesJust (k + 8)) B19 F19.kp M19 (gPicked (k + 3)) B22 F22.kp M22
  have gCures : ∀ k, FnOk P w K mg base CX0 (k + 11) _ fd25 ["program"] (spConf K (He.ga K "Program") cureP) := fun k => ok_cures (k := k + 9) F25 T hlen jlen (gLen (k + 8)) (gCP (k + 7)) B6 F6.kp M6 (gTaken k) B23 F23.kp M23 (gParts (k + 9)) B21 F21.kp M21 (gLeastCure (k + 8)) B20 F20.kp M20 (gPicked (k + 3)) B22 F22.kp M22
  have gAt : ∀ k, FnOk P w K mg base CX0 (k + 1) _ fd26 ["script", "k"] (spLawAt K) := fun k => ok_lawAt (k := k) F26 T
  have gMix : ∀ k, FnOk P w K mg base CX0 (k + 1) _ fd27 ["cell", "k"] (spLawMixed) := fun k => ok_lawMixed (k := k) F27 T
  have gPur : ∀ k, FnOk P w K mg base CX0 (k + 2) _ fd28 ["script", "at"] (spLawPurse K) := fun k => ok_lawPurse (k := k + 1) F28 T (gAt k) B26 F26.kp M26
  have gDraw : ∀ k, FnOk P w K mg base CX0 (k + 2) _ fd29 ["purse", "out_of"] (spLawDraw) := fun k => ok_lawDraw (k := k + 1) F29 T (gMix k) B27 F27.kp M27
  have gSome : ∀ k, FnOk P w K mg base CX0 (k + 3) _ fd30 ["purse", "names", "most"] (spLawSome K) := fun k => ok_lawSome (k := k + 2) F30 T (gDraw k) B29 F29.kp M29
  have gRule : ∀ k, FnOk P w K mg base CX0 (k + 4) _ fd31 ["purse", "names", "sort"] (spLawRule K) := fun k => ok_lawRule (k := k + 3) F31 T (gDraw (k + 1)) B29 F29.kp M29 (gSome k) B30 F30.kp M30
  have gDrawn : ∀ k, FnOk P w K mg base CX0 (k + 5) _ fd34 ["purse", "letters"] (spLawDrawn K) := fun k => ok_lawDrawn (k := k + 4) F34 T (gDraw (k + 2)) B29 F29.kp M29 (gRule k) B31 F31.kp M31
  have gLHas : ∀ k, FnOk P w K mg base CX0 (k + 8) _ fd32 ["sheet"] (spLawHas K (He.ga K "Program")) := fun k => ok_lawHas (k := k + 6) F32 T (gWorlds k) BW1 EWorlds.kp MWorlds
  have gMeets : ∀ k, FnOk P w K mg base CX0 (k + 3) _ fd33 ["one", "others"] (spLawMeets K (He.ga K "Program")) := fun k => ok_lawMeets (k := k + 1) F33 cP PR (gRules k) BRules hcontains jcontains (gCon k)
  have gLeast : ∀ k, FnOk P w K mg base CX0 (k + 8) _ fd35 ["lot", "others"] (spLeastR K (He.ga K "Program")) := fun k => ok_leastR (k := k + 6) F35 cP PR MK (gInit (k + 1)) mProgram (gRules (k + 5)) BRules sf hsub jsub (gSub k) (gMeets (k + 4)) B33 F33.kp M33
  exact ok_law (k := 10) F36 T mProgram cP CR CO (gOf 4) MK (gInit 5) PR (gRules 9) BRules heq jeq (gEq 9) sf hsub jsub (gSub 4) hadd jadd (gAdd 4) (gPur 9) B28 F28.kp M28 (gDraw 9) B29 F29.kp M29 (gDrawn 6) B34 F34.kp M34 (gConflicts 0) B24 F24.kp M24 (gCures 0) B25 F25.kp M25 (gLHas 3) B32 F32.kp M32 (gAnswers 6) B15 F15.kp M15 (gLeast 3) B35 F35.kp M35
end Rw
open PySem PySem.W PySem.Calls PyProof.Rows
theorem PySem.Challenge.cw_ruleworlds_k76_whole_conflicts_and_cures_holds : PySem.Challenge.rw_ruleworlds_k76_whole_conflicts_and_cures.Holds := by
  w_on; o_law
  refine HandSHeadRun.head_any (r := OpenLaw.row PySem.Challenge.rw_ruleworlds_k76_whole_conflicts_and_cures) (q := view (OpenLaw.row PySem.Challenge.rw_ruleworlds_k76_whole_conflicts_and_cures).prog [58]) (H := Rw.hH) (ob := Rw.hob) (M := 9000) (loose := Rw.hloose) (d := HandSHeadRun.topDef (OpenLaw.row PySem.Challenge.rw_ruleworlds_k76_whole_conflicts_and_cures).prog 58) (kwd := []) Rw.hob_eq
    (by kernel_rfl) (fun s => by kernel_rfl) Rw.hrun (by kernel_rfl) (by kernel_rfl) (by kernel_rfl) (by rfl) (by first | assumption | decide +kernel) (by decide +kernel) ⟨rfl, rfl, rfl, rfl, rfl, by decide +kernel⟩ ?hw ?hc
  case hw => w_witness2
  case hc =>
    refine L2.walk_ofE (l := PySem.Challenge.rw_ruleworlds_k76_whole_conflicts_and_cures) (n := 63) (k := 12) (x := "script") (CX := L2.CX0) rfl (by decide) (by kernel_rfl) ⟨rfl, by decide, by decide⟩ ?F (fun _ _ _ _ z => z)
    intro w mg fa h Y G hmg0
    obtain ⟨K, KX, c, ce⟩ := Y
    have hmg : mg ("law" : PySem.Str) = some (.ref fa) := by
      have e : (HandSHeadRun.topDef (OpenLaw.row PySem.Challenge.rw_ruleworlds_k76_whole_conflicts_and_cures).prog 58).name = ("law" : PySem.Str) := by kernel_rfl
      rw [← e]
      exact hmg0
    obtain ⟨fd, hb, hF⟩ := Rw.hfacts (P := (PySem.Challenge.rw_ruleworlds_k76_whole_conflicts_and_cures).prog) (w := w) KX G hmg c ce
    exact ⟨K, fd, Rw.spLaw K, KX, hb, fun H a ns hl _ hS => ⟨a, ns, rfl, hS, hl, fun _ => rfl⟩, hF⟩
