import PyProof.Rows.All
import Wide.All
import OpenK.AllK
import Wide.FinOn
import HandS.TupSets
import KE.KeyNested
import KE.KDictKeyed
import KE.SortData
import HandS.SetTxt0
import KE.DataCmp
import HandS.ForMost
import HandS.DictComp
import KE.GoesComp
import KE.GoesMore
import HandS.IsInst
import HandS.Defaults
import HandS.TupAny
import HandS.Deep
import HandS.Style
import HandS.Star
import HandS.ClsMeth
import HandS.Property
import HandS.CallLocal
import HandS.SlotsOwn
import HandS.Exc
import HandS.ExcInit
import HandS.ExcValue
import HandS.ExcIs
import HandS.ExcField
import KE.KStateDown
import HandS.Head0
import HandS.Head1
import HandS.Head2
import HandS.HeadEnd
import HandS.HeadHook1
import HandS.HeadHook2
import HandS.HeadHook3
import HandS.HeadHook4
import HandS.HeadNt
import PySem.Challenge.RW_ruleworlds_k26_programs_made_of_pairs
import HandS.SetBool
import HandS.WordsExc
import KE.KBits
import HandS.Walk
import KE.KRevSl
import HandS.GenList
import HandS.ExcOwn
set_option Elab.async false
set_option linter.all false
set_option maxRecDepth 100000
set_option maxHeartbeats 0
namespace Rw
open PySem PySem.Spec PyProof.Rows L2 ClX
/-! ### the head, run -/
def hookY (n : Nat) (fa : List He.Fa) (fn : List He5.DefA) (ex : PySem.W.Frag → Bool) : PySem.W.Hook where
  α := He.AlD × Bool
  obs s := (He5.obsAG n fa fn s.heap.get?, ex (He.frG s.heap.get? (He5.asA s.heap.get? n)))
  val _ := (He5.valA fn, true)
  says _ h := ∃ K : PySem.W.Frag, K.In h ∧ He5.SaysA fa fn K ∧ ex K = true
  of _ s e := ⟨_, He.frG_in, (Prod.mk.inj e).1, (Prod.mk.inj e).2⟩
  keeps _ _ _ | ⟨K, X, a, b⟩, k => ⟨K, fun c o e => k _ _ (X c o e), a, b⟩
def obY (n : Nat) (fa : List He.Fa) (fn : List He5.DefA) (ex : PySem.W.Frag → Bool) (g : Addr → Option Obj) : He.AlD × Bool := (He5.obsAG n fa fn g, ex (He.frG g (He5.asA g n)))
theorem obY_eq {n : Nat} {fa : List He.Fa} {fn : List He5.DefA} {ex : PySem.W.Frag → Bool} {g : Addr → Option Obj} {s : Shared} (h : ∀ a, g a = s.heap.get? a) : obY n fa fn ex g = (hookY n fa fn ex).obs s := by
  have e : g = s.heap.get? := funext h
  subst e
  rfl
def clsB (K : PySem.W.Frag) (C : Addr) (f : List Value → Addr → Bool → Bool) (nid : String) : Bool :=
  match K.lookup C with
  | some ⟨.type t, _, .cls cd, sl⟩ => decide (t = "type" ∧ cd.hasDel = false) && (decide (cd.mro = .ref C :: cd.mro.tail) && (f cd.mro.tail cd.ns cd.hasDict && (match sl with | ⟨[_, _, _, _, some (.builtin i), _]⟩ => decide (i = nid) | _ => false)))
  | _ => false
def oexB (K : PySem.W.Frag) (C : Addr) : Bool := clsB K C (fun bm _ hd => hd && HandSPX.refsVE bm) "ValueError.__new__" && (decide (PySem.W.findIn K (.ref C) "__setattr__" = some (some (.builtin "object.__setattr__"))) && (decide (PySem.W.subIn K (.ref C) (.type "BaseException") = some true) && (decide (PySem.W.typeIn K (.ref C) = some (.type "type")) && PySem.W.keepIn K (.ref C))))
def excP (K : PySem.W.Frag) (D : Addr) : Prop := PySem.W.findIn K (.ref D) "__getattribute__" = some (some (.builtin "BaseException.__getattribute__")) ∧ PySem.W.findIn K (.ref D) "__getattr__" = some none ∧ PySem.W.subIn K (.ref D) (.type "BaseException") = some true ∧ PySem.W.hasDictIn K D = true ∧
  PySem.W.findIn K (.ref D) "__class__" = some (some (.builtin "object.__class__")) ∧ PySem.W.specialIn K (.builtin "object.__class__") "__get__" = some (some (.builtin "getset_descriptor.__get__")) ∧ PySem.W.takesIn K (.builtin "object.__class__") = some true ∧ PySem.W.mroIn K D (.type "object") = some true
instance (K : PySem.W.Frag) (D : Addr) : Decidable (excP K D) := by unfold excP; infer_instance
def initP (K : PySem.W.Frag) (C : Addr) : Prop := PySem.W.findIn K (.ref C) "__init__" = some (some (.ref (He.ma K C "__init__"))) ∧ PySem.W.typeIn K (.ref (He.ma K C "__init__")) = some (.type "function")
instance (K : PySem.W.Frag) (D : Addr) : Decidable (initP K D) := by unfold initP; infer_instance
def propP (K : PySem.W.Frag) (C : Addr) (f : Str) : Prop := PySem.W.findIn K (.ref C) f = some (some (.ref (He.ma K C f))) ∧ PySem.W.specialIn K (.ref (He.ma K C f)) "__get__" = some (some (.builtin "property.__get__")) ∧ PySem.W.takesIn K (.ref (He.ma K C f)) = some true
instance (K : PySem.W.Frag) (D : Addr) (f : Str) : Decidable (propP K D f) := by unfold propP; infer_instance
def recB (K : PySem.W.Frag) (p : Addr) (T : String) : Bool := match PySem.W.recIn K p T with | some (.ref _ :: _) => true | _ => false
def anyS : Str := ("any" : Str)
def plainS : Str := ("plain" : Str)
def singleS : Str := ("single" : Str)
def lettersS : Str := ("abcdefghijklmnopqrstuvwxyz" : Str)
def topS (i : Nat) : Stmt := PySem.Challenge.pw_ruleworlds_k26_programs_made_of_pairs.main.body.getD i (.Pass ⟨0, 0, 0, 0⟩)
abbrev sIsName : Stmt := topS 13
abbrev sIsWorld : Stmt := topS 14
abbrev sIsRule : Stmt := topS 15
abbrev sAreNames : Stmt := topS 17
abbrev sSetOf : Stmt := topS 18
abbrev sInit : Stmt := inClass (topS 16) 0
abbrev sOf : Stmt := inClass (topS 16) 1
abbrev sRules : Stmt := inClass (topS 16) 5
abbrev sNames : Stmt := inClass (topS 16) 6
abbrev sHasAll : Stmt := topS 26
abbrev sENotProg : Stmt := inClass (topS 4) 0
abbrev sEWorld : Stmt := inClass (topS 5) 0
abbrev sCheckProgram : Stmt := topS 28
abbrev sCheckWorld : Stmt := topS 29
abbrev sBitsOf : Stmt := topS 34
abbrev sNumber : Stmt := topS 35
abbrev sNumbered : Stmt := topS 36
abbrev sAgree : Stmt := topS 38
abbrev sEvery : Stmt := topS 37
abbrev sChosen : Stmt := topS 33
abbrev sWorlds : Stmt := topS 32
abbrev sBarred : Stmt := topS 41
abbrev sAsked : Stmt := topS 43
abbrev sWhyNot : Stmt := topS 44
abbrev sTotal : Stmt := topS 45
abbrev sUpward : Stmt := topS 46
abbrev sMeeting : Stmt := topS 47
abbrev sBelow : Stmt := topS 49
abbrev sCommon : Stmt := topS 50
abbrev sIsPair : Stmt := topS 25
abbrev sCheckKind : Stmt := topS 30
abbrev sWithout : Stmt := topS 27
abbrev sHeadsA : Stmt := topS 48
abbrev sPO : Stmt := topS 42
abbrev sLawAt : Stmt := topS 52
abbrev sLawMixed : Stmt := topS 53
abbrev sLawPurse : Stmt := topS 54
abbrev sLawDraw : Stmt := topS 55
abbrev sLawParts : Stmt := topS 58
abbrev sLawIn : Stmt := topS 61
abbrev sLawMeet : Stmt := topS 62
abbrev sLawWhy : Stmt := topS 63
abbrev sLawClosed : Stmt := topS 64
abbrev sLawDrawn : Stmt := topS 65
abbrev sLawStands : Stmt := topS 56
abbrev sLawHolds : Stmt := topS 57
abbrev sLawPairs : Stmt := topS 59
abbrev sKindRight : Stmt := topS 66
abbrev sMadeRight : Stmt := topS 67
abbrev sPEq : Stmt := inClass (topS 16) 12
abbrev sLaw : Stmt := topS 68
abbrev sEBarred : Stmt := inClass (topS 9) 0
/-! ### what the top has written -/
def dOf (x : Str) (st : Stmt) : He5.DefA := ⟨fun K => He.ga K x, x, x, defArgs st, defBody st, defScope st, [], []⟩
def dOfV (x : Str) (st : Stmt) (v : He.Dv) : He5.DefA := ⟨fun K => He.ga K x, x, x, defArgs st, defBody st, defScope st, [v], []⟩
def dMInit : He5.DefA := ⟨fun K => He.ma K (He.ga K "Program") "__init__", "__init__", "Program.__init__", defArgs sInit, defBody sInit, defScope sInit, [], []⟩
def dMRules : He5.DefA := ⟨fun K => He5.wf K (He.ga K "Program") "property" "rules", "rules", "Program.rules", defArgs sRules, defBody sRules, defScope sRules, [], []⟩
def dMNames : He5.DefA := ⟨fun K => He5.wf K (He.ga K "Program") "property" "names", "names", "Program.names", defArgs sNames, defBody sNames, defScope sNames, [], []⟩
def dMPEq : He5.DefA := ⟨fun K => He.ma K (He.ga K "Program") "__eq__", "__eq__", "Program.__eq__", defArgs sPEq, defBody sPEq, defScope sPEq, [], []⟩
def dMENotProg : He5.DefA := ⟨fun K => He.ma K (He.ga K "NotAProgram") "__init__", "__init__", "NotAProgram.__init__", defArgs sENotProg, defBody sENotProg, defScope sENotProg, [.non], []⟩
def dMEBarred : He5.DefA := ⟨fun K => He.ma K (He.ga K "Barred") "__init__", "__init__", "Barred.__init__", defArgs sEBarred, defBody sEBarred, defScope sEBarred, [.non], []⟩
def hfn1 : List He5.DefA := [dOf "is_name" sIsName, dOf "_are_names" sAreNames, dOf "_set_of" sSetOf, dOf "is_world" sIsWorld, dOf "is_rule" sIsRule, dOf "is_pair" sIsPair, dOf "has_all" sHasAll, dOf "without" sWithout, dOf "check_program" sCheckProgram, dOf "check_world" sCheckWorld, dOf "check_kind" sCheckKind, dOf "_chosen_names" sChosen, dOf "_bits_of" sBitsOf, dOf "_number" sNumber, dOf "_numbered" sNumbered, dOf "_every_world" sEvery, dOf "_agree" sAgree, dOf "_check_asked" sAsked, dOf "_why_not" sWhyNot, dOf "_not_total" sTotal, dOf "_not_upward" sUpward, dOf "_not_meeting" sMeeting, dOf "_heads_against" sHeadsA, dOf "_worlds_below" sBelow, dOf "_common" sCommon, dOf "_law_at" sLawAt, dOf "_law_mixed" sLawMixed, dOf "_law_purse" sLawPurse, dOf "_law_draw" sLawDraw, dOf "_law_stands" sLawStands, dOf "_law_holds" sLawHolds, dOf "_law_parts" sLawParts, dOf "_law_pairs" sLawPairs, dOf "_law_in" sLawIn, dOf "_law_meet" sLawMeet, dOf "_law_why" sLawWhy, dOf "_law_closed" sLawClosed, dOf "_law_drawn" sLawDrawn, dOf "_law_kind_right" sKindRight, dOf "_law_made_right" sMadeRight, dOf "law" sLaw]
def hfn2 : List He5.DefA := [dMInit, dMRules, dMNames, dMPEq, dMENotProg, dMEBarred]
def hfn3 : List He5.DefA := [dOfV "worlds" sWorlds (.non), dOfV "barred" sBarred (.str anyS), dOfV "program_of" sPO (.str anyS)]
def hfn : List He5.DefA := hfn1 ++ hfn2 ++ hfn3
def hfa1 : List He.Fa := [.free "len", .free "isinstance", .free "all", .free "any", .free "tuple", .free "list", .free "sorted", .free "set", .free "str", .free "int", .free "max", .free "min", .free "range", .free "enumerate", .free "sum", .str "LETTERS" lettersS, .glo "KINDS", .glo "Program", .glo "NotAProgram", .glo "Barred", .glo "is_name", .glo "_are_names", .glo "_set_of", .glo "is_world", .glo "is_rule"]
def hfa2 : List He.Fa := [.glo "is_pair", .glo "has_all", .glo "without", .glo "check_program", .glo "check_world", .glo "check_kind", .glo "_chosen_names", .glo "_bits_of", .glo "_number", .glo "_numbered", .glo "_every_world", .glo "_agree", .glo "_check_asked", .glo "_why_not", .glo "_not_total", .glo "_not_upward", .glo "_not_meeting", .glo "_heads_against", .glo "_worlds_below", .glo "_common", .glo "_law_at", .glo "_law_mixed", .glo "_law_purse", .glo "_law_draw", .glo "_law_stands"]
def hfa3 : List He.Fa := [.glo "_law_holds", .glo "_law_parts", .glo "_law_pairs", .glo "_law_in", .glo "_law_meet", .glo "_law_why", .glo "_law_closed", .glo "_law_drawn", .glo "_law_kind_right", .glo "_law_made_right", .glo "law", .glo "worlds", .glo "barred", .glo "program_of", .cls "Program", .noat "Program" "_rules", .mkr "Program", .noat "NotAProgram" "thing", .noat "Barred" "why", .exm "Barred" "Barred" true]
def hfa : List He.Fa := hfa1 ++ hfa2 ++ hfa3
/-- more of the classes -/
def pgP (K : PySem.W.Frag) (C : Addr) : Prop := PySem.W.kitOne K (.ref C) (.ref C) = some true ∧ PySem.W.kitOne K (.type "NoneType") (.ref C) = some false ∧ PySem.W.kitOne K (.type "bool") (.ref C) = some false ∧ PySem.W.kitOne K (.type "int") (.ref C) = some false ∧ PySem.W.kitOne K (.type "str") (.ref C) = some false ∧
  PySem.W.kitOne K (.type "list") (.ref C) = some false ∧ PySem.W.kitOne K (.type "tuple") (.ref C) = some false ∧ PySem.W.kitOne K (.type "dict") (.ref C) = some false ∧ PySem.W.findIn K (.ref C) "__class__" = some (some (.builtin "object.__class__")) ∧
  PySem.W.specialIn K (.builtin "object.__class__") "__get__" = some (some (.builtin "getset_descriptor.__get__")) ∧ PySem.W.takesIn K (.builtin "object.__class__") = some true ∧ PySem.W.mroIn K C (.type "object") = some true
instance (K : PySem.W.Frag) (C : Addr) : Decidable (pgP K C) := by unfold pgP; infer_instance
def exL0 (K : PySem.W.Frag) (C : Addr) : List Bool := [decide (pgP K C), He.tupB K "KINDS" [.str anyS, .str plainS, .str singleS], oexB K (He.ga K "NotAProgram"), decide (initP K (He.ga K "NotAProgram")), decide (excP K (He.ga K "NotAProgram")), oexB K (He.ga K "Barred"), decide (initP K (He.ga K "Barred")), decide (excP K (He.ga K "Barred")), decide (propP K C "rules"), recB K (He.ma K C "rules") "property", decide (propP K C "names"), recB K (He.ma K C "names") "property"]
def exL1 (K : PySem.W.Frag) (C : Addr) : List Bool := [decide (PySem.W.findIn K (.ref C) "__eq__" = some (some (.ref (He.ma K C "__eq__")))), PySem.W.isFn K (.ref (He.ma K C "__eq__"))]
def exL (K : PySem.W.Frag) (C : Addr) : List Bool := exL0 K C ++ exL1 K C
def exB (K : PySem.W.Frag) : Bool := (exL K (He.ga K "Program")).all id
abbrev hR : PySem.W.OpenRow := PySem.W.OpenLaw.row PySem.Challenge.rw_ruleworlds_k26_programs_made_of_pairs
abbrev hH : PySem.W.Hook := hookY 6 hfa hfn exB
def hob (s : PySem.W.SharedT) : He.AlD × Bool := obY 6 hfa hfn exB (HandSHeadRun.getT s)
theorem hob_eq (s : PySem.W.SharedT) : hob s = hH.obs s.abs := obY_eq (HandSHeadRun.getT_eq s)
def hloose1 : List Str := ["_wall", "RuleError", "InvalidRule", "NotAProgram", "InvalidWorld", "InvalidPair", "Unreadable", "InvalidKind", "Barred", "LETTERS", "NOT", "is_name", "is_world", "is_rule", "Program", "_are_names", "_set_of", "_written_rule", "_with_not", "_read_rule", "_halves", "_without_not", "is_pair", "has_all", "without", "check_program", "check_world", "check_kind", "worlds", "_chosen_names"]
def hloose2 : List Str := ["_bits_of", "_number", "_numbered", "_every_world", "_agree", "KINDS", "barred", "program_of", "_check_asked", "_why_not", "_not_total", "_not_upward", "_not_meeting", "_heads_against", "_worlds_below", "_common", "_law_at", "_law_mixed", "_law_purse", "_law_draw", "_law_stands", "_law_holds", "_law_parts", "_law_pairs", "_law_names", "_law_in", "_law_meet", "_law_why", "_law_closed", "_law_drawn"]
def hloose3 : List Str := ["_law_kind_right", "_law_made_right"]
def hloose : List Str := hloose1 ++ hloose2 ++ hloose3
theorem hrun (w : World) : HandSHeadRun.RunEq hR (PySem.W.view hR.prog [68]) hH hob 9000 hloose w := by
  intro os
  kernel_rfl
end Rw
/-! Sets whose members are texts, or tuples of texts and of such tuples: made of a list or a tuple, and gathered again. -/
namespace Rw
open PySem PySem.Spec PyProof.Rows L2
abbrev NK := NestedKey
section
variable {P : Program} {w : World}
/-! no class statement stands in a key -/
mutual
theorem noCls : ∀ (k : NK) (v : Value) (n : Nat) (A : Around) (E : Value → Shared → Prop) (s : Shared) (Q : Bool → Shared → Prop), NestedIs s.heap k v → k.depth ≤ n → Q false s → wpAny (model P w) A (ofAClassStatement n v) Q E s
  | .none, _, n, A, E, s, Q, x, _, h => by
    cases x
    cases n <;> exact wpAny_pure h
  | .num i, _, n, A, E, s, Q, x, _, h => by
    cases x <;> cases n <;> exact wpAny_pure h
  | .text y, _, n, A, E, s, Q, x, _, h => by
    cases x
    cases n <;> exact wpAny_pure h
  | .tup ks, _, n, A, E, s, Q, x, hn, h => by
    cases x with
    | @tup a o vs m _ hg hc hd hk =>
      simp only [NestedKey.depth] at hn
      cases n with
      | zero => omega
      | succ n =>
        have hT : s.TypeIs (.ref a) "tuple" := ⟨o, hg, hc⟩
        unfold ofAClassStatement
        refine wpAny_bind (wpAny_typeOf hT ?_)
        dsimp only
        have e : (("tuple" : String) == "tuple") = true := by decide
        simp only [e, if_true, Bool.not_true, Bool.false_eq_true, if_false]
        try refine wpAny_bind (wpAny_pure ?_)
        try simp only [Bool.not_true, Bool.false_eq_true, if_false]
        show wpAny _ _ (seqItems? (.ref a) >>= _) _ _ s
        refine wpAny_bind (wpAny_seqItems hg hd ?_)
        dsimp only
        refine wpAny_bind ?_
        show wpAny _ _ (forIn vs _ _) _ _ s
        rw [← Array.forIn_toList]
        refine noClsAll ks vs.toList n A E s _ hk (by omega) ?_
        exact wpAny_pure h
theorem noClsAll : ∀ (ks : List NK) (vs : List Value) (n : Nat) (A : Around) (E : Value → Shared → Prop) (s : Shared) (Q : Option Bool × Unit → Shared → Prop), NestedAll s.heap ks vs → NestedKey.depthAll ks ≤ n → Q (none, ()) s →
    wpAny (model P w) A (forIn vs ((none, ()) : Option Bool × Unit) fun y r => do if ← ofAClassStatement n y then pure (ForInStep.done (some true, ())) else pure (ForInStep.yield (none, ()))) Q E s
  | [], _, n, A, E, s, Q, x, _, h => by
    cases x
    exact wpAny_pure h
  | k :: ks, _, n, A, E, s, Q, x, hn, h => by
    cases x with
    | cons x1 x2 =>
      simp only [NestedKey.depthAll] at hn
      rw [List.forIn_cons]
      refine wpAny_bind (wpAny_bind (noCls k _ n A E s _ x1 (by omega) ?_))
      simp only [Bool.false_eq_true, if_false]
      refine wpAny_pure ?_
      exact noClsAll ks _ n A E s Q x2 (by omega) h
end
/-! whether a key is hashed by its value: either answer -/
mutual
theorem byVal : ∀ (k : NK) (v : Value) (n : Nat) (A : Around) (E : Value → Shared → Prop) (s : Shared) (Q : Bool → Shared → Prop), NestedIs s.heap k v → (∀ b, Q b s) → wpAny (model P w) A (hashByValue n v) Q E s
  | .none, _, n, A, E, s, Q, x, h => by
    cases x
    cases n <;> exact wpAny_pure (h _)
  | .num i, _, n, A, E, s, Q, x, h => by
    cases x <;> cases n <;> exact wpAny_pure (h _)
  | .text y, _, n, A, E, s, Q, x, h => by
    cases x
    cases n <;> exact wpAny_pure (h _)
  | .tup ks, _, n, A, E, s, Q, x, h => by
    cases x with
    | @tup a o vs m _ hg hc hd hk =>
      cases n with
      | zero => exact wpAny_pure (h _)
      | succ n =>
        have hT : s.TypeIs (.ref a) "tuple" := ⟨o, hg, hc⟩
        unfold hashByValue
        refine wpAny_bind (wpAny_specialOf hT F.slot_tuple_hash.lookup ?_)
        show wpAny _ _ (seqItems? (.ref a) >>= _) _ _ s
        refine wpAny_bind (wpAny_seqItems hg hd ?_)
        refine wpAny_bind ?_
        show wpAny _ _ (forIn vs _ _) _ _ s
        rw [← Array.forIn_toList]
        refine byValAll ks vs.toList n A E s _ hk ?_ ?_
        · exact wpAny_pure (h _)
        · exact wpAny_pure (h _)
theorem byValAll : ∀ (ks : List NK) (vs : List Value) (n : Nat) (A : Around) (E : Value → Shared → Prop) (s : Shared) (Q : Option Bool × Unit → Shared → Prop), NestedAll s.heap ks vs → Q (none, ()) s → Q (some false, ()) s →
    wpAny (model P w) A (forIn vs ((none, ()) : Option Bool × Unit) fun y r => do if !(← hashByValue n y) then pure (ForInStep.done (some false, ())) else pure (ForInStep.yield (none, ()))) Q E s
  | [], _, n, A, E, s, Q, x, h, _ => by
    cases x
    exact wpAny_pure h
  | k :: ks, _, n, A, E, s, Q, x, h, h2 => by
    cases x with
    | cons x1 x2 =>
      rw [List.forIn_cons]
      refine wpAny_bind (wpAny_bind (byVal k _ n A E s _ x1 fun b => ?_))
      cases b with
      | true =>
        simp only [Bool.not_true, Bool.false_eq_true, if_false]
        refine wpAny_pure ?_
        exact byValAll ks _ n A E s Q x2 h h2
      | false =>
        simp only [Bool.not_false, if_true]
        exact wpAny_pure (wpAny_pure h2)
end
end
/-! ### sets of tuples -/
/-- a tuple that is a key, not too deep -/
def TupK (h : Heap) (k : NK) (a : Addr) : Prop := NestedIs h k (.ref a) ∧ k.depth ≤ 8
theorem TupK.one {h : Heap} {k k' : NK} {a : Addr} (x : TupK h k a) (y : TupK h k' a) : k = k' := NestedIs.inj _ _ _ x.1 y.1
theorem TupK.kept {h h' : Heap} {k : NK} {a : Addr} (x : TupK h k a) (u : ∀ b o, h.get? b = some o → h'.get? b = some o) : TupK h' k a :=
  ⟨NestedIs.at (fun b o _ _ e _ => u b o e) _ _ x.1, x.2⟩
/-- all but a set stays -/
theorem TupK.butSet {h h' : Heap} {k : NK} {a b : Addr} {o : Obj} {es : Array (Int × Value)} {ep : Nat} {t : SetTable} (x : TupK h k b) (ho : h.get? a = some o) (hd : o.data = .set es ep t) (sb : Heap.SameBut a h h') : TupK h' k b := by
  refine ⟨NestedIs.at (fun c u vs n e es' => (sb.2 c ?_).trans e) _ _ x.1, x.2⟩
  intro z
  subst z
  have q : u = o := Option.some.inj (e.symm.trans ho)
  rw [q, hd] at es'
  exact nomatch es'
/-- the entries of a table -/
def ents (w : World) (L : List (Addr × NK)) : List (Int × Value) := L.map fun p => (p.2.hash w, Value.ref p.1)
def hashes (w : World) (L : List (Addr × NK)) : List Int := L.map fun p => p.2.hash w
theorem ents_len (w : World) (L : List (Addr × NK)) : (ents w L).length = L.length := List.length_map _
theorem hashes_len (w : World) (L : List (Addr × NK)) : (hashes w L).length = L.length := List.length_map _
structure TSet (P : Program) (w : World) (h : Heap) (a : Addr) (L : List (Addr × NK)) (es : Array (Int × Value)) (ep : Nat) (t : SetTable) : Prop where
  ob : ∃ o, h.get? a = some o ∧ o.ExactSet ∧ o.data = .set es ep t
  en : es.toList = ents w L
  tab : TabOk t (hashes w L)
  nd : (L.map (·.2)).Nodup
  ks : ∀ p ∈ L, TupK h p.2 p.1
  led : w.params.followText "set-order" = true ∨ t.led = true
  room : L.length * 5 < t.mask * 3
  few : L.length < 76
section
variable {P : Program} {w : World} {A : Around} {E : Value → Shared → Prop} {s : Shared} {a : Addr} {L : List (Addr × NK)} {es : Array (Int × Value)} {ep : Nat} {t : SetTable}
theorem size_of_ents (h : es.toList = ents w L) : es.size = L.length := by
  rw [← Array.length_toList, h, ents_len]
theorem TSet.fits (R : TSet P w s.heap a L es ep t) : t.fits es.size = true := by
  have a1 := R.tab.sz
  have a2 := size_of_ents R.en
  have a3 := R.room
  rw [hashes_len] at a1
  unfold SetTable.fits SetTable.fill
  rw [R.tab.dm, Bool.and_eq_true, beq_iff_eq, decide_eq_true_eq]
  refine ⟨by omega, ?_⟩
  show t.place.size + 0 ≤ t.mask
  omega
theorem TSet.at (R : TSet P w s.heap a L es ep t) {i : Nat} {p : Addr × NK} (h : L[i]? = some p) : es[i]? = some (p.2.hash w, Value.ref p.1) := by
  rw [← Array.getElem?_toList, R.en]
  unfold ents
  rw [List.getElem?_map, h]
  rfl
/-- nobody sees a search among such tuples -/
theorem unseen {k : NK} {b : Addr} {Q : Bool → Shared → Prop} (hk : TupK s.heap k b) {ys : List Value} (hy : ∀ y ∈ ys, ∃ k' c, y = Value.ref c ∧ TupK s.heap k' c) (h : Q false s) : wpAny (model P w) A (searchCouldBeSeen (.ref b) ys) Q E s := by
  unfold searchCouldBeSeen
  refine wpAny_bind ?_
  refine wpAny_forIn_list _ (fun rest r s' => r.1 = none ∧ s' = s ∧ ∀ y ∈ rest, ∃ k' c, y = Value.ref c ∧ TupK s.heap k' c) _ ?turn ?last _ _ ⟨rfl, rfl, hy⟩
  case turn =>
    rintro v rest r s' ⟨hr, rfl, all⟩
    obtain ⟨k', c, rfl, hc⟩ := all v List.mem_cons_self
    have more : ∀ y ∈ rest, ∃ k' c, y = Value.ref c ∧ TupK s'.heap k' c := fun u hu => all u (List.mem_cons_of_mem _ hu)
    dsimp only
    by_cases hv : (b == c || (carriedByValue (.ref b) && carriedByValue (.ref c))) = true
    · exact wp_if_pos hv (wpAny_pure ⟨rfl, rfl, more⟩)
    · refine wp_if_neg hv (wpAny_bind ((nestedKind P w).quiet (k := k) hk ?_))
      simp only [Bool.not_true, Bool.false_eq_true, if_false]
      refine wpAny_bind ((nestedKind P w).quiet (k := k') hc ?_)
      simp only [Bool.not_true, Bool.false_eq_true, if_false]
      refine wpAny_bind (noCls k _ 8 _ _ _ _ hk.1 hk.2 ?_)
      simp only [Bool.false_eq_true, if_false]
      refine wpAny_bind (noCls k' _ 8 _ _ _ _ hc.1 hc.2 ?_)
      simp only [Bool.false_eq_true, if_false]
      exact wpAny_pure ⟨rfl, rfl, more⟩
  case last =>
    rintro ⟨r1, r2⟩ s' ⟨hr, rfl, _⟩
    simp only at hr
    subst hr
    exact wpAny_pure h
end
/-! ### the search -/
/-- the states of a search for the hash g, one after the other -/
def st (m : Nat) (g : Int) (c : Nat) : SetTable.Probe := nth m (runAt m (SetTable.bits g % (m + 1)) (SetTable.bits g)) c
theorem st_way (m : Nat) (g : Int) (c : Nat) : (st m g c).j = way m g c := rfl
theorem st_more (m : Nat) (g : Int) (c q : Nat) : nth m (st m g c) q = st m g (c + q) := (nth_add m c _ q).symm
theorem nth_dummy (m : Nat) : ∀ (n : Nat) (p : SetTable.Probe), p.dummy = none → (nth m p n).dummy = none
  | 0, _, h => h
  | n + 1, p, h => nth_dummy m n (adv m p) (by unfold adv; split <;> exact h)
theorem st_dummy (m : Nat) (g : Int) (c : Nat) : (st m g c).dummy = none := nth_dummy m c _ rfl
section
variable {P : Program} {w : World} {A : Around} {E : Value → Shared → Prop} {s : Shared} {a : Addr} {L : List (Addr × NK)} {es : Array (Int × Value)} {ep : Nat} {t : SetTable}
theorem hunt (R : TSet P w s.heap a L es ep t) {x : Addr} {k : NK} (hx : TupK s.heap k x) (hu : A.units + 8 < cLine) {g : Int} (hg : g = k.hash w) {K : Nat} (hf : K < 10 * SetTable.turns t.mask)
    (free : way t.mask g K ∉ t.place.toList) (full : ∀ c, c < K → way t.mask g c ∈ t.place.toList) {Q : SetFound → Shared → Prop}
    (yes : k ∈ L.map (·.2) → Q (.there none) s) (no : k ∉ L.map (·.2) → Q (.free (way t.mask g K) false) s) :
    ∀ (f c : Nat) (stand : Option SetTable.Probe), stand.getD (t.probeStart g) = st t.mask g c → c ≤ K → K - c < f →
      (∀ (i : Nat) p, L[i]? = some p → p.2 = k → ∃ c', c ≤ c' ∧ c' < K ∧ t.place.toList[i]? = some (way t.mask g c')) →
      wpAny (model P w) A (setSearchFrom a (.ref x) g true f stand) Q E s
  | 0, c, stand, _, _, h, _ => absurd h (Nat.not_lt_zero _)
  | f + 1, c, stand, hst, hc, hlt, ahead => by
    obtain ⟨o, ho, hex, hd⟩ := R.ob
    have big := R.fits
    have hashOf : ∀ (i : Nat) p, L[i]? = some p → (es[i]?.map (·.1)).getD 0 = p.2.hash w := fun i p hp => by
      rw [R.at hp]
      rfl
    have oddM := mask_odd R.tab.mok
    rw [setSearchFrom_succ]
    refine wpAny_bind (wpAny_setState_of ho hd big ?_)
    dsimp only
    refine wp_if_neg (by unfold SetTable.gaveWay; rw [oddM]; decide) ?_
    try refine wpAny_bind (wpAny_pure ?_)
    have jAt : ∀ q, (nth t.mask (st t.mask g c) q).j = way t.mask g (c + q) := fun q => congrArg SetTable.Probe.j (st_more t.mask g c q)
    rcases go_spec t R.tab.ris R.tab.dm (fun i => (es[i]?.map (·.1)).getD 0) g (10 * SetTable.turns t.mask) (K - c) (st t.mask g c) (st_dummy _ _ _) (by omega)
      (fun q hq => by rw [jAt]; exact full (c + q) (by omega)) (by rw [jAt, show c + (K - c) = K by omega]; exact free) with ⟨q, i, hq, hi, hh, first, met⟩ | ⟨none_, met⟩
    · -- an entry of this hash
      have met' : t.probe (fun i => (es[i]?.map (·.1)).getD 0) g (stand.getD (t.probeStart g)) = some (.candidate (way t.mask g (c + q)) i (st t.mask g (c + (q + 1)))) := by
        rw [hst, ← jAt, ← st_more]
        exact met
      rw [met']
      dsimp only
      rw [jAt] at hi
      have il : i < L.length := by
        have z1 : i < t.place.toList.length := (List.getElem?_eq_some_iff.mp hi).1
        have z2 := R.tab.sz
        rw [hashes_len] at z2
        rw [Array.length_toList] at z1
        omega
      obtain ⟨p, hp⟩ : ∃ p, L[i]? = some p := ⟨L[i], List.getElem?_eq_getElem il⟩
      have pm : p ∈ L := List.mem_of_getElem? hp
      have pk := R.ks p pm
      have go : wpAny (model P w) A (searchRest a (.ref x) g true f es t (way t.mask g (c + q)) i (st t.mask g (c + (q + 1)))) Q E s := by
        unfold searchRest
        rw [R.at hp]
        dsimp only
        refine wpAny_bind (wpAny_holding ((nestedKind P w).eqBool (x := p.2) (y := k) hu pk hx ?_))
        refine wpAny_bind (wpAny_setState_of ho hd big ?_)
        dsimp only
        by_cases same : p.2 = k
        · refine wp_if_pos (by simp [same]) (wpAny_pure (yes ?_))
          exact List.mem_map.mpr ⟨p, pm, same⟩
        · refine wp_if_neg (by simp [same]) ?_
          try refine wpAny_bind (wpAny_pure ?_)
          rw [sameMem]
          dsimp only
          have live : t.slot (way t.mask g (c + q)) = .live i := slot_live R.tab.ris hi
          simp only [if_true, live, R.at hp]
          refine wpAny_bind (wpAny_isSame_ref_self (wpAny_bind (wpAny_pure ?_)))
          simp only [if_true]
          refine wp_if_neg (by simp [same]) ?_
          refine hunt R hx hu hg hf free full yes no f (c + (q + 1)) _ rfl (by omega) (by omega) fun i0 p0 h0 k0 => ?_
          obtain ⟨c', b1, b2, b3⟩ := ahead i0 p0 h0 k0
          refine ⟨c', ?_, b2, b3⟩
          by_cases ec : c' = c + q
          · exfalso
            rw [ec] at b3
            have l0 := slot_live R.tab.ris b3
            rw [live] at l0
            injection l0 with l0
            rw [← l0, hp] at h0
            exact same ((congrArg Prod.snd (Option.some.inj h0)).trans k0)
          · by_cases lt : c' < c + q
            · exfalso
              refine first (c' - c) i0 (by omega) (by rw [jAt, show c + (c' - c) = c' by omega]; exact b3) ?_
              show (es[i0]?.map (·.1)).getD 0 = g
              rw [hashOf i0 p0 h0, k0, hg]
            · omega
      by_cases hl : t.led = true
      · refine wp_if_neg (by simp [hl]) ?_
        try refine wpAny_bind (wpAny_pure ?_)
        exact go
      · refine wp_if_pos (by simp [hl]) (wpAny_bind (unseen hx (fun y hy => ?_) ?_))
        · obtain ⟨e, he, ee⟩ := List.mem_map.mp hy
          have he1 : e ∈ es ∧ e.1 = g := by simpa using he
          have he2 : e ∈ es.toList := by simpa using he1.1
          rw [R.en] at he2
          obtain ⟨p2, hp2, e2⟩ := List.mem_map.mp he2
          exact ⟨p2.2, p2.1, by rw [← ee, ← e2], R.ks p2 hp2⟩
        · refine wp_if_neg (by decide) ?_
          try refine wpAny_bind (wpAny_pure ?_)
          exact go
    · -- a free slot
      have met' : t.probe (fun i => (es[i]?.map (·.1)).getD 0) g (stand.getD (t.probeStart g)) = some (.empty (way t.mask g K) none) := by
        have e2 : way t.mask g K = (nth t.mask (st t.mask g c) (K - c)).j := by
          rw [jAt, show c + (K - c) = K by omega]
        rw [hst, e2]
        exact met
      rw [met']
      dsimp only
      refine wpAny_pure (no fun hm => ?_)
      obtain ⟨p0, m0, k0⟩ := List.mem_map.mp hm
      obtain ⟨i0, hi0, e0⟩ := List.getElem_of_mem m0
      have h0 : L[i0]? = some p0 := by rw [List.getElem?_eq_getElem hi0, e0]
      obtain ⟨c', b1, b2, b3⟩ := ahead i0 p0 h0 k0
      refine none_ (c' - c) i0 (by omega) (by rw [jAt, show c + (c' - c) = c' by omega]; exact b3) ?_
      show (es[i0]?.map (·.1)).getD 0 = g
      rw [hashOf i0 p0 h0, k0, hg]
theorem hunted (R : TSet P w s.heap a L es ep t) {x : Addr} {k : NK} (hx : TupK s.heap k x) (hu : A.units + 8 < cLine) {Q : SetFound → Shared → Prop} (yes : k ∈ L.map (·.2) → Q (.there none) s)
    (no : ∀ K, k ∉ L.map (·.2) → way t.mask (k.hash w) K ∉ t.place.toList → (∀ c, c < K → way t.mask (k.hash w) c ∈ t.place.toList) → Q (.free (way t.mask (k.hash w) K) false) s) :
    wpAny (model P w) A (setSearch a (.ref x) (k.hash w) true) Q E s := by
  have space := R.room
  obtain ⟨K, kf, free, full⟩ := R.tab.first (by rw [hashes_len]; omega) (k.hash w)
  have small : K < 100000 := by
    have : 10 * SetTable.turns t.mask ≤ 1420 := by
      unfold SetTable.turns
      rcases R.tab.mok with e | e | e <;> omega
    omega
  unfold setSearch
  refine hunt R hx hu rfl kf free full yes (fun hn => no K hn free full) 100000 0 none rfl (Nat.zero_le _) (by omega) fun i p hp hk => ?_
  have hi : (hashes w L)[i]? = some (k.hash w) := by
    unfold hashes
    rw [List.getElem?_map, hp, ← hk]
    rfl
  have il : i < t.place.toList.length := by
    have z1 : i < L.length := (List.getElem?_eq_some_iff.mp hp).1
    have z2 := R.tab.sz
    rw [hashes_len] at z2
    rw [Array.length_toList]
    omega
  have hj := List.getElem?_eq_getElem il
  obtain ⟨c, hc, e⟩ := R.tab.before free hi hj
  exact ⟨c, Nat.zero_le _, hc, by rw [hj, e]⟩
end
/-! ### one put in -/
theorem relist {w : World} (L : List (Addr × NK)) (es : Array (Int × Value)) (order : Array Nat) (he : es.toList = ents w L) (hp : order.toList.Perm (List.range L.length)) :
    ∃ L2, (order.filterMap (es[·]?)).toList = ents w L2 ∧ L2.Perm L ∧ hashes w L2 = order.toList.map fun i => (es.map (·.1)).getD i 0 := by
  have one : ∀ i (h : i < L.length), es[i]? = some ((L[i]).2.hash w, Value.ref (L[i]).1) := fun i h => by
    rw [← Array.getElem?_toList, he]
    unfold ents
    rw [List.getElem?_map, List.getElem?_eq_getElem h]
    rfl
  have all : ∀ l : List Nat, (∀ i ∈ l, i < L.length) → l.filterMap (fun i => es[i]?) = ents w (l.filterMap fun i => L[i]?) ∧ hashes w (l.filterMap fun i => L[i]?) = l.map fun i => (es.map (·.1)).getD i 0 := by
    intro l
    induction l with
    | nil => exact fun _ => ⟨rfl, rfl⟩
    | cons i l ih =>
      intro hl
      have hi := hl i List.mem_cons_self
      obtain ⟨e1, e2⟩ := ih fun j hj => hl j (List.mem_cons_of_mem _ hj)
      rw [List.filterMap_cons_some (List.getElem?_eq_getElem hi), List.filterMap_cons_some (one i hi), e1, List.map_cons, ← e2]
      refine ⟨rfl, ?_⟩
      have e5 : (es.map (·.1))[i]? = some ((L[i]).2.hash w) := by
        rw [Array.getElem?_map, one i hi]
        rfl
      have e4 : (es.map (·.1)).getD i 0 = (L[i]).2.hash w := by simp [Array.getD_eq_getD_getElem?, e5]
      rw [e4]
      rfl
  obtain ⟨e1, e2⟩ := all order.toList fun i hi => List.mem_range.mp (hp.mem_iff.mp hi)
  refine ⟨order.toList.filterMap fun i => L[i]?, by first | (rw [Array.toList_filterMap]; exact e1) | simpa using e1, ?_, e2⟩
  have z := hp.filterMap fun i => L[i]?
  rw [List.filterMap_getElem?_range_length] at z
  exact z
theorem TabOk.unplain {t : SetTable} {hs : List Int} (T : TabOk t hs) : TabOk { t with plain := false } hs := ⟨T.ris, T.dm, T.sz, T.mok, T.bd, T.reach⟩
section
variable {P : Program} {w : World} {A : Around} {E : Value → Shared → Prop} {s : Shared} {a : Addr} {L : List (Addr × NK)} {es : Array (Int × Value)} {ep : Nat} {t : SetTable}
theorem relaid_at {o : Obj} (ho : s.heap.get? a = some o) (hex : o.ExactSet) (hd : o.data = .set es ep t) (en : es.toList = ents w L) (tab : TabOk t (hashes w L)) (hfl : L.length ≤ t.mask)
    (nd : (L.map (·.2)).Nodup) (ks : ∀ p ∈ L, TupK s.heap p.2 p.1) (ld : w.params.followText "set-order" = true ∨ t.led = true) (few : L.length < 76) {wanted M : Nat}
    (hw : SetTable.sizeAbove wanted - 1 = M) (hM : MaskOk M) (hw2 : SetTable.sizeAbove wanted ≤ 128) (hn : L.length * 5 < M * 3) {Q : Unit → Shared → Prop}
    (hQ : ∀ h' L' es' ep' t', Heap.SameBut a s.heap h' → TSet P w h' a L' es' ep' t' → L'.Perm L → Q () { s with heap := h' }) : wpAny (model P w) A (setRelay a wanted) Q E s := by
  have hsl := size_of_ents en
  have hps : t.place.size = es.size := by rw [tab.sz, hashes_len, hsl]
  have fits : t.fits es.size = true := by
    unfold SetTable.fits SetTable.fill
    rw [tab.dm, Bool.and_eq_true, beq_iff_eq, decide_eq_true_eq]
    refine ⟨hps, ?_⟩
    show t.place.size + 0 ≤ t.mask
    omega
  obtain ⟨t', order, e, hp, T, em, el, _, _⟩ := relaid_ok t (hs := es.map (·.1)) (wanted := wanted) hw hM (by rw [Array.size_map, hsl]; omega)
  rw [Array.size_map, hsl] at hp
  obtain ⟨L2, r1, r2, r3⟩ := relist L es order en hp
  rw [← r3] at T
  have hs2 : (order.filterMap (es[·]?)).size = es.size := by rw [size_of_ents r1, r2.length_eq, hsl]
  rw [setRelay_eq]
  refine wpAny_bind (wpAny_setState_of ho hd fits ?_)
  dsimp only
  refine wp_if_neg (by rw [sizeLine_eq]; omega) ?_
  try refine wpAny_bind (wpAny_pure ?_)
  rw [e]
  dsimp only
  refine wpAny_bind (wp_if_neg (by rw [hs2]; simp) ?_)
  try refine wpAny_bind (wpAny_pure ?_)
  refine wpAny_pure ?_
  dsimp only
  refine wpAny_storeSet_of ho hd ?_ (by rw [hs2, hsl, sizeLine_eq]; omega)
  have sb : Heap.SameBut a s.heap (s.heap.update a (Obj.putSet (order.filterMap (es[·]?)) t')) := Heap.SameBut.update ..
  refine hQ _ L2 (order.filterMap (es[·]?)) (ep + 1) t' sb ⟨⟨_, store_at ho hd, ⟨hex.1, hex.2.1, hex.2.2⟩, rfl⟩, r1, T, (r2.map (·.2)).nodup_iff.mpr nd, fun p hpm => (ks p (r2.mem_iff.mp hpm)).butSet ho hd sb, by rw [el]; exact ld, ?_, by rw [r2.length_eq]; exact few⟩ r2
  rw [r2.length_eq, em]
  exact hn
/-- adding -/
theorem added (R : TSet P w s.heap a L es ep t) {x : Addr} {k : NK} (hx : TupK s.heap k x) (hu : A.units + 8 < cLine) (hfew : L.length + 1 < 76) {Q : Bool → Shared → Prop}
    (hQ : ∀ b h' L' es' ep' t', Heap.SameBut a s.heap h' → TSet P w h' a L' es' ep' t' → (k ∈ L.map (·.2) → L' = L) → (k ∉ L.map (·.2) → L'.Perm ((x, k) :: L)) → Q b { s with heap := h' }) :
    wpAny (model P w) A (setAddHashed a (.ref x) (k.hash w)) Q E s := by
  obtain ⟨o, ho, hex, hd⟩ := R.ob
  have hsl := size_of_ents R.en
  have hroom := R.room
  unfold setAddHashed
  refine wpAny_holding ?_
  rw [show (100000 : Nat) = 99999 + 1 from rfl, setAddHashedIn_succ]
  refine wpAny_bind (wpAny_setState_of ho hd R.fits ?_)
  dsimp only
  refine wp_if_neg (by simp [byScan, Value.scannable]) ?_
  try refine wpAny_bind (wpAny_pure ?_)
  refine wpAny_bind (hunted R hx hu (fun hm => ?_) fun K hm hK hb => ?_)
  · dsimp only
    exact wpAny_pure (hQ false s.heap L es ep t (Heap.SameBut.refl a s.heap) R (fun _ => rfl) fun z => absurd hm z)
  · dsimp only
    refine wpAny_bind (wpAny_setState_of ho hd R.fits ?_)
    dsimp only
    obtain ⟨q1, q2, q3, q4, q5, _, _, _, q9⟩ := R.tab.put hK hb
    generalize hpt : t.put (way t.mask (k.hash w) K) = pt at q1 q3 q4 q5 q9 ⊢
    obtain ⟨t1, p⟩ := pt
    dsimp only at q1 q3 q4 q5 q9 ⊢
    subst q1
    generalize hpp : SetTable.below t.place (way t.mask (k.hash w) K) = p at q2 q3 ⊢
    have hin : (SetTable.insertAt es p (k.hash w, Value.ref x)).toList = ents w (L.take p ++ (x, k) :: L.drop p) := by
      rw [SetTable.toList_insertAt, R.en]
      unfold ents
      rw [List.map_append, List.map_cons, List.map_take, List.map_drop]
    have pm := put_perm L p (x, k)
    have hlen : (L.take p ++ (x, k) :: L.drop p).length = L.length + 1 := pm.length_eq
    have hhs : hashes w (L.take p ++ (x, k) :: L.drop p) = (hashes w L).take p ++ k.hash w :: (hashes w L).drop p := by
      unfold hashes
      rw [List.map_append, List.map_cons, List.map_take, List.map_drop]
    rw [← hhs] at q3
    have nd1 : ((L.take p ++ (x, k) :: L.drop p).map (·.2)).Nodup := by
      refine (pm.map (·.2)).nodup_iff.mpr ?_
      rw [List.map_cons]
      exact List.nodup_cons.mpr ⟨hm, R.nd⟩
    have hes : (SetTable.insertAt es p (k.hash w, Value.ref x)).size = L.length + 1 := by rw [size_of_ents hin, hlen]
    generalize SetTable.insertAt es p (k.hash w, Value.ref x) = es1 at hin hes ⊢
    generalize L.take p ++ (x, k) :: L.drop p = L1 at pm hlen q3 nd1 hin
    have ld1 : w.params.followText "set-order" = true ∨ t1.led = true := by rw [q5]; exact R.led
    -- behind the question whether the hash is by value: t2 is t1, but for one mark
    have rest : ∀ t2 : SetTable, TabOk t2 (hashes w L1) → t2.mask = t.mask → t2.fill = L.length + 1 → (w.params.followText "set-order" = true ∨ t2.led = true) →
        wpAny (model P w) A (do
          storeSet a es1 t2
          if (!false && t2.tooFull) = true then do
              setRelay a (SetTable.grown (es.size + 1))
              pure true
            else pure true) Q E s := by
      intro t2 T2 m2 f2 l2
      refine wpAny_bind (wpAny_storeSet_of ho hd ?_ (by rw [hes, sizeLine_eq]; omega))
      have sb : Heap.SameBut a s.heap (s.heap.update a (Obj.putSet es1 t2)) := Heap.SameBut.update ..
      have ho1 := store_at (es' := es1) (t' := t2) ho hd
      generalize s.heap.update a (Obj.putSet es1 t2) = h1 at sb ho1 ⊢
      have ks1 : ∀ p ∈ L1, TupK h1 p.2 p.1 := fun p hp => by
        rcases List.mem_cons.mp (pm.mem_iff.mp hp) with e | hp
        · rw [e]
          exact hx.butSet ho hd sb
        · exact (R.ks p hp).butSet ho hd sb
      by_cases hf : t2.tooFull = true
      · refine wp_if_pos (by simp [hf]) ?_
        have hfull : (L.length + 1) * 5 ≥ t2.mask * 3 := by
          have h := hf
          unfold SetTable.tooFull at h
          rw [decide_eq_true_eq, f2] at h
          exact h
        rw [hsl]
        have two : (t.mask = 7 ∧ L.length = 4) ∨ (t.mask = 31 ∧ L.length = 18) := by
          rcases R.tab.mok with e | e | e
          · left; rw [m2, e] at hfull; rw [e] at hroom; exact ⟨e, by omega⟩
          · right; rw [m2, e] at hfull; rw [e] at hroom; exact ⟨e, by omega⟩
          · exfalso; rw [m2, e] at hfull; omega
        have go : ∀ M, SetTable.sizeAbove (SetTable.grown (L.length + 1)) - 1 = M → MaskOk M → SetTable.sizeAbove (SetTable.grown (L.length + 1)) ≤ 128 → (L.length + 1) * 5 < M * 3 →
            wpAny (model P w) A (do setRelay a (SetTable.grown (L.length + 1)); pure true) Q E { s with heap := h1 } := fun M e1 e2 e3 e4 => by
          refine wpAny_bind (relaid_at (s := { s with heap := h1 }) ho1 ⟨hex.1, hex.2.1, hex.2.2⟩ rfl hin T2 (by rw [hlen, m2]; rcases two with ⟨e, e'⟩ | ⟨e, e'⟩ <;> omega) nd1 ks1 l2 (by rw [hlen]; exact hfew) e1 e2 e3 (by rw [hlen]; exact e4) ?_)
          intro h2 L2 es2 ep2 t2 sb2 R2 pm2
          exact wpAny_pure (hQ true h2 L2 es2 ep2 t2 (sb.trans sb2) R2 (fun z => absurd z hm) fun _ => pm2.trans pm)
        rcases two with ⟨_, e2⟩ | ⟨_, e2⟩
        · exact go 31 (by rw [e2, size_20]) (.inr (.inl rfl)) (by rw [e2, size_20]; decide) (by omega)
        · exact go 127 (by rw [e2, size_76]) (.inr (.inr rfl)) (by rw [e2, size_76]; decide) (by omega)
      · refine wp_if_neg (by simp [hf]) ?_
        refine wpAny_pure (hQ true h1 L1 es1 (ep + 1) t2 sb ⟨⟨_, ho1, ⟨hex.1, hex.2.1, hex.2.2⟩, rfl⟩, hin, T2, nd1, ks1, l2, ?_, by rw [hlen]; exact hfew⟩ (fun z => absurd z hm) fun _ => pm)
        have h := hf
        unfold SetTable.tooFull at h
        rw [decide_eq_true_eq, f2] at h
        rw [hlen]
        omega
    have f1 : t1.fill = L.length + 1 := by rw [q9, hashes_len]
    have close : ∀ b : Bool, wpAny (model P w) A (do
          storeSet a es1 (if b = true then t1 else { t1 with plain := false })
          if (!false && (if b = true then t1 else { t1 with plain := false }).tooFull) = true then do
              setRelay a (SetTable.grown (es.size + 1))
              pure true
            else pure true) Q E s := fun b => by
      cases b with
      | true => exact rest t1 q3 q4 f1 ld1
      | false => exact rest { t1 with plain := false } (TabOk.unplain q3) q4 f1 ld1
    by_cases hpl : t1.plain = true
    · first
        | exact wpAny_bind (wp_if_pos hpl (byVal k _ 8 _ _ _ _ hx.1 fun b => close b))
        | exact wp_if_pos hpl (wpAny_bind (byVal k _ 8 _ _ _ _ hx.1 fun b => close b))
    · first
        | exact wpAny_bind (wp_if_neg hpl (wpAny_pure (close true)))
        | exact wp_if_neg hpl (wpAny_bind (wpAny_pure (close true)))
end
end Rw
namespace Rw
open PySem PySem.Spec PyProof.Rows L2
/-! ### set(xs): filled item by item -/
/-- a new set -/
abbrev newSetObj (w : World) : Obj := { cls := .type "set", dict := none, data := .set #[] 0 (.fresh 0 0 (!w.params.followText "set-order")) }
/-- G i: the set at S has got the first i items -/
structure Fill (P : Program) (w : World) (S : Addr) (h0 : Heap) (items : List Value) (G : Nat → Heap → Prop) : Prop where
  start : ∀ h, h.get? S = some (newSetObj w) → G 0 h
  keep : ∀ i h h', G i h → (∀ o, h.get? S = some o → h'.get? S = some o) → (∀ b o, h0.get? b = some o → h'.get? b = some o) → G i h'
  put : ∀ i v (A : Around) (E : Value → Shared → Prop) (s : Shared) (Q : Bool → Shared → Prop), A.units + 8 < cLine → items[i]? = some v → G i s.heap → (∀ b o, h0.get? b = some o → s.heap.get? b = some o) →
    (∀ b h' tk, s.toks ≤ tk → Heap.SameBut S s.heap h' → G (i + 1) h' → Q b { s with heap := h', toks := tk }) → wpAny (model P w) A (setAdd S v) Q E s
section
variable {P : Program} {w : World} {A : Around} {E : Value → Shared → Prop} {s : Shared}
theorem fill_loop {I : Addr} {fp wr : List Addr} {GG : Array GenState → Array GenState → Prop} {n : Nat} {Pv : Nat → Value → Prop} {St : Nat → Shared → Prop} {R : Result → Shared → Prop} {S : Addr} {h0 : Heap} {items : List Value} {G : Nat → Heap → Prop}
    (W : WalksS P w A.in1 I fp wr GG n Pv St) (hSf : S ∉ fp) (T : Fill P w S h0 items G) (hval : ∀ i v, Pv i v → items[i]? = some v) (hS0 : h0.get? S = none) (hw0 : ∀ b ∈ wr, h0.get? b = none) (hu : A.in1.units + 8 < cLine) :
    ∀ (k i : Nat) (s : Shared), n - i = k → i ≤ n → St i s → (∀ b o, h0.get? b = some o → s.heap.get? b = some o) → G i s.heap →
      (∀ s', Moved (S :: wr) GG s s' → G n s'.heap → (∀ b o, h0.get? b = some o → s'.heap.get? b = some o) → R (.ok (.ret .none)) s') →
      codeAny (model P w) A (.builtin "set.update.loop" ⟨[.ref S, .ref I], []⟩) R s := by
  have hSw : S ∉ wr := fun h => hSf (W.sub _ h)
  have wider : ∀ b ∈ wr, b ∈ S :: wr := fun b hb => List.mem_cons_of_mem _ hb
  have old : ∀ {s s' : Shared}, Moved wr GG s s' → (∀ b o, h0.get? b = some o → s.heap.get? b = some o) → ∀ b o, h0.get? b = some o → s'.heap.get? b = some o := fun hm hkp b o e =>
    hm.heap b o (fun hb => by rw [hw0 b hb] at e; cases e) (hkp b o e)
  intro k
  induction k with
  | zero =>
    intro i s hk' hi hst hkp g hR
    have hin : i = n := by omega
    subst hin
    refine codeAny_builtin F.entry_set_update_loop ?_
    rw [Around.under_plainId F.plain_set_update_loop _]
    show wpAny _ A.in1 (pyNext (.ref I) >>= _) _ _ s
    refine wpAny_bind (W.done s _ _ hst fun s' hm => ?_)
    show wpAny _ A.in1 (ret Value.none) _ _ s'
    exact wpAny_pure (hR s' (hm.mono wider) (T.keep _ _ _ g (fun o e => hm.heap S o hSw e) (old hm hkp)) (old hm hkp))
  | succ k ih =>
    intro i s hk' hi hst hkp g hR
    have hlt : i < n := by omega
    refine codeAny_builtin F.entry_set_update_loop ?_
    rw [Around.under_plainId F.plain_set_update_loop _]
    show wpAny _ A.in1 (pyNext (.ref I) >>= _) _ _ s
    refine wpAny_bind (W.item i s _ _ hlt hst fun v s' hP hst' hm => ?_)
    have hkp' := old hm hkp
    show wpAny _ A.in1 (holding [v] (setAdd S v) >>= _) _ _ s'
    refine wpAny_bind (wpAny_holding (T.put i v A.in1 _ s' _ hu (hval i v hP) (T.keep _ _ _ g (fun o e => hm.heap S o hSw e) hkp') hkp' fun b h' tk htk hsb g' => ?_))
    have hkp2 : ∀ b o, h0.get? b = some o → h'.get? b = some o := fun b o e => (hsb.2 b (fun z => by rw [z, hS0] at e; cases e)).trans (hkp' b o e)
    refine wpAny_pure ⟨plainId_quiet F.plain_set_update_loop _, ih (i + 1) _ (by omega) hlt (W.frame _ s' _ _ hst' htk fun b hb o e => ?_) hkp2 g' fun s'' hm'' g'' hkp'' => ?_⟩
    · rw [hsb.2 b (fun h : b = S => hSf (by rw [← h]; exact hb))]
      exact e
    · refine hR s'' (Moved.trans W.gtrans ((hm.mono wider).then_heap htk fun b o hb e => ?_) hm'') g'' hkp''
      rw [hsb.2 b (fun h : b = S => hb (by rw [h]; exact List.mem_cons_self))]
      exact e
theorem call_fill_list {l : Addr} {items : Array Value} {G : Nat → Heap → Prop} {Q : Value → Shared → Prop} (hh : A.handled = none) (hl : s.heap.IsList l items) (T : Fill P w s.heap.objs.size s.heap items.toList G) (hu : A.units + 16 < cLine)
    (h : ∀ (h' : Heap) (tk : Nat), G items.size h' → (∀ b o, s.heap.get? b = some o → h'.get? b = some o) → Q (.ref s.heap.objs.size) { s with heap := h', toks := tk }) :
    wpAny (model P w) A (call (.type "set") [.ref l]) Q E s := by
  obtain ⟨c, tl, hmro⟩ := F.called_set.mro
  have hmade := F.called_set.made
  have hsub := F.called_set.sub
  refine wpAny_call (codeAny_of_tree ?_)
  show wpAny _ _ (callAny (.type "set") _) _ _ _
  refine wpAny_pure ⟨Code.quiet_builtin _ (by decide +kernel), codeAny_builtin F.entry_type_call ?_⟩
  rw [Around.under_plain (weight_type_call_type "set" [.ref l] []) rfl]
  have f1 := F.called_set.notType
  have f2 := F.called_set.canCreate
  have f3 := F.typeCall_set_1 (.ref l)
  repeat (any_goals (first | assumption | wp_step))
  refine codeAny_mono (code_set_led1 (.ref l) (E := E) (Q₁ := fun obj s₁ => obj = .ref s.heap.objs.size ∧ s₁ = { s with heap := s.heap.push (newSetObj w) }) ⟨rfl, rfl⟩) fun r s₁ hr => ?_
  cases r with
  | error e => exact hr
  | ok fl =>
    cases fl with
    | ret obj =>
      obtain ⟨rfl, rfl⟩ := hr
      have hS : (s.heap.push (newSetObj w)).get? s.heap.objs.size = some (newSetObj w) := Heap.get?_push_size _ rfl
      have hT : Shared.TypeIs { s with heap := s.heap.push (newSetObj w) } (.ref s.heap.objs.size) "set" := ⟨_, hS, rfl⟩
      have f4 := F.called_set.init.lookup
      have f5 := F.called_set.init.bind (.ref s.heap.objs.size)
      repeat (any_goals (first | assumption | wp_step))
      refine codeAny_mono (codeAny_call_builtin (R := wants (fun r s₂ => r = .none ∧ ∃ h' tk, s₂ = { s with heap := h', toks := tk } ∧ G items.size h' ∧ (∀ b o, s.heap.get? b = some o → h'.get? b = some o)) E) F.called_set.init.plain F.entry_set_init (check_set_init_1 hT ?_)) fun r₂ s₂ hr₂ => ?_
      · obtain ⟨ol, hol, hcl, nl, hdl⟩ := hl
        obtain ⟨ocls, odict, odata, oslots⟩ := ol
        simp only at hcl hdl
        subst hcl; subst hdl
        have hol' : (s.heap.push (newSetObj w)).get? l = some { cls := .type "list", dict := odict, data := .seq items nl, slots := oslots } := Heap.get?_push_of_some _ hol
        have f6 := F.sub_list_set
        have f7 := F.sub_list_frozenset
        have f8 : (Value.type "list" == Value.type "dict") = false := by decide
        have hl1 : (s.heap.push (newSetObj w)).IsList l items := ⟨_, hol', rfl, nl, rfl⟩
        unfold Builtin.«set.__init__» noKeywords Builtin.Frozenset.updateFrom
        generalize hPI : pyIter = PI
        wp_walk
        subst hPI
        refine wpAny_pyIter_list hl1 ?_
        refine wpAny_bind (wpAny_runValue ?_)
        have hlS : l < s.heap.objs.size := Heap.lt_size hol
        have hh3 : A.in1.in1.in1.handled = none := by simp [hh]
        have hz1 : (s.heap.push (newSetObj w)).objs.size = s.heap.objs.size + 1 := Heap.size_push ..
        have hneI : l ≠ (s.heap.push (newSetObj w)).objs.size := by
          rw [Heap.size_push]
          exact Nat.ne_of_lt (Nat.lt_succ_of_lt hlS)
        have hSf : s.heap.objs.size ∉ [(s.heap.push (newSetObj w)).objs.size, l] := by
          rw [Heap.size_push]
          simp only [List.mem_cons, List.mem_singleton, List.not_mem_nil, or_false, not_or]
          exact ⟨Nat.ne_of_lt (Nat.lt_succ_self _), Nat.ne_of_gt hlS⟩
        have none_of : ∀ b, s.heap.objs.size ≤ b → s.heap.get? b = none := fun b hb => by
          cases q : s.heap.get? b with
          | none => rfl
          | some o => exact absurd (Nat.lt_of_lt_of_le (Heap.lt_size q) hb) (Nat.lt_irrefl _)
        refine fill_loop ((Walks.list hh3 _ l hneI items).toS) hSf T (fun i v hv => by rw [Array.getElem?_toList]; exact hv) (none_of _ (Nat.le_refl _)) (fun b hb => none_of b (by
            rw [List.mem_singleton.mp hb, Heap.size_push]
            exact Nat.le_succ _)) (by simp only [Around.in1_units]; omega) (items.size - 0) 0 _ (by omega) (Nat.zero_le _)
          ⟨⟨_, Heap.get?_push_size _ rfl, rfl, rfl⟩, (hl1.push _)⟩ (fun b o e => Heap.get?_push_of_some _ (Heap.get?_push_of_some _ e)) (T.start _ (Heap.get?_push_of_some _ hS)) ?hR
        intro s' hm g' hkp
        obtain ⟨h', g2, d', tk', os'⟩ := s'
        have eg : g2 = s.gens := hm.gens
        have ed : d' = s.drawn := hm.drawn
        have eo : os' = s.os := hm.os
        subst eg; subst ed; subst eo
        show wpAny _ _ _ _ _ _
        refine wpAny_pure ?_
        show wpAny _ _ (ret Value.none) _ _ _
        exact wpAny_pure ⟨rfl, h', tk', rfl, g', hkp⟩
      · cases r₂ with
        | error e => exact hr₂
        | ok fl₂ =>
          cases fl₂ with
          | ret r =>
            obtain ⟨rfl, h', tk, rfl, g', hk'⟩ := hr₂
            repeat (any_goals (first | assumption | wp_step))
            exact h _ _ g' hk'
          | _ => exact hr₂.elim
    | _ => exact hr.elim
theorem call_fill_tuple {l : Addr} {items : Array Value} {G : Nat → Heap → Prop} {Q : Value → Shared → Prop} (hh : A.handled = none) (hl : s.heap.IsTuple l items) (T : Fill P w s.heap.objs.size s.heap items.toList G) (hu : A.units + 16 < cLine)
    (h : ∀ (h' : Heap) (tk : Nat), G items.size h' → (∀ b o, s.heap.get? b = some o → h'.get? b = some o) → Q (.ref s.heap.objs.size) { s with heap := h', toks := tk }) :
    wpAny (model P w) A (call (.type "set") [.ref l]) Q E s := by
  obtain ⟨c, tl, hmro⟩ := F.called_set.mro
  have hmade := F.called_set.made
  have hsub := F.called_set.sub
  refine wpAny_call (codeAny_of_tree ?_)
  show wpAny _ _ (callAny (.type "set") _) _ _ _
  refine wpAny_pure ⟨Code.quiet_builtin _ (by decide +kernel), codeAny_builtin F.entry_type_call ?_⟩
  rw [Around.under_plain (weight_type_call_type "set" [.ref l] []) rfl]
  have f1 := F.called_set.notType
  have f2 := F.called_set.canCreate
  have f3 := F.typeCall_set_1 (.ref l)
  repeat (any_goals (first | assumption | wp_step))
  refine codeAny_mono (code_set_led1 (.ref l) (E := E) (Q₁ := fun obj s₁ => obj = .ref s.heap.objs.size ∧ s₁ = { s with heap := s.heap.push (newSetObj w) }) ⟨rfl, rfl⟩) fun r s₁ hr => ?_
  cases r with
  | error e => exact hr
  | ok fl =>
    cases fl with
    | ret obj =>
      obtain ⟨rfl, rfl⟩ := hr
      have hS : (s.heap.push (newSetObj w)).get? s.heap.objs.size = some (newSetObj w) := Heap.get?_push_size _ rfl
      have hT : Shared.TypeIs { s with heap := s.heap.push (newSetObj w) } (.ref s.heap.objs.size) "set" := ⟨_, hS, rfl⟩
      have f4 := F.called_set.init.lookup
      have f5 := F.called_set.init.bind (.ref s.heap.objs.size)
      repeat (any_goals (first | assumption | wp_step))
      refine codeAny_mono (codeAny_call_builtin (R := wants (fun r s₂ => r = .none ∧ ∃ h' tk, s₂ = { s with heap := h', toks := tk } ∧ G items.size h' ∧ (∀ b o, s.heap.get? b = some o → h'.get? b = some o)) E) F.called_set.init.plain F.entry_set_init (check_set_init_1 hT ?_)) fun r₂ s₂ hr₂ => ?_
      · obtain ⟨ol, hol, hcl, nl, hdl⟩ := hl
        obtain ⟨ocls, odict, odata, oslots⟩ := ol
        simp only at hcl hdl
        subst hcl; subst hdl
        have hol' : (s.heap.push (newSetObj w)).get? l = some { cls := .type "tuple", dict := odict, data := .seq items nl, slots := oslots } := Heap.get?_push_of_some _ hol
        have f6 := F.sub_tuple_set
        have f7 := F.sub_tuple_frozenset
        have f8 : (Value.type "tuple" == Value.type "dict") = false := by decide
        have hl1 : (s.heap.push (newSetObj w)).IsTuple l items := ⟨_, hol', rfl, nl, rfl⟩
        unfold Builtin.«set.__init__» noKeywords Builtin.Frozenset.updateFrom
        generalize hPI : pyIter = PI
        wp_walk
        subst hPI
        refine wpAny_pyIter_tuple hl1 ?_
        refine wpAny_bind (wpAny_runValue ?_)
        have hlS : l < s.heap.objs.size := Heap.lt_size hol
        have hh3 : A.in1.in1.in1.handled = none := by simp [hh]
        have hz1 : (s.heap.push (newSetObj w)).objs.size = s.heap.objs.size + 1 := Heap.size_push ..
        have hneI : l ≠ (s.heap.push (newSetObj w)).objs.size := by
          rw [Heap.size_push]
          exact Nat.ne_of_lt (Nat.lt_succ_of_lt hlS)
        have hSf : s.heap.objs.size ∉ [(s.heap.push (newSetObj w)).objs.size, l] := by
          rw [Heap.size_push]
          simp only [List.mem_cons, List.mem_singleton, List.not_mem_nil, or_false, not_or]
          exact ⟨Nat.ne_of_lt (Nat.lt_succ_self _), Nat.ne_of_gt hlS⟩
        have none_of : ∀ b, s.heap.objs.size ≤ b → s.heap.get? b = none := fun b hb => by
          cases q : s.heap.get? b with
          | none => rfl
          | some o => exact absurd (Nat.lt_of_lt_of_le (Heap.lt_size q) hb) (Nat.lt_irrefl _)
        refine fill_loop ((Walks.tuple hh3 _ l hneI items).toS) hSf T (fun i v hv => by rw [Array.getElem?_toList]; exact hv) (none_of _ (Nat.le_refl _)) (fun b hb => none_of b (by
            rw [List.mem_singleton.mp hb, Heap.size_push]
            exact Nat.le_succ _)) (by simp only [Around.in1_units]; omega) (items.size - 0) 0 _ (by omega) (Nat.zero_le _)
          ⟨⟨_, Heap.get?_push_size _ rfl, rfl, rfl⟩, (hl1.push _)⟩ (fun b o e => Heap.get?_push_of_some _ (Heap.get?_push_of_some _ e)) (T.start _ (Heap.get?_push_of_some _ hS)) ?hR
        intro s' hm g' hkp
        obtain ⟨h', g2, d', tk', os'⟩ := s'
        have eg : g2 = s.gens := hm.gens
        have ed : d' = s.drawn := hm.drawn
        have eo : os' = s.os := hm.os
        subst eg; subst ed; subst eo
        show wpAny _ _ _ _ _ _
        refine wpAny_pure ?_
        show wpAny _ _ (ret Value.none) _ _ _
        exact wpAny_pure ⟨rfl, h', tk', rfl, g', hkp⟩
      · cases r₂ with
        | error e => exact hr₂
        | ok fl₂ =>
          cases fl₂ with
          | ret r =>
            obtain ⟨rfl, h', tk, rfl, g', hk'⟩ := hr₂
            repeat (any_goals (first | assumption | wp_step))
            exact h _ _ g' hk'
          | _ => exact hr₂.elim
    | _ => exact hr.elim
end
end Rw
namespace Rw
open PySem PySem.Spec PyProof.Rows PySem.W PySem.SeqAt
/-! ### tuples, perhaps empty ones among them, sorted -/
section
variable {prog : Program} {w : World} {A : Around} {E : Value → Shared → Prop} {s : Shared}
/-- each value is a tuple, and these are their first items -/
inductive Firsts (h : Heap) : List Value → List (Option Value) → Prop
  | nil : Firsts h [] []
  | cons {a : Addr} {o : Obj} {xs : Array Value} {n : Nat} {vs : List Value} {fs : List (Option Value)} : h.get? a = some o → o.cls = .type "tuple" → o.data = .seq xs n → Firsts h vs fs → Firsts h (.ref a :: vs) (xs[0]? :: fs)
theorem Firsts.len {h : Heap} {vs : List Value} {fs : List (Option Value)} (x : Firsts h vs fs) : fs.length = vs.length := by
  induction x with
  | nil => rfl
  | cons _ _ _ _ ih => rw [List.length_cons, List.length_cons, ih]
theorem firsts_run {M : Model} : ∀ (vs : List Value) (fs : List (Option Value)) {Q : List (Option Value) → Shared → Prop}, Firsts s.heap vs fs → Q fs s → wpAny M A (vs.mapM firstOfTuple') Q E s
  | _, _, _, .nil, h => by
    rw [List.mapM_nil]
    exact wpAny_pure h
  | _, _, Q, .cons (a := a) (xs := xs) (vs := vs) (fs := fs) ho hc hd t, h => by
    rw [List.mapM_cons]
    refine wpAny_bind ?_
    rw [kas_first_eq]
    refine wpAny_bind (Looks.here (show Looks M s.heap (typeOf (.ref a)) _ from (Looks.ld ho).andThen .now) ?_)
    rw [hc, if_neg (by first | decide | simp)]
    refine wpAny_bind (listItems_at ho hd (wpAny_pure ?_))
    exact wpAny_bind (firsts_run vs fs (Q := fun bs s' => wpAny M A (pure (xs[0]? :: bs)) Q E s') t (wpAny_pure h))
theorem firsts_ty {M : Model} {h : Heap} {vs : List Value} {fs : List (Option Value)} (x : Firsts h vs fs) : ∀ v ∈ vs, Looks M h (typeOf v) (.type "tuple") := by
  induction x with
  | nil => exact fun v hv => nomatch hv
  | cons ho hc hd _ ih =>
    intro v hv
    rcases List.mem_cons.mp hv with rfl | hv
    · show Looks M h (typeOf (Value.ref _)) (Value.type "tuple")
      exact hc ▸ (Looks.ld ho).andThen .now
    · exact ih v hv
/-- an empty one among the others, not the first -/
theorem kind_general {M : Model} {vs : List Value} {fs : List (Option Value)} {f : Value} {Q : SortKind → Shared → Prop} (x : Firsts s.heap vs fs) (h0 : fs[0]? = some (some f)) (hn : none ∈ fs) (h : Q general' s) : wpAny M A (keyKind' vs.toArray) Q E s := by
  rw [kat_kind_eq, List.mapM_toArray, map_eq_pure_bind]
  refine wpAny_bind (wpAny_bind (firsts_run vs fs x (wpAny_pure ?_)))
  have c : ¬ ((fs.toArray.all fun x => x.isSome) = true) := by
    intro q
    rw [List.all_toArray, List.all_eq_true] at q
    exact absurd (q none hn) (by simp)
  rw [if_neg c]
  have c2 : ((fs.toArray[0]?.bind id).isSome) = true := by
    have e : fs.toArray[0]? = some (some f) := by simpa using h0
    rw [e]
    rfl
  rw [if_pos c2]
  exact wpAny_pure h
/-- the first is empty -/
theorem kind_one {M : Model} {vs : List Value} {fs : List (Option Value)} {Q : SortKind → Shared → Prop} (x : Firsts s.heap vs fs) (h0 : fs[0]? = some none) (h : Q oneType' s) : wpAny M A (keyKind' vs.toArray) Q E s := by
  rw [kat_kind_eq, List.mapM_toArray, map_eq_pure_bind]
  refine wpAny_bind (wpAny_bind (firsts_run vs fs x (wpAny_pure ?_)))
  have c : ¬ ((fs.toArray.all fun x => x.isSome) = true) := by
    intro q
    rw [List.all_toArray, List.all_eq_true] at q
    exact absurd (q none (List.mem_of_getElem? h0)) (by simp)
  rw [if_neg c]
  have e : fs.toArray[0]? = some none := by simpa using h0
  have c2 : ¬ ((fs.toArray[0]?.bind id).isSome) = true := by
    rw [e]
    simp
  rw [if_neg c2, oneTypeOnly'_eq, List.mapM_toArray, map_eq_pure_bind]
  refine wpAny_bind (wpAny_bind (wpAny_bind (kas_mapM (r := Value.type "tuple") _ (fun v hv Q' hq => (firsts_ty x v hv).here hq) (wpAny_pure ?_))))
  have all : ((List.map (fun _ => Value.type "tuple") vs).toArray.all fun x => x == Value.type "tuple") = true := by
    simp only [List.all_toArray, List.all_map, List.all_eq_true]
    intro _ _
    show (Value.type "tuple" == Value.type "tuple") = true
    decide
  obtain ⟨v, r, ev⟩ : ∃ v r, vs = v :: r := by
    cases x with
    | nil => simp at h0
    | cons _ _ _ _ => exact ⟨_, _, rfl⟩
  have z : (List.map (fun _ => Value.type "tuple") vs).toArray[0]? = some (Value.type "tuple") := by
    rw [ev]
    simp
  rw [z]
  simp only [all, if_true]
  exact wpAny_pure (wpAny_pure h)
/-- by the type's own < -/
theorem oneLt_tuples {xs ys : List PyData} {a b : Value} {as bs : List Addr} {Q : Bool → Shared → Prop} (ra : Reads s.heap a (.tuple xs) as) (rb : Reads s.heap b (.tuple ys) bs) (hal : alikeAll xs ys = true)
    (hu : A.units + min (PyData.tuple xs).depth (PyData.tuple ys).depth < cLine) (hq : Q (dataLt (.tuple xs) (.tuple ys)) s) : wpAny (model prog w) A (oneLt' true a b) Q E s := by
  cases ra with
  | @tuple l o vs n _ _ h1 h2 h3 h4 =>
    cases rb with
    | @tuple l' o' vs' n' _ _ k1 k2 k3 k4 =>
      have n1 : vs.size = xs.length := by simpa using SeqAt.ReadsAll.length _ _ _ h4
      have n2 : vs'.size = ys.length := by simpa using SeqAt.ReadsAll.length _ _ _ k4
      rw [dataLt_tuple, ← firstLt_toks xs ys hal, ← n1, ← n2] at hq
      rw [oneLt'_eq]
      simp only [if_true]
      refine wpAny_bind (wpAny_cRoomFor (SeqAt.room_here hu) ?_)
      obtain ⟨ocls, odict, odata, oslots⟩ := o
      obtain ⟨pcls, pdict, pdata, pslots⟩ := o'
      simp only at h2 h3 k2 k3
      subst h2 h3 k2 k3
      refine wpAny_bind (wpAny_callSpecialIfBound?_slot (T := "tuple") ⟨_, h1, rfl⟩ F.slot_tuple_lt (call_meets F.slot_tuple_lt ⟨_, h1, rfl⟩ F.entry_tuple_lt (F.args_tuple_lt_2 _ _)
        (SeqAt.tuple_ltAt l l' vs vs' n n' odict pdict oslots pslots (pairEq xs ys) (fun j => dataLt (xs.getD j .none) (ys.getD j .none))) ⟨h1, k1, fun j j1 j2 => ?_, fun j j1 j2 hj => ?_, ?_⟩))
      · have := eqAt_alikeAll xs ys A.in1 s vs.toList vs'.toList _ _ h4 k4 hal (SeqAt.room_in hu) j (by simpa using j1) (by simpa using j2)
        simpa using this
      · have := rcLt_alikeAll xs ys A.in1 s vs.toList vs'.toList _ _ h4 k4 hal (SeqAt.room_in hu) j (by simpa using j1) (by simpa using j2) hj
        simpa using this
      · exact wpAny_truthy_bool hq
theorem firsts_of {h : Heap} : ∀ {vs : List Value} {ds : List PyData}, EachIs (fun v d => ∃ as, Reads h v d as) vs ds → (∀ d ∈ ds, ∃ xs, d = .tuple xs) → ∃ fs, Firsts h vs fs ∧ ∀ i : Nat, fs[i]? = some none ↔ ds[i]? = some (.tuple [])
  | _, _, .nil, _ => ⟨[], .nil, fun i => by simp⟩
  | _, _, .cons (b := d) ⟨as, r⟩ t, ht => by
    obtain ⟨fs, h1, h2⟩ := firsts_of t fun d hd => ht d (List.mem_cons_of_mem _ hd)
    obtain ⟨xs, rfl⟩ := ht d List.mem_cons_self
    cases r with
    | @tuple a o vs n _ _ ho hc hd hr =>
      refine ⟨_, .cons ho hc hd h1, fun i => ?_⟩
      cases i with
      | succ i => simpa using h2 i
      | zero =>
        have hl := SeqAt.ReadsAll.length _ _ _ hr
        rw [Array.length_toList] at hl
        simp only [List.getElem?_cons_zero, Option.some.injEq]
        constructor
        · intro q
          have z : vs.size = 0 := by
            have := Array.getElem?_eq_none_iff.mp q
            omega
          rw [z] at hl
          rw [List.length_eq_zero_iff.mp hl.symm]
        · intro q
          injection q with q
          subst q
          rw [List.length_nil] at hl
          exact Array.getElem?_eq_none (by omega)
/-- tuples of alike data can be sorted, empty ones too -/
theorem SortsAt.tups {vs : List Value} {ds : List PyData} (e : EachIs (fun v d => ∃ as, Reads s.heap v d as) vs ds) (hal : AllAlike ds) (ht : ∀ d ∈ ds, ∃ xs, d = .tuple xs) (hu : ∀ d, d ∈ ds → A.units + d.depth < cLine) : SortsAt prog w A s (dataKind s.heap ds) vs := by
  by_cases full : ∀ d ∈ ds, ∃ x r, d = .tuple (x :: r)
  · exact SortsAt.data e hal (.inl full) hu
  have hollow : PyData.tuple [] ∈ ds := by
    refine Classical.byContradiction fun hn => full fun d hd => ?_
    obtain ⟨xs, rfl⟩ := ht d hd
    cases xs with
    | nil => exact absurd hd hn
    | cons x r => exact ⟨x, r, rfl⟩
  have room : ∀ {d d' : PyData}, d ∈ ds → A.units + min d.depth d'.depth < cLine := fun {d d'} hd => Nat.lt_of_le_of_lt (Nat.add_le_add_left (Nat.min_le_left _ _) _) (hu d hd)
  refine ⟨fun v hv => ?_, ?_⟩
  · obtain ⟨d, hd, as, r⟩ := e.left v hv
    exact ⟨_, dataKind_some hal hd r⟩
  obtain ⟨fs, f1, f2⟩ := firsts_of e ht
  obtain ⟨i0, hi0, ei0⟩ := List.getElem_of_mem hollow
  have hnone : none ∈ fs := List.mem_of_getElem? ((f2 i0).mpr (by rw [List.getElem?_eq_getElem hi0, ei0]))
  have side : ∀ {x y : Value} {a b : List (Int ⊕ List Nat)}, (dataKind s.heap ds).keyOf x = some a → (dataKind s.heap ds).keyOf y = some b →
      ∃ xs ys as bs, Reads s.heap x (.tuple xs) as ∧ Reads s.heap y (.tuple ys) bs ∧ alike (.tuple xs) (.tuple ys) = true ∧ a = keyToks (.tuple xs) ∧ b = keyToks (.tuple ys) ∧ A.units + min (PyData.tuple xs).depth (PyData.tuple ys).depth < cLine := by
    intro x y a b ha hb
    obtain ⟨d, as, hd, ra, rfl⟩ := dataKind_inv ha
    obtain ⟨d', bs, hd', rb, rfl⟩ := dataKind_inv hb
    obtain ⟨xs, rfl⟩ := ht d hd
    obtain ⟨ys, rfl⟩ := ht d' hd'
    exact ⟨xs, ys, as, bs, ra, rb, hal _ hd _ hd', rfl, rfl, room hd⟩
  cases hz : fs[0]? with
  | none =>
    have : fs = [] := by
      cases fs with
      | nil => rfl
      | cons f r => simp at hz
    rw [this] at hnone
    exact nomatch hnone
  | some f =>
    cases f with
    | some f =>
      refine ⟨general', fun E x y a b Q ha hb hq => ?_, fun _ E Q hq => kind_general f1 hz hnone hq⟩
      obtain ⟨xs, ys, as, bs, ra, rb, hh, rfl, rfl, hr⟩ := side ha hb
      show wpAny _ _ (oneLt' false x y) _ _ _
      exact oneLt_alike (fun z => absurd z Bool.false_ne_true) ra rb hh (fun z => nomatch z) hr hq
    | none =>
      refine ⟨oneType', fun E x y a b Q ha hb hq => ?_, fun _ E Q hq => kind_one f1 hz hq⟩
      obtain ⟨xs, ys, as, bs, ra, rb, hh, rfl, rfl, hr⟩ := side ha hb
      rw [keyLt'_oneType]
      exact oneLt_tuples ra rb (by simpa [alike] using hh) hr hq
end
end Rw
namespace Rw
open PySem PySem.Spec PyProof.Rows L2 PySem.Froz
/-! ### filling a set with tuples -/
structure GotN (ks : List (Addr × NK)) (i : Nat) (L : List (Addr × NK)) : Prop where
  sub : ∀ p ∈ L, p ∈ ks.take i
  all : ∀ p ∈ ks.take i, p.2 ∈ L.map (·.2)
  len : L.length ≤ i
theorem take_snoc {α : Type} {l : List α} {i : Nat} {x : α} (h : l[i]? = some x) : l.take (i + 1) = l.take i ++ [x] := by
  rw [List.take_succ, h]
  rfl
theorem GotN.next {ks L L' : List (Addr × NK)} {i : Nat} {x : Addr × NK} (g : GotN ks i L) (h : ks[i]? = some x) (c1 : x.2 ∈ L.map (·.2) → L' = L) (c2 : x.2 ∉ L.map (·.2) → L'.Perm (x :: L)) : GotN ks (i + 1) L' := by
  have ht := take_snoc h
  by_cases hm : x.2 ∈ L.map (·.2)
  · rw [c1 hm]
    refine ⟨fun p hp => ?_, fun p hp => ?_, Nat.le_succ_of_le g.len⟩
    · rw [ht]
      exact List.mem_append_left _ (g.sub p hp)
    · rw [ht] at hp
      rcases List.mem_append.mp hp with z | z
      · exact g.all p z
      · rw [List.mem_singleton.mp z]
        exact hm
  · have pm := c2 hm
    refine ⟨fun p hp => ?_, fun p hp => ?_, ?_⟩
    · rw [ht]
      rcases List.mem_cons.mp (pm.mem_iff.mp hp) with e | z
      · rw [e]
        exact List.mem_append_right _ (List.mem_singleton.mpr rfl)
      · exact List.mem_append_left _ (g.sub p z)
    · rw [(pm.map (·.2)).mem_iff, List.map_cons]
      rw [ht] at hp
      rcases List.mem_append.mp hp with z | z
      · exact List.mem_cons_of_mem _ (g.all p z)
      · rw [List.mem_singleton.mp z]
        exact List.mem_cons_self
    · rw [pm.length_eq, List.length_cons]
      exact Nat.succ_le_succ g.len
theorem led_new (w : World) : w.params.followText "set-order" = true ∨ (!w.params.followText "set-order") = true := by
  cases w.params.followText "set-order"
  · exact .inr rfl
  · exact .inl rfl
section
variable {P : Program} {w : World} {A : Around} {E : Value → Shared → Prop} {s : Shared}
theorem TSet.empty {h : Heap} {a : Addr} (ho : h.get? a = some (newSetObj w)) : TSet P w h a [] #[] 0 (.fresh 0 0 (!w.params.followText "set-order")) where
  ob := ⟨_, ho, ⟨rfl, rfl, rfl⟩, rfl⟩
  en := rfl
  tab := ⟨List.Pairwise.nil, rfl, rfl, .inl rfl, fun x hx => (by cases hx), fun i h j hi => (by simp [hashes] at hi)⟩
  nd := List.nodup_nil
  ks := fun p hp => (by cases hp)
  led := led_new w
  room := by
    show 0 * 5 < 7 * 3
    decide
  few := by
    show 0 < 76
    decide
theorem TSet.moved {h h' : Heap} {a : Addr} {L : List (Addr × NK)} {es : Array (Int × Value)} {ep : Nat} {t : SetTable} (R : TSet P w h a L es ep t) (ha : ∀ o, h.get? a = some o → h'.get? a = some o) (ht : ∀ p ∈ L, TupK h' p.2 p.1) : TSet P w h' a L es ep t := by
  obtain ⟨o, ho, r⟩ := R.ob
  exact ⟨⟨o, ha o ho, r⟩, R.en, R.tab, R.nd, ht, R.led, R.room, R.few⟩
theorem fill_tups (S : Addr) (h0 : Heap) (ks : List (Addr × NK)) (hk : ∀ p ∈ ks, TupK h0 p.2 p.1) (few : ks.length < 76) :
    Fill P w S h0 (ks.map fun p => Value.ref p.1) (fun i h => ∃ L es ep t, TSet P w h S L es ep t ∧ GotN ks i L) where
  start := fun h ho => ⟨[], #[], 0, _, TSet.empty ho, ⟨fun p hp => (by cases hp), fun p hp => (by simp at hp), Nat.le_refl _⟩⟩
  keep := fun i h h' ⟨L, es, ep, t, R, g⟩ ha hold => ⟨L, es, ep, t, R.moved ha fun p hp => (hk p (List.mem_of_mem_take (g.sub p hp))).kept hold, g⟩
  put := fun i v A E s Q hu hv ⟨L, es, ep, t, R, g⟩ hold hQ => by
    rw [List.getElem?_map] at hv
    cases hx : ks[i]? with
    | none => rw [hx] at hv; simp at hv
    | some x =>
      rw [hx] at hv
      obtain rfl : Value.ref x.1 = v := Option.some.inj hv
      have il : i < ks.length := (List.getElem?_eq_some_iff.mp hx).1
      have hxk := (hk x (List.mem_of_getElem? hx)).kept hold
      unfold setAdd
      refine wpAny_holding ?_
      refine wpAny_bind ((nestedKind P w).pyHash (k := x.2) (show A.units + 8 < cLine from hu) hxk ?_)
      refine added (s := { s with toks := s.toks + (nestedKind P w).draws x.2 }) R hxk hu (by have := g.len; omega) fun b h' L' es' ep' t' sb R' c1 c2 => ?_
      exact hQ b h' _ (Nat.le_add_right _ _) sb ⟨L', es', ep', t', R', g.next hx c1 c2⟩
/-! ### filling a set with texts -/
structure XSet (P : Program) (w : World) (h : Heap) (a : Addr) (ms : List Str) (es : Array (Int × Value)) (ep : Nat) (t : SetTable) : Prop where
  ob : h.get? a = some (sObj "set" (es, ep, t))
  ok : TxOk P w (es, ep, t) ms
  nd : ms.Nodup
  ris : Ris t.place.toList
  led : w.params.followText "set-order" = true ∨ t.led = true
theorem add_ris {g : Int} {v : Value} {D : SD} (h : Ris D.2.2.place.toList) : Ris (addTx g v D).2.2.place.toList ∧ (addTx g v D).2.2.led = D.2.2.led := by
  obtain ⟨es, ep, t⟩ := D
  have n1 := layNew_ris t es g v h
  have n2 := layNew_led t es g v
  unfold addTx tailTx
  dsimp only at n1 n2 ⊢
  generalize layNew t es g v = N at n1 n2 ⊢
  obtain ⟨es1, t1, wd, gv⟩ := N
  dsimp only at n1 n2 ⊢
  have m1 : Ris (if t1.plain = true then { t1 with plain := false } else t1).place.toList ∧ (if t1.plain = true then { t1 with plain := false } else t1).led = t.led := by
    split <;> exact ⟨n1, n2⟩
  generalize (if t1.plain = true then { t1 with plain := false } else t1) = t2 at m1 ⊢
  split
  · exact ⟨relayAll_ris t2 es1 _, (relayAll_led t2 es1 _).trans m1.2⟩
  · exact m1
theorem XSet.moved {h h' : Heap} {a : Addr} {ms : List Str} {es : Array (Int × Value)} {ep : Nat} {t : SetTable} (R : XSet P w h a ms es ep t) (ha : ∀ o, h.get? a = some o → h'.get? a = some o) : XSet P w h' a ms es ep t :=
  ⟨ha _ R.ob, R.ok, R.nd, R.ris, R.led⟩
/-- a text that is in the set is put in again -/
theorem again_in {a : Addr} {ms : List Str} {es : Array (Int × Value)} {ep : Nat} {t : SetTable} {k : Str} {u : Tok} {Q : Bool → Shared → Prop} (R : XSet P w s.heap a ms es ep t) (hk : k ∈ ms) (hb : ms.length < scanBound) (h : Q false s) :
    wpAny (model P w) A (setAddHashed a (.str k u) (hashStr w k)) Q E s := by
  have hel : ElemsOf (strKind P w) es.toList := R.ok.el
  have hsz : es.size = ms.length := R.ok.sz
  have hf : t.fits es.size = true := R.ok.fit
  have hd : (sObj "set" (es, ep, t)).data = .set es ep t := rfl
  have hkey : (strKind P w).is k (.str k u) = true := is_str k u
  obtain ⟨e, he, hp⟩ := (R.ok.mem k).mp hk
  unfold setAddHashed setAddHashedIn
  refine wpAny_holding (wpAny_bind (wpAny_setState_of R.ob hd hf ?_))
  dsimp only
  rw [byScan_of rfl (by omega) hel]
  simp only [↓reduceIte]
  unfold setAddByScan
  refine wpAny_bind (wpAny_bind (wpAny_rule (wpAny_bind (wpAny_setScan_of (knd := strKind P w) (k := k) hkey R.ob hd hf hel ?_))))
  cases hr : List.findIdx? (fun e => (strKind P w).is k e.2) es.toList with
  | none =>
    have z := List.findIdx?_eq_none_iff.mp hr e he
    rw [hp] at z
    exact nomatch z
  | some j =>
    dsimp only
    exact wpAny_pure (wpAny_pure h)
theorem put_text {a : Addr} {ms : List Str} {es : Array (Int × Value)} {ep : Nat} {t : SetTable} {k : Str} {u : Tok} {Q : Bool → Shared → Prop} (R : XSet P w s.heap a ms es ep t) (hb : ms.length + 1 < scanBound)
    (h : ∀ b h' ms' es' ep' t', Heap.SameBut a s.heap h' → XSet P w h' a ms' es' ep' t' → (∀ z, z ∈ ms' ↔ z = k ∨ z ∈ ms) → ms'.length ≤ ms.length + 1 → Q b { s with heap := h' }) :
    wpAny (model P w) A (setAddHashed a (.str k u) (hashStr w k)) Q E s := by
  by_cases hk : k ∈ ms
  · refine again_in R hk (by omega) (h false s.heap ms es ep t (Heap.SameBut.refl a s.heap) R (fun z => ⟨.inr, fun q => q.elim (fun e => e ▸ hk) id⟩) (Nat.le_succ _))
  · refine add_x R.ob R.ok hk hb ?_
    have sb : Heap.SameBut a s.heap (s.heap.update a (fun _ => sObj "set" (addTx (hashStr w k) (.str k u) (es, ep, t)))) := Heap.SameBut.update ..
    have ho : (s.heap.update a (fun _ => sObj "set" (addTx (hashStr w k) (.str k u) (es, ep, t)))).get? a = some (sObj "set" (addTx (hashStr w k) (.str k u) (es, ep, t))) := get_upd _ R.ob rfl
    have ok := add_ok u R.ok (k := k)
    have rl := add_ris (g := hashStr w k) (v := .str k u) (D := (es, ep, t)) R.ris
    generalize addTx (hashStr w k) (.str k u) (es, ep, t) = D at sb ho ok rl ⊢
    obtain ⟨es', ep', t'⟩ := D
    refine h true _ (k :: ms) es' ep' t' sb ⟨ho, ok, List.nodup_cons.mpr ⟨hk, R.nd⟩, rl.1, ?_⟩ (fun z => List.mem_cons) (Nat.le_refl _)
    have e : t'.led = t.led := rl.2
    rw [e]
    exact R.led
theorem fill_texts (S : Addr) (h0 : Heap) (zs : List Str) {vs : List Value} (hv : PySem.W.EachIs (fun v z => ∃ u, v = Value.str z u) vs zs) (few : zs.length + 1 < scanBound) :
    Fill P w S h0 vs (fun i h => ∃ ms es ep t, XSet P w h S ms es ep t ∧ (∀ z, z ∈ ms ↔ z ∈ zs.take i) ∧ ms.length ≤ i) where
  start := fun h ho => ⟨[], #[], 0, _, ⟨ho, TxOk.nil rfl, List.nodup_nil, List.Pairwise.nil, led_new w⟩, fun z => by simp, Nat.le_refl _⟩
  keep := fun i h h' ⟨ms, es, ep, t, R, g⟩ ha _ => ⟨ms, es, ep, t, R.moved ha, g⟩
  put := fun i v A E s Q hu hvi ⟨ms, es, ep, t, R, g, hl⟩ hold hQ => by
    have hlen := hv.length
    have il : i < vs.length := (List.getElem?_eq_some_iff.mp hvi).1
    have iz : i < zs.length := by omega
    have hz : zs[i]? = some zs[i] := List.getElem?_eq_getElem iz
    have pz : (v, zs[i]) ∈ vs.zip zs := List.mem_of_getElem? (i := i) (by rw [List.getElem?_zip_eq_some]; exact ⟨hvi, hz⟩)
    obtain ⟨u, rfl⟩ : ∃ u, v = Value.str zs[i] u := hv.zip _ pz
    unfold setAdd
    refine wpAny_holding ?_
    refine wpAny_bind ((strKind P w).pyHash (k := zs[i]) (is_str _ _) ?_)
    refine put_text (s := { s with toks := s.toks + 1 }) R (by omega) fun b h' ms' es' ep' t' sb R' hm hl' => ?_
    refine hQ b h' _ (Nat.le_succ _) sb ⟨ms', es', ep', t', R', fun z => ?_, by omega⟩
    rw [hm, take_snoc hz, List.mem_append, List.mem_singleton, g z]
    exact ⟨fun q => q.elim .inr .inl, fun q => q.elim .inr .inl⟩
/-! ### sorted of a set -/
theorem each_perm {α β : Type} {R : α → β → Prop} {l l' : List α} (p : l'.Perm l) : ∀ {bs : List β}, PySem.W.EachIs R l bs → ∃ bs', PySem.W.EachIs R l' bs' ∧ bs'.Perm bs := by
  induction p with
  | nil => exact fun {bs} e => ⟨bs, e, List.Perm.refl _⟩
  | cons x _ ih =>
    intro bs e
    cases e with
    | cons h t =>
      obtain ⟨bs', e', p'⟩ := ih t
      exact ⟨_ :: bs', .cons h e', p'.cons _⟩
  | swap x y l =>
    intro bs e
    cases e with
    | cons h t =>
      cases t with
      | cons h' t' => exact ⟨_, .cons h' (.cons h t'), List.Perm.swap _ _ _⟩
  | trans _ _ ih1 ih2 =>
    intro bs e
    obtain ⟨b1, e1, p1⟩ := ih2 e
    obtain ⟨b2, e2, p2⟩ := ih1 e1
    exact ⟨b2, e2, p2.trans p1⟩
open PySem.W in
theorem each_and {α β : Type} {R S : α → β → Prop} : ∀ {as : List α} {bs : List β}, EachIs R as bs → EachIs S as bs → EachIs (fun a b => R a b ∧ S a b) as bs
  | _, _, .nil, .nil => .nil
  | _, _, .cons h t, .cons h' t' => .cons ⟨h, h'⟩ (each_and t t')
open PySem.W in
/-- xs.sort(): the list's own object then holds the sorted values -/
theorem list_sorts {β : Type} {a : Addr} {n : Nat} {vs : List Value} {bs : List β} {enc : β → PyData} {R : Value → β → Prop} {Q : Value → Shared → Prop} (ho : s.heap.get? a = some (seqObj "list" vs.toArray n)) (e : EachIs R vs bs) (er : EachIs (fun v b => ∃ as, Reads s.heap v (enc b) as ∧ a ∉ as) vs bs) (hal : AllAlike (bs.map enc)) (hk : (∀ d ∈ bs.map enc, ∃ xs, d = .tuple xs) ∨ Sortable (bs.map enc)) (hL : bs.length ≤ sizeLine)
    (hu : ∀ b, b ∈ bs → A.units + 1 + (enc b).depth < cLine) (h : ∀ out, out.length = bs.length → EachIs R out (bs.mergeSort (dataLe false enc)) → Q .none { s with heap := sortedHeap s.heap a vs (List.toArray out) }) :
    wpAny (model P w) A (call (.builtin "list.sort") [.ref a]) Q E s := by
  have er' : EachIs (fun v b => ∃ as, Reads (sortingHeap s.heap a vs) v (enc b) as) vs bs := each_keepBut (h' := sortingHeap s.heap a vs) (fun _ _ hb q => sortingHeap_old hb q) (fun o q => by rw [ho] at q; rw [← Option.some.inj q]) hal er
  have em := each_map (R := fun v d => ∃ as, Reads (sortingHeap s.heap a vs) v d as) enc er'
  have can : SortsAt P w A.in1 { s with heap := sortingHeap s.heap a vs } (dataKind (sortingHeap s.heap a vs) (bs.map enc)) vs := by
    rcases hk with ht | hs
    · exact SortsAt.tups (s := { s with heap := sortingHeap s.heap a vs }) em hal ht (bound_map hu)
    · exact SortsAt.data (s := { s with heap := sortingHeap s.heap a vs }) em hal hs (bound_map hu)
  refine wpAny_call_entry slot_list_sort ⟨_, ho, rfl⟩ entry_list_sort (list_sort_vals (κ := dataKind (sortingHeap s.heap a vs) (bs.map enc)) ho can (by rw [e.length]; exact hL) ⟨.none, rfl, ?_⟩) (args_list_sort _)
  exact h _ (by rw [sortVals_length false rfl]; exact e.length) (sortVals_data false e er' hal)
open PySem.W in
theorem sort_facts {β : Type} (enc : β → PyData) (bs : List β) : (bs.mergeSort (dataLe false enc)).Perm bs ∧ (bs.mergeSort (dataLe false enc)).Pairwise (fun a b => dataLe false enc a b = true) :=
  ⟨List.mergeSort_perm _ _, sort_pairwise (sortLe_total (listOrd itemOrd) false fun b => keyToks (enc b)) bs⟩
open PySem.W in
theorem sorted_coll {β : Type} {a : Addr} {es : Array (Int × Value)} {ep : Nat} {t : SetTable} {bs : List β} {enc : β → PyData} {R : Value → β → Prop} {Q : Value → Shared → Prop} (hh : A.handled = none) (ha : SetAt s.heap a es ep t) (hf : t.fits es.size = true) (hsz : es.size < scanBound) (r : Ris t.place.toList)
    (hl : w.params.followText "set-order" = true ∨ t.led = true) (e : EachIs R (es.toList.map (·.2)) bs) (er : EachIs (fun v b => ∃ as, Reads s.heap v (enc b) as ∧ ∀ c ∈ as, c < s.heap.objs.size) (es.toList.map (·.2)) bs)
    (hal : AllAlike (bs.map enc)) (hk : (∀ d ∈ bs.map enc, ∃ xs, d = .tuple xs) ∨ Sortable (bs.map enc)) (hu : ∀ b, b ∈ bs → A.units + 3 + (enc b).depth < cLine)
    (hQ : ∀ s' p (out : Array Value) (c : Nat) (bs' : List β), (∀ b o, s.heap.get? b = some o → s'.heap.get? b = some o) → s'.gens = s.gens → s'.os = s.os → s.heap.objs.size ≤ p → s'.heap.get? p = some (seqObj "list" out c) →
      EachIs R out.toList bs' → bs'.Perm bs → bs'.Pairwise (fun a b => dataLe false enc a b = true) → Q (.ref p) s') :
    wpAny (model P w) A (call (.builtin "sorted") [.ref a]) Q E s := by
  refine Calls.call_function_entry kind_sorted plain_sorted entry_sorted (args_sorted1 _) ?_
  unfold Builtin.«sorted»
  refine wpAny_bind (m := checkCount "sorted" 1 1 _) (wpAny_pure ?_)
  refine wpAny_bind (collect_set (A := A.in1) hh ha hf hsz r hl fun s1 vs k1 hz g1 o1 pm => ?_)
  obtain ⟨bs1, e1, p1⟩ := each_perm pm (each_and e er)
  have lb : bs.length = es.size := by rw [← e.length, List.length_map, Array.length_toList]
  have lv : vs.length = bs1.length := e1.length
  have l1 : bs1.length = bs.length := p1.length_eq
  have sl : scanBound = 4096 := rfl
  refine wpAny_bind (wpAny_newList ?_ (by rw [sizeLine_eq]; omega))
  have hoL : (s1.heap.push (seqObj "list" vs.toArray 0)).get? s1.heap.objs.size = some (seqObj "list" vs.toArray 0) := Heap.get?_push_size _ rfl
  have mem1 : ∀ d, d ∈ bs1.map enc ↔ d ∈ bs.map enc := fun d => (p1.map enc).mem_iff
  refine wpAny_bind (wpAny_holding (list_sorts (s := { s1 with heap := s1.heap.push (seqObj "list" vs.toArray 0) }) (enc := enc) (R := R) hoL (e1.mono fun _ _ z => z.1)
    (e1.mono fun v b z => ?_) (fun d hd d' hd' => hal d ((mem1 d).mp hd) d' ((mem1 d').mp hd')) ?_ (by rw [sizeLine_eq]; omega) (fun b hb => ?_) fun out ho eo => ?_))
  · obtain ⟨_, as, rd, lo⟩ := z
    refine ⟨as, PyProof.Rows.Reads.keeps (fun c o q => Heap.get?_push_of_some _ (k1 c o q)) rd, fun hm => ?_⟩
    exact absurd (Nat.lt_of_lt_of_le (lo _ hm) hz) (Nat.lt_irrefl _)
  · rcases hk with ht | hs
    · exact .inl fun d hd => ht d ((mem1 d).mp hd)
    · rcases hs with h1 | h2
      · exact .inr (.inl fun d hd => h1 d ((mem1 d).mp hd))
      · exact .inr (.inr fun d hd => h2 d ((mem1 d).mp hd))
  · have := hu b (p1.mem_iff.mp hb)
    simp only [Around.in1_units]
    omega
  · obtain ⟨c, hc⟩ := sortedHeap_at (vs := vs) (out := out.toArray) hoL
    have sf := sort_facts enc bs1
    refine wpAny_pure ⟨_, rfl, hQ _ s1.heap.objs.size out.toArray c (bs1.mergeSort (dataLe false enc)) (fun b u q => ?_) g1 o1 hz hc (by simpa using eo) (sf.1.trans p1) sf.2⟩
    have q1 := k1 b u q
    have hlt := Heap.lt_size q1
    show (sortedHeap (s1.heap.push (seqObj "list" vs.toArray 0)) s1.heap.objs.size vs out.toArray).get? b = some u
    rw [sortedHeap_old (Nat.ne_of_lt hlt) (by rw [size_push']; exact Nat.lt_succ_of_lt hlt)]
    exact Heap.get?_push_of_some _ q1
end
end Rw
namespace Rw
open PySem PySem.Spec PyProof.Rows L2 PySem.Froz
/-! ### data made of texts, whole numbers, None and tuples -/
mutual
def okD : PyData → Bool
  | .none => true
  | .int _ => true
  | .str _ => true
  | .tuple xs => okDs xs
  | .bool _ => false
  | .list _ => false
  | .dict _ => false
def okDs : List PyData → Bool
  | [] => true
  | x :: xs => okD x && okDs xs
end
mutual
def toK : PyData → NK
  | .none => .none
  | .int i => .num i
  | .str x => .text x
  | .tuple xs => .tup (toKs xs)
  | .bool _ => .none
  | .list _ => .none
  | .dict _ => .none
def toKs : List PyData → List NK
  | [] => []
  | x :: xs => toK x :: toKs xs
end
theorem okDs_cons {x : PyData} {xs : List PyData} (h : okDs (x :: xs) = true) : okD x = true ∧ okDs xs = true := by
  rw [okDs, Bool.and_eq_true] at h
  exact h
mutual
theorem toK_data : ∀ d : PyData, okD d = true → (toK d).data = d
  | .none, _ => by simp [toK, NestedKey.data]
  | .int _, _ => by simp [toK, NestedKey.data]
  | .str _, _ => by simp [toK, NestedKey.data]
  | .tuple xs, h => by
    rw [okD] at h
    rw [toK, NestedKey.data, toKs_data xs h]
  | .bool _, h => by simp [okD] at h
  | .list _, h => by simp [okD] at h
  | .dict _, h => by simp [okD] at h
theorem toKs_data : ∀ ds : List PyData, okDs ds = true → NestedKey.datas (toKs ds) = ds
  | [], _ => by simp [toKs, NestedKey.datas]
  | x :: xs, h => by
    obtain ⟨h1, h2⟩ := okDs_cons h
    rw [toKs, NestedKey.datas, toK_data x h1, toKs_data xs h2]
end
theorem toK_inj {d e : PyData} (hd : okD d = true) (he : okD e = true) (h : toK d = toK e) : d = e := by
  rw [← toK_data d hd, ← toK_data e he, h]
mutual
theorem toK_depth : ∀ d : PyData, (toK d).depth ≤ d.depth
  | .none => by simp [toK, NestedKey.depth]
  | .int _ => by simp [toK, NestedKey.depth]
  | .str _ => by simp [toK, NestedKey.depth]
  | .tuple xs => by
    have z := toKs_depth xs
    rw [toK, NestedKey.depth, PyData.depth]
    omega
  | .bool _ => by simp [toK, NestedKey.depth]
  | .list _ => by simp [toK, NestedKey.depth]
  | .dict _ => by simp [toK, NestedKey.depth]
theorem toKs_depth : ∀ ds : List PyData, NestedKey.depthAll (toKs ds) ≤ PyData.depthAll ds
  | [] => by simp [toKs, NestedKey.depthAll]
  | x :: xs => by
    have z1 := toK_depth x
    have z2 := toKs_depth xs
    rw [toKs, NestedKey.depthAll, PyData.depthAll]
    omega
end
mutual
theorem isK_of : ∀ (d : PyData) (h : Heap) (v : Value) (as : List Addr), okD d = true → Reads h v d as → NestedIs h (toK d) v ∧ as = []
  | .none, _, _, _, _, r => by
    cases r
    exact ⟨.none, rfl⟩
  | .int _, _, _, _, _, r => by
    cases r
    exact ⟨.int _ _, rfl⟩
  | .str _, _, _, _, _, r => by
    cases r
    exact ⟨.text _ _, rfl⟩
  | .tuple xs, h, _, _, ok, r => by
    rw [okD] at ok
    cases r with
    | tuple h1 h2 h3 h4 =>
      obtain ⟨k, e⟩ := isKs_of xs h _ _ ok h4
      exact ⟨.tup h1 h2 h3 k, e⟩
  | .bool _, _, _, _, ok, _ => by simp [okD] at ok
  | .list _, _, _, _, ok, _ => by simp [okD] at ok
  | .dict _, _, _, _, ok, _ => by simp [okD] at ok
theorem isKs_of : ∀ (ds : List PyData) (h : Heap) (vs : List Value) (as : List Addr), okDs ds = true → ReadsAll h vs ds as → NestedAll h (toKs ds) vs ∧ as = []
  | [], _, _, _, _, r => by
    cases r
    exact ⟨.nil, rfl⟩
  | x :: xs, h, _, _, ok, r => by
    obtain ⟨o1, o2⟩ := okDs_cons ok
    cases r with
    | cons r1 r2 =>
      obtain ⟨k1, e1⟩ := isK_of x h _ _ o1 r1
      obtain ⟨k2, e2⟩ := isKs_of xs h _ _ o2 r2
      exact ⟨.cons k1 k2, by rw [e1, e2]; rfl⟩
end
/-- a tuple of such, not too deep -/
structure Good (d : PyData) : Prop where
  ok : okD d = true
  dp : d.depth ≤ 8
  tu : ∃ xs, d = .tuple xs
/-! ### what stays while tuples stay -/
def Stay (H H' : Hp) : Prop := ∀ b xs, Rd H b (.tup xs) → Rd H' b (.tup xs)
theorem Stay.refl (H : Hp) : Stay H H := fun _ _ h => h
theorem Stay.trans {H H1 H2 : Hp} (a : Stay H H1) (b : Stay H1 H2) : Stay H H2 := fun c xs h => b c xs (a c xs h)
theorem Stay.same {H H' : Hp} (h : Same H H') : Stay H H' := fun b xs r => by
  rcases r with r | ⟨o, r⟩
  · exact .inl (h _ _ r)
  · exact .inr ⟨o, h _ _ r⟩
theorem same_new {H : Hp} {p : Addr} (h : H p = none) (o : HO) : Same H (upd H p o) := fun b u q => by
  rw [upd_ne (ne_of_none q h)]
  exact q
theorem Stay.new {H : Hp} {p : Addr} (h : H p = none) (o : HO) : Stay H (upd H p o) := .same (same_new h o)
theorem Stay.put {H : Hp} {p : Addr} (h : Mut (H p)) (o : HO) : Stay H (upd H p o) := fun b xs r => by
  have ne : b ≠ p := fun z => by
    subst z
    rcases r with r | ⟨u, r⟩
    · rw [r] at h; exact h
    · rw [r] at h; exact h
  unfold Rd
  rw [upd_ne ne]
  exact r
theorem Stay.seq {K : PySem.W.Frag} {H H' : Hp} {a : Addr} {xs : List V} (e : Stay H H') (h : SqT K H a xs) : SqT K H' a xs := by
  rcases h with h | h
  · exact .inl (e _ _ h)
  · exact .inr h
theorem same_tup {K : PySem.W.Frag} {H H' : Hp} {a : Addr} {xs : List V} (e : Same H H') (h : SqT K H a xs) : SqT K H' a xs := (Stay.same e).seq h
section
variable {K : PySem.W.Frag} {H H' : Hp}
mutual
theorem Stay.dp (e : Stay H H') : ∀ (d : PyData) (x : V), okD d = true → Dp K H x d → Dp K H' x d
  | .none, _, _, h => by cases h; exact .non
  | .int _, _, _, h => by cases h; exact .int _
  | .str _, _, _, h => by cases h; exact .str _
  | .tuple ds, _, ok, h => by
    rw [okD] at ok
    cases h with
    | tup h1 h2 => exact .tup (e.seq h1) (Stay.dpAll e ds _ ok h2)
  | .bool _, _, ok, _ => by simp [okD] at ok
  | .list _, _, ok, _ => by simp [okD] at ok
  | .dict _, _, ok, _ => by simp [okD] at ok
theorem Stay.dpAll (e : Stay H H') : ∀ (ds : List PyData) (xs : List V), okDs ds = true → DpAll K H xs ds → DpAll K H' xs ds
  | [], _, _, h => by cases h; exact .nil
  | d :: ds, _, ok, h => by
    obtain ⟨o1, o2⟩ := okDs_cons ok
    cases h with
    | cons h1 h2 => exact .cons (Stay.dp e d _ o1 h1) (Stay.dpAll e ds _ o2 h2)
end
theorem okDs_all {ds : List PyData} (h : ∀ d ∈ ds, okD d = true) : okDs ds = true := by
  induction ds with
  | nil => rfl
  | cons d ds ih =>
    rw [okDs, h d List.mem_cons_self, ih fun e he => h e (List.mem_cons_of_mem _ he)]
    rfl
theorem dpAll_len : ∀ {xs : List V} {ds : List PyData}, DpAll K H xs ds → xs.length = ds.length
  | _, _, .nil => rfl
  | _, _, .cons _ t => by rw [List.length_cons, List.length_cons, dpAll_len t]
theorem dpAll_at : ∀ {xs : List V} {ds : List PyData} {i : Nat} {d : PyData}, DpAll K H xs ds → ds[i]? = some d → ∃ x, xs[i]? = some x ∧ Dp K H x d
  | _, _, _, _, .nil, e => by simp at e
  | _, _, 0, _, .cons h _, e => by
    simp at e
    subst e
    exact ⟨_, rfl, h⟩
  | _, _, i + 1, _, .cons _ t, e => by
    obtain ⟨x, h1, h2⟩ := dpAll_at (i := i) t (by simpa using e)
    exact ⟨x, by simpa using h1, h2⟩
theorem dpAll_at' : ∀ {xs : List V} {ds : List PyData} {i : Nat} {x : V}, DpAll K H xs ds → xs[i]? = some x → ∃ d, ds[i]? = some d ∧ Dp K H x d
  | _, _, _, _, .nil, e => by simp at e
  | _, _, 0, _, .cons h _, e => by
    simp at e
    subst e
    exact ⟨_, rfl, h⟩
  | _, _, i + 1, _, .cons _ t, e => by
    obtain ⟨x, h1, h2⟩ := dpAll_at' (i := i) t (by simpa using e)
    exact ⟨x, by simpa using h1, h2⟩
theorem dpAll_app : ∀ {xs ys : List V} {ds es : List PyData}, DpAll K H xs ds → DpAll K H ys es → DpAll K H (xs ++ ys) (ds ++ es)
  | _, _, _, _, .nil, h => h
  | _, _, _, _, .cons a t, h => .cons a (dpAll_app t h)
theorem Good.ref {x : V} {d : PyData} (g : Good d) (h : Dp K H x d) : ∃ a, x = .ref a := by
  obtain ⟨xs, rfl⟩ := g.tu
  cases h with
  | tup _ _ => exact ⟨_, rfl⟩
end
/-! ### the rules over the abstract heap -/
def tk (L : List (Addr × PyData)) : List (Addr × NK) := L.map fun p => (p.1, toK p.2)
/-- the set of tuples at a, without the tuples -/
def TSetO (w : World) (a : Addr) (L : List (Addr × PyData)) : HO := .ext fun h => ∃ (es : Array (Int × Value)) (ep : Nat) (t : SetTable), (∃ o, h.get? a = some o ∧ o.ExactSet ∧ o.data = .set es ep t) ∧ es.toList = ents w (tk L) ∧ TabOk t (hashes w (tk L)) ∧ ((tk L).map (·.2)).Nodup ∧
  (w.params.followText "set-order" = true ∨ t.led = true) ∧ (tk L).length * 5 < t.mask * 3 ∧ (tk L).length < 76
def XSetO (P : Program) (w : World) (a : Addr) (ms : List Str) : HO := .ext fun h => ∃ (es : Array (Int × Value)) (ep : Nat) (t : SetTable), XSet P w h a ms es ep t
section
variable {X : Cx} {pins : List (Addr × Obj)} {σ : L2.St} {H : Hp} {s : Shared}
theorem key_at (I : Inv X pins σ H s) {a : Addr} {d : PyData} (h : Dp X.K H (.ref a) d) (g : Good d) : TupK s.heap (toK d) a := by
  obtain ⟨as, r⟩ := Dp.reads I d (.ref a) (.ref a) h rfl
  exact ⟨(isK_of d s.heap _ as g.ok r).1, Nat.le_trans (toK_depth d) g.dp⟩
theorem refs_of (g : ∀ d ∈ ds, Good d) {K : PySem.W.Frag} {H : Hp} : ∀ {xs : List V}, DpAll K H xs ds → ∃ L : List (Addr × PyData), xs = L.map (fun p => V.ref p.1) ∧ ds = L.map (·.2) ∧ ∀ p ∈ L, Dp K H (.ref p.1) p.2 := by
  induction ds with
  | nil =>
    intro xs h
    cases h
    exact ⟨[], rfl, rfl, fun p hp => nomatch hp⟩
  | cons d ds ih =>
    intro xs h
    cases h with
    | cons h1 h2 =>
      obtain ⟨L, e1, e2, e3⟩ := ih (fun e he => g e (List.mem_cons_of_mem _ he)) h2
      obtain ⟨a, rfl⟩ := (g d List.mem_cons_self).ref h1
      refine ⟨(a, d) :: L, by rw [e1]; rfl, by rw [e2]; rfl, fun p hp => ?_⟩
      rcases List.mem_cons.mp hp with e | hp
      · rw [e]
        exact h1
      · exact e3 p hp
theorem vals_refs : ∀ {L : List (Addr × PyData)} {us : List Value}, Vals (L.map fun p => V.ref p.1) us → us = (tk L).map fun p => Value.ref p.1
  | [], _, .nil => rfl
  | p :: L, _, .cons r t => by
    cases r
    rw [vals_refs t]
    rfl
/-- set(xs), xs a list or a tuple of tuples -/
def rSetT (K : PySem.W.Frag) (w : World) : List V → Hp → VK → Prop := fun vs H Q => ∃ (l : Addr) (xs : List V) (ds : List PyData), vs = [V.ref l] ∧ (SqL K H l xs ∨ SqT K H l xs) ∧ DpAll K H xs ds ∧ (∀ d ∈ ds, Good d) ∧ ds.length < 76 ∧
  ∀ a L, H a = none → (∀ p ∈ L, p.2 ∈ ds ∧ Dp K H (.ref p.1) p.2) → (∀ d ∈ ds, d ∈ L.map (·.2)) → Q (.ref a) (upd H a (TSetO w a L))
theorem cr_setT (hc : X.calm = true) (hu : X.A.units + 64 < cLine) : CallR X (.type "set") (rSetT X.K X.w) := by
  intro pins s σ H vs us Q I r h
  obtain ⟨l, xs, ds, rfl, hl, hd, hg, hf, q⟩ := h
  obtain ⟨L0, rfl, rfl, hL0⟩ := refs_of hg hd
  rw [Vals.ref1 r]
  have hn : H s.heap.objs.size = none := I.hok.fresh (Nat.le_refl _)
  have hk0 : ∀ p ∈ tk L0, TupK s.heap p.2 p.1 := fun p hp => by
    obtain ⟨z, hz, rfl⟩ := List.mem_map.mp hp
    exact key_at I (hL0 z hz) (hg z.2 (List.mem_map.mpr ⟨z, hz, rfl⟩))
  have few : (tk L0).length < 76 := by
    unfold tk
    rw [List.length_map]
    rw [List.length_map] at hf
    exact hf
  have T := fill_tups (P := X.prog) (w := X.w) s.heap.objs.size s.heap (tk L0) hk0 few
  have fin : ∀ (n : Nat), n = (tk L0).length → ∀ (h' : Heap) (tk' : Nat), (∃ L es ep t, TSet X.prog X.w h' s.heap.objs.size L es ep t ∧ GotN (tk L0) n L) → (∀ b o, s.heap.get? b = some o → h'.get? b = some o) → EP X pins σ Q (.ref s.heap.objs.size) { s with heap := h', toks := tk' } := by
    intro n en h' tk' ⟨L, es, ep, t, R, g⟩ k
    subst en
    have back : ∀ M : List (Addr × NK), (∀ p ∈ M, p ∈ tk L0) → ∃ M0 : List (Addr × PyData), M = tk M0 ∧ ∀ p ∈ M0, p ∈ L0 := by
      intro M
      induction M with
      | nil => exact fun _ => ⟨[], rfl, fun p hp => nomatch hp⟩
      | cons m M ih =>
        intro hm
        obtain ⟨M0, e, h0⟩ := ih fun p hp => hm p (List.mem_cons_of_mem _ hp)
        obtain ⟨z, hz, ez⟩ := List.mem_map.mp (hm m List.mem_cons_self)
        refine ⟨z :: M0, by rw [e, ← ez]; rfl, fun p hp => ?_⟩
        rcases List.mem_cons.mp hp with e' | hp
        · rw [e']
          exact hz
        · exact h0 p hp
    obtain ⟨M, rfl, hM⟩ := back L fun p hp => List.mem_of_mem_take (g.sub p hp)
    have new : ObjOk X.prog X.w (upd H s.heap.objs.size (TSetO X.w s.heap.objs.size M)) h' s.heap.objs.size (TSetO X.w s.heap.objs.size M) := by
      obtain ⟨o, ho, ho2⟩ := R.ob
      refine ⟨⟨es, ep, t, ⟨o, ho, ho2⟩, R.en, R.tab, R.nd, R.led, R.room, R.few⟩, ⟨o, ho⟩, fun h1 h2 ⟨es', ep', t', ⟨o', e1, e2⟩, z⟩ kk => ⟨es', ep', t', ⟨o', kk o' e1, e2⟩, z⟩⟩
    refine ⟨.ref s.heap.objs.size, upd H s.heap.objs.size (TSetO X.w s.heap.objs.size M), I.laid (t' := tk') k (Nat.le_refl _) new, rfl, q _ M hn (fun p hp => ⟨List.mem_map.mpr ⟨p, hM p hp, rfl⟩, hL0 p (hM p hp)⟩) fun d hd => ?_⟩
    obtain ⟨z, hz, rfl⟩ := List.mem_map.mp hd
    have := g.all (z.1, toK z.2) (by rw [List.take_length]; exact List.mem_map.mpr ⟨z, hz, rfl⟩)
    obtain ⟨y, hy, ey⟩ := List.mem_map.mp this
    obtain ⟨y0, hy0, e0⟩ := List.mem_map.mp hy
    have e3 : toK y0.2 = toK z.2 := by
      have e := ey
      rw [← e0] at e
      exact e
    have e4 : y0.2 = z.2 := toK_inj (hg _ (List.mem_map.mpr ⟨y0, hM y0 hy0, rfl⟩)).ok (hg _ (List.mem_map.mpr ⟨z, hz, rfl⟩)).ok e3
    exact List.mem_map.mpr ⟨y0, hy0, e4⟩
  have vlen : ∀ {its : List Value}, its = (tk L0).map (fun p => Value.ref p.1) → its.toArray.size = (tk L0).length := fun e => by
    rw [e, List.size_toArray, List.length_map]
  rcases hl with hl | hl
  · obtain ⟨its, rv, pl, hz⟩ := I.list hl
    have ev := vals_refs rv
    exact call_fill_list (I.ok.hd hc) pl.isList (by rw [show its.toArray.toList = its by simp, ev]; exact T) (by omega) fun h' tk' G k => fin _ (vlen ev) h' tk' G k
  · obtain ⟨its, rv, pl, hz⟩ := I.tuple hl
    have ev := vals_refs rv
    obtain ⟨o, e1, e2, n, e3⟩ := pl
    exact call_fill_tuple (I.ok.hd hc) ⟨o, e1, e2, n, e3⟩ (by rw [show its.toArray.toList = its by simp, ev]; exact T) (by omega) fun h' tk' G k => fin _ (vlen ev) h' tk' G k
theorem tset_get (I : Inv X pins σ H s) {a : Addr} {L : List (Addr × PyData)} (ha : H a = some (TSetO X.w a L)) (hL : ∀ p ∈ L, Good p.2 ∧ Dp X.K H (.ref p.1) p.2) : ∃ es ep t, TSet X.prog X.w s.heap a (tk L) es ep t := by
  obtain ⟨es, ep, t, h1, h2, h3, h4, h5, h6, h7⟩ := (I.hok a _ ha).1
  refine ⟨es, ep, t, h1, h2, h3, h4, fun p hp => ?_, h5, h6, h7⟩
  obtain ⟨z, hz, rfl⟩ := List.mem_map.mp hp
  exact key_at I (hL z hz).2 (hL z hz).1
open PySem.W in
/-- values that stand for data, as values of the layer -/
theorem each_vals {K : PySem.W.Frag} {H : Hp} : ∀ {us : List Value} {ds : List PyData}, EachIs (fun u d => ∃ x, RelV x u ∧ Dp K H x d) us ds → ∃ ys, Vals ys us ∧ DpAll K H ys ds
  | _, _, .nil => ⟨[], .nil, .nil⟩
  | _, _, .cons ⟨x, r, h⟩ t => by
    obtain ⟨ys, v, h'⟩ := each_vals t
    exact ⟨x :: ys, .cons r v, .cons h h'⟩
open PySem.W in
theorem each_map' {α γ δ : Type} {R : γ → δ → Prop} (f : α → γ) (g : α → δ) : ∀ {l : List α}, (∀ a ∈ l, R (f a) (g a)) → EachIs R (l.map f) (l.map g)
  | [], _ => .nil
  | a :: l, h => .cons (h a List.mem_cons_self) (each_map' f g fun b hb => h b (List.mem_cons_of_mem _ hb))
/-- in rising order, as Python's < says -/
abbrev Rising (ds : List PyData) : Prop := ds.Pairwise fun a b => PySem.W.dataLe false id a b = true
/-- sorted(a set of tuples) -/
def rSortT (K : PySem.W.Frag) (w : World) : List V → Hp → VK → Prop := fun vs H Q => ∃ (a : Addr) (L : List (Addr × PyData)), vs = [V.ref a] ∧ H a = some (TSetO w a L) ∧ (∀ p ∈ L, Good p.2 ∧ Dp K H (.ref p.1) p.2) ∧ PySem.W.AllAlike (L.map (·.2)) ∧
  ∀ (ys : List V) (ds : List PyData) (p : Addr), ds.Perm (L.map (·.2)) → ds.Nodup → ds.length < 76 → Rising ds → DpAll K H ys ds → H p = none → Q (.ref p) (upd H p (.lst ys))
theorem cr_sortT (hc : X.calm = true) (hu : X.A.units + 64 < cLine) : CallR X (.builtin "sorted") (rSortT X.K X.w) := by
  intro pins s σ H vs us Q I r h
  obtain ⟨a, L, rfl, ha, hL, hal, q⟩ := h
  obtain ⟨es, ep, t, R⟩ := tset_get I ha hL
  rw [Vals.ref1 r]
  obtain ⟨o, ho, hex, hd⟩ := R.ob
  have hvals : es.toList.map (·.2) = L.map fun p => Value.ref p.1 := by
    rw [R.en]
    unfold ents tk
    rw [List.map_map, List.map_map]
    rfl
  have few : L.length < 76 := by
    have := R.few
    unfold tk at this
    rw [List.length_map] at this
    exact this
  have e1 : PySem.W.EachIs (fun u d => ∃ x, RelV x u ∧ Dp X.K H x d) (es.toList.map (·.2)) (L.map (·.2)) := by
    rw [hvals]
    exact each_map' _ _ fun p hp => ⟨.ref p.1, rfl, (hL p hp).2⟩
  have e2 : PySem.W.EachIs (fun v d => ∃ as, Reads s.heap v (id d) as ∧ ∀ c ∈ as, c < s.heap.objs.size) (es.toList.map (·.2)) (L.map (·.2)) := by
    rw [hvals]
    refine each_map' _ _ fun p hp => ?_
    obtain ⟨as, rd⟩ := Dp.reads I p.2 (.ref p.1) (.ref p.1) (hL p hp).2 rfl
    refine ⟨as, rd, ?_⟩
    rw [(isK_of p.2 s.heap _ as (hL p hp).1.ok rd).2]
    exact fun c hc => nomatch hc
  have hm : ∀ d ∈ (L.map (·.2)).map id, Good d := fun d hd => by
    rw [List.map_id] at hd
    obtain ⟨p, hp, rfl⟩ := List.mem_map.mp hd
    exact (hL p hp).1
  refine sorted_coll (enc := id) (I.ok.hd hc) ⟨o, ho, hex.1, hd⟩ R.fits (by have := size_of_ents R.en; unfold tk at this; rw [List.length_map] at this; unfold scanBound; omega) R.tab.ris R.led e1 e2 (by rw [List.map_id]; exact hal) (.inl fun d hd => (hm d hd).tu) (fun d hd => ?_) fun s' p out c ds k g os hp hg ho' pm sr => ?_
  · have z := (hm d (by rw [List.map_id]; exact hd)).dp
    show X.A.units + 3 + d.depth < cLine
    omega
  · obtain ⟨ys, hv, hd'⟩ := each_vals ho'
    have hn : H p = none := I.hok.fresh hp
    have hl : ds.length = L.length := by rw [pm.length_eq, List.length_map]
    have hlen : ys.length ≤ sizeLine := by
      rw [dpAll_len hd', sizeLine_eq]
      omega
    have nd : ds.Nodup := by
      refine pm.nodup_iff.mpr ?_
      have z := R.nd
      unfold tk at z
      rw [List.map_map] at z
      have z' : (L.map fun p => toK p.2).Nodup := z
      have y : ((L.map (·.2)).map toK).Nodup := by
        rw [List.map_map]
        exact z'
      exact nodup_of_map y
    have J : Inv X pins σ (upd H p (.lst ys)) { s with heap := s'.heap, gens := s'.gens, drawn := s'.drawn, toks := s'.toks } :=
      I.call (ch := []) (Un.laid k hp hn) (I.hok.laid k hp ⟨hlen, out.toList, c, hv, hg⟩) (by rw [g]; exact I.bare) (fun _ z => nomatch z)
    have e : s' = { s with heap := s'.heap, gens := s'.gens, drawn := s'.drawn, toks := s'.toks } := by
      cases s'
      cases s
      cases os
      rfl
    rw [e]
    exact ⟨.ref p, _, J, rfl, q ys ds p pm nd (by omega) sr hd' hn⟩
/-- set(xs), xs a list or a tuple of texts -/
def rSetX (K : PySem.W.Frag) (P : Program) (w : World) : List V → Hp → VK → Prop := fun vs H Q => ∃ (l : Addr) (zs : List Str), vs = [V.ref l] ∧ (SqL K H l (zs.map V.str) ∨ SqT K H l (zs.map V.str)) ∧ zs.length < 1000 ∧
  ∀ a ms, H a = none → ms.Nodup → (∀ z, z ∈ ms ↔ z ∈ zs) → ms.length ≤ zs.length → Q (.ref a) (upd H a (XSetO P w a ms))
theorem vals_texts : ∀ {zs : List Str} {us : List Value}, Vals (zs.map V.str) us → PySem.W.EachIs (fun v z => ∃ u, v = Value.str z u) us zs
  | [], _, .nil => .nil
  | _ :: _, _, .cons r t => .cons r (vals_texts t)
theorem texts_vals {zs : List Str} {us : List Value} (h : PySem.W.EachIs (fun v z => ∃ u, v = Value.str z u) us zs) : Vals (zs.map V.str) us := by
  induction h with
  | nil => exact .nil
  | cons h _ ih => exact .cons h ih
theorem cr_setX (hc : X.calm = true) (hu : X.A.units + 64 < cLine) : CallR X (.type "set") (rSetX X.K X.prog X.w) := by
  intro pins s σ H vs us Q I r h
  obtain ⟨l, zs, rfl, hl, few, q⟩ := h
  rw [Vals.ref1 r]
  have hn : H s.heap.objs.size = none := I.hok.fresh (Nat.le_refl _)
  have fin : ∀ (n : Nat), n = zs.length → ∀ (h' : Heap) (tk' : Nat), (∃ ms es ep t, XSet X.prog X.w h' s.heap.objs.size ms es ep t ∧ (∀ z, z ∈ ms ↔ z ∈ zs.take n) ∧ ms.length ≤ n) → (∀ b o, s.heap.get? b = some o → h'.get? b = some o) → EP X pins σ Q (.ref s.heap.objs.size) { s with heap := h', toks := tk' } := by
    intro n en h' tk' ⟨ms, es, ep, t, R, g, hl⟩ k
    subst en
    have new : ObjOk X.prog X.w (upd H s.heap.objs.size (XSetO X.prog X.w s.heap.objs.size ms)) h' s.heap.objs.size (XSetO X.prog X.w s.heap.objs.size ms) :=
      ⟨⟨es, ep, t, R⟩, ⟨_, R.ob⟩, fun h1 h2 ⟨es', ep', t', R'⟩ kk => ⟨es', ep', t', R'.moved kk⟩⟩
    exact ⟨.ref s.heap.objs.size, _, I.laid (t' := tk') k (Nat.le_refl _) new, rfl, q _ ms hn R.nd (fun z => by rw [g z, List.take_length]) hl⟩
  have sb : scanBound = 4096 := rfl
  rcases hl with hl | hl
  · obtain ⟨its, rv, pl, hz⟩ := I.list hl
    have ev := vals_texts rv
    have T := fill_texts (P := X.prog) (w := X.w) s.heap.objs.size s.heap zs ev (by omega)
    exact call_fill_list (I.ok.hd hc) pl.isList (by rw [show its.toArray.toList = its by simp]; exact T) (by omega) fun h' tk' G k => fin its.toArray.size (by rw [List.size_toArray]; exact ev.length) h' tk' G k
  · obtain ⟨its, rv, pl, hz⟩ := I.tuple hl
    have ev := vals_texts rv
    have T := fill_texts (P := X.prog) (w := X.w) s.heap.objs.size s.heap zs ev (by omega)
    obtain ⟨o, e1, e2, n, e3⟩ := pl
    exact call_fill_tuple (I.ok.hd hc) ⟨o, e1, e2, n, e3⟩ (by rw [show its.toArray.toList = its by simp]; exact T) (by omega) fun h' tk' G k => fin its.toArray.size (by rw [List.size_toArray]; exact ev.length) h' tk' G k
abbrev RisingX (zs : List Str) : Prop := zs.Pairwise fun a b => decide (a.cps.toList ≤ b.cps.toList) = true
open PySem.W in
theorem each_iff {es : List (Int × Value)} : ∀ {ms : List Str}, (∀ e ∈ es, ∃ k u, e.2 = Value.str k u) → ∃ zs, EachIs (fun v z => ∃ u, v = Value.str z u) (es.map (·.2)) zs := by
  induction es with
  | nil => exact fun _ => ⟨[], .nil⟩
  | cons e es ih =>
    intro ms h
    obtain ⟨k, u, ek⟩ := h e List.mem_cons_self
    obtain ⟨zs, hz⟩ := ih (ms := ms) fun e' he => h e' (List.mem_cons_of_mem _ he)
    exact ⟨k :: zs, .cons ⟨u, ek⟩ hz⟩
/-- sorted(a set of texts) -/
def rSortX (P : Program) (w : World) : List V → Hp → VK → Prop := fun vs H Q => ∃ (a : Addr) (ms : List Str), vs = [V.ref a] ∧ H a = some (XSetO P w a ms) ∧ ms.length < 1000 ∧
  ∀ (zs : List Str) (p : Addr), (∀ z, z ∈ zs ↔ z ∈ ms) → zs.Nodup → zs.length ≤ ms.length → RisingX zs → H p = none → Q (.ref p) (upd H p (.lst (zs.map V.str)))
theorem nodup_len_le : ∀ {l m : List Str}, l.Nodup → (∀ z ∈ l, z ∈ m) → l.length ≤ m.length
  | [], _, _, _ => Nat.zero_le _
  | x :: l, m, hn, hs => by
    obtain ⟨h1, h2⟩ := List.nodup_cons.mp hn
    have hx : x ∈ m := hs x List.mem_cons_self
    have ih := nodup_len_le (l := l) (m := m.erase x) h2 fun y hy => (List.mem_erase_of_ne (show y ≠ x from fun e => h1 (by rw [← e]; exact hy))).2 (hs y (List.mem_cons_of_mem _ hy))
    rw [List.length_erase_of_mem hx] at ih
    have := List.length_pos_of_mem hx
    rw [List.length_cons]
    omega
theorem nodup_of_len : ∀ {l m : List Str}, m.Nodup → (∀ z ∈ m, z ∈ l) → l.length ≤ m.length → l.Nodup
  | [], _, _, _, _ => List.nodup_nil
  | x :: l, m, hm, hs, hl => by
    have hxl : x ∉ l := fun hx => by
      have z := nodup_len_le (l := m) (m := l) hm fun z hz => (List.mem_cons.mp (hs z hz)).elim (fun e => by rw [e]; exact hx) id
      rw [List.length_cons] at hl
      omega
    refine List.nodup_cons.mpr ⟨hxl, nodup_of_len (m := m.erase x) (hm.erase x) (fun z hz => ?_) ?_⟩
    · have hz' := List.mem_of_mem_erase hz
      rcases List.mem_cons.mp (hs z hz') with e | h
      · rw [e] at hz
        exact absurd hz (List.Nodup.not_mem_erase hm)
      · exact h
    · by_cases hx : x ∈ m
      · rw [List.length_erase_of_mem hx]
        rw [List.length_cons] at hl
        omega
      · rw [List.erase_of_not_mem hx]
        rw [List.length_cons] at hl
        omega
theorem cr_sortX (hc : X.calm = true) (hu : X.A.units + 64 < cLine) : CallR X (.builtin "sorted") (rSortX X.prog X.w) := by
  intro pins s σ H vs us Q I r h
  obtain ⟨a, ms, rfl, ha, hlt, q⟩ := h
  obtain ⟨es, ep, t, R⟩ := (I.hok a _ ha).1
  rw [Vals.ref1 r]
  have hel := R.ok.el
  have hsz : es.size = ms.length := R.ok.sz
  obtain ⟨zs, hz⟩ := each_iff (es := es.toList) (ms := ms) fun e he => by
    obtain ⟨⟨k, hk, _⟩, _⟩ := hel e he
    obtain ⟨u, hu⟩ := Value.isStrOf_shape (x := k) (v := e.2) hk
    exact ⟨k, u, hu⟩
  have e1 : PySem.W.EachIs (fun u z => RelV (.str z) u) (es.toList.map (·.2)) zs := hz
  have e2 : PySem.W.EachIs (fun v z => ∃ as, Reads s.heap v (PyData.str z) as ∧ ∀ c ∈ as, c < s.heap.objs.size) (es.toList.map (·.2)) zs := hz.mono fun v z ⟨u, e⟩ => ⟨[], by rw [e]; exact .str z u, fun c hc => nomatch hc⟩
  have mem : ∀ z, z ∈ zs ↔ z ∈ ms := fun z => by
    rw [R.ok.mem z]
    constructor
    · intro hm
      obtain ⟨i, hi, ei⟩ := List.getElem_of_mem hm
      have hi2 : i < (es.toList.map (·.2)).length := by rw [hz.length]; exact hi
      have pz : ((es.toList.map (·.2))[i], zs[i]) ∈ (es.toList.map (·.2)).zip zs := List.mem_of_getElem? (i := i) (by rw [List.getElem?_zip_eq_some]; exact ⟨List.getElem?_eq_getElem hi2, List.getElem?_eq_getElem hi⟩)
      obtain ⟨u, hu⟩ := hz.zip _ pz
      have hin := List.getElem_mem hi2
      rw [show (es.toList.map (·.2))[i] = Value.str zs[i] u from hu, ei] at hin
      obtain ⟨e, he, ee⟩ := List.mem_map.mp hin
      exact ⟨e, he, by rw [ee]; exact is_str z u⟩
    · rintro ⟨e, he, hk⟩
      obtain ⟨z', hz', u, hu⟩ := hz.left e.2 (List.mem_map.mpr ⟨e, he, rfl⟩)
      rw [hu] at hk
      have : z = z' := (strKind X.prog X.w).inj (.str z' u) z z' hk (is_str z' u)
      rw [this]
      exact hz'
  have zl : zs.length = ms.length := by rw [← hz.length, List.length_map, Array.length_toList, hsz]
  refine sorted_coll (enc := fun z : Str => PyData.str z) (I.ok.hd hc) ⟨_, R.ob, rfl, rfl⟩ R.ok.fit (by show es.size < scanBound; unfold scanBound; omega) R.ris R.led e1 e2 (PySem.W.AllAlike.of fun b b' => by simp [PySem.W.alike]) (.inr (PySem.W.Sortable.others fun b => ⟨(fun z => nomatch z), (fun xs z => nomatch z)⟩)) (fun d hd => ?_) fun s' p out c zs' k g os hp hg ho' pm sr => ?_
  · show X.A.units + 3 + (PyData.str d).depth < cLine
    simp only [PyData.depth]
    omega
  · have hn : H p = none := I.hok.fresh hp
    have hv : Vals (zs'.map V.str) out.toList := texts_vals ho'
    have hl : zs'.length = ms.length := by rw [pm.length_eq, zl]
    have hlen : (zs'.map V.str).length ≤ sizeLine := by
      rw [List.length_map, sizeLine_eq]
      omega
    have J : Inv X pins σ (upd H p (.lst (zs'.map V.str))) { s with heap := s'.heap, gens := s'.gens, drawn := s'.drawn, toks := s'.toks } :=
      I.call (ch := []) (Un.laid k hp hn) (I.hok.laid k hp ⟨hlen, out.toList, c, hv, hg⟩) (by rw [g]; exact I.bare) (fun _ z => nomatch z)
    have e : s' = { s with heap := s'.heap, gens := s'.gens, drawn := s'.drawn, toks := s'.toks } := by
      cases s'
      cases s
      cases os
      rfl
    rw [e]
    rw [PySem.W.dataLe_str fun z : Str => z] at sr
    have mem' : ∀ z, z ∈ zs' ↔ z ∈ ms := fun z => by rw [pm.mem_iff]; exact mem z
    exact ⟨.ref p, _, J, rfl, q zs' p mem' (nodup_of_len R.nd (fun z hz => (mem' z).mpr hz) (Nat.le_of_eq hl)) (Nat.le_of_eq hl) sr hn⟩
/-- sorted(a list of tuples) -/
def rSortL (K : PySem.W.Frag) : List V → Hp → VK → Prop := fun vs H Q => ∃ (a : Addr) (xs : List V) (ds : List PyData), vs = [V.ref a] ∧ SqL K H a xs ∧ DpAll K H xs ds ∧ (∀ d ∈ ds, Good d) ∧ PySem.W.AllAlike ds ∧
  ∀ (ys : List V) (es : List PyData) (p : Addr), es.Perm ds → Rising es → DpAll K H ys es → H p = none → Q (.ref p) (upd H p (.lst ys))
theorem cr_sortL (hu : X.A.units + 64 < cLine) : CallR X (.builtin "sorted") (rSortL X.K) := by
  intro pins s σ H vs us Q I r h
  obtain ⟨a, xs, ds, rfl, ha, hd, hg, hal, q⟩ := h
  rw [Vals.ref1 r]
  obtain ⟨its, rv, pl, hz⟩ := I.list ha
  have both : ∀ {xs : List V} {ds : List PyData} {its : List Value}, Vals xs its → DpAll X.K H xs ds → (∀ d ∈ ds, Good d) → PySem.W.EachIs (fun u d => (∃ x, RelV x u ∧ Dp X.K H x d) ∧ ∃ as, Reads s.heap u (id d) as) its ds := by
    intro xs ds its rv
    induction rv generalizing ds with
    | nil =>
      intro hd _
      cases hd
      exact .nil
    | cons r _ ih =>
      intro hd hg
      cases hd with
      | cons h1 h2 => exact .cons ⟨⟨_, r, h1⟩, Dp.reads I _ _ _ h1 r⟩ (ih h2 fun d hd => hg d (List.mem_cons_of_mem _ hd))
  have e0 := both rv hd hg
  have il : its.length = ds.length := e0.length
  have sl := sizeLine_eq
  have xl := rv.length
  have er' : PySem.W.EachIs (fun v d => ∃ as, Reads (PySem.W.sortingHeap (PySem.W.copyHeap s.heap its) (s.heap.objs.size + 1) its) v (id d) as) its ds := e0.mono fun _ _ z => by
    obtain ⟨_, as, rd⟩ := z
    exact ⟨as, PyProof.Rows.Reads.keeps (fun _ _ => PySem.W.sorting_copy_old) rd⟩
  have can : PySem.W.SortsAt X.prog X.w X.A.in1.in1 { s with heap := PySem.W.sortingHeap (PySem.W.copyHeap s.heap its) (s.heap.objs.size + 1) its } (PySem.W.dataKind (PySem.W.sortingHeap (PySem.W.copyHeap s.heap its) (s.heap.objs.size + 1) its) ds) its :=
    SortsAt.tups (s := { s with heap := PySem.W.sortingHeap (PySem.W.copyHeap s.heap its) (s.heap.objs.size + 1) its }) er' hal (fun d hd => (hg d hd).tu) fun d hd => by
      have z := (hg d hd).dp
      simp only [Around.in1_units]
      omega
  refine PySem.W.sorted_vals pl.isList can (by omega) ?_
  have eo : PySem.W.EachIs (fun u d => ∃ x, RelV x u ∧ Dp X.K H x d) (PySem.W.sortVals (PySem.W.dataKind (PySem.W.sortingHeap (PySem.W.copyHeap s.heap its) (s.heap.objs.size + 1) its) ds) false its its) (ds.mergeSort (PySem.W.dataLe false id)) := by
    have z := PySem.W.sortVals_data (h' := PySem.W.sortingHeap (PySem.W.copyHeap s.heap its) (s.heap.objs.size + 1) its) (enc := id) false (e0.mono fun _ _ z => z.1) er' (by rw [List.map_id]; exact hal)
    rw [List.map_id] at z
    exact z
  obtain ⟨ys, hv, hd'⟩ := each_vals eo
  have sf := sort_facts id ds
  generalize hout : PySem.W.sortVals (PySem.W.dataKind (PySem.W.sortingHeap (PySem.W.copyHeap s.heap its) (s.heap.objs.size + 1) its) ds) false its its = out at eo hv
  have hn : H (s.heap.objs.size + 1) = none := I.hok.fresh (Nat.le_succ _)
  obtain ⟨c, hcc⟩ := sortedAll_at s.heap its out.toArray
  have hlen : ys.length ≤ sizeLine := by
    rw [dpAll_len hd', sf.1.length_eq]
    omega
  exact ⟨.ref (s.heap.objs.size + 1), upd H (s.heap.objs.size + 1) (.lst ys), I.laid (t' := s.toks) (fun b o e => sortedAll_old e) (Nat.le_succ _) ⟨hlen, out, c, hv, hcc⟩, rfl, q ys _ _ sf.1 sf.2 hd' hn⟩
end
end Rw
namespace Rw
open PySem PySem.Spec PyProof.Rows L2
/-! ### dicts whose keys are tuples of texts and of such tuples -/
abbrev Ent := PyData × Addr × V
def RelE (p : Ent) (q : NK × Addr × Value) : Prop := toK p.1 = q.1 ∧ p.2.1 = q.2.1 ∧ RelV p.2.2 q.2.2
def NDO (P : Program) (w : World) (d : Addr) (kvs : List Ent) : HO := .ext fun h => kvs.length ≤ 100000 ∧ (d == sysModules) = false ∧ ∃ xs : List (NK × Addr × Value), Paired RelE kvs xs ∧
  ∃ o es ep, h.get? d = some o ∧ o.ExactDict ∧ o.data = .dict es ep ∧ es.toList = xs.map (entryOfKey (nestedKind P w)) ∧ (xs.map (·.1)).Nodup
/-- the entries' keys stand -/
abbrev KeysOk (K : PySem.W.Frag) (H : Hp) (kvs : List Ent) : Prop := ∀ p ∈ kvs, Good p.1 ∧ Dp K H (.ref p.2.1) p.1
theorem KeysOk.stay {K : PySem.W.Frag} {H H' : Hp} {kvs : List Ent} (h : KeysOk K H kvs) (e : Stay H H') : KeysOk K H' kvs := fun p hp => ⟨(h p hp).1, e.dp _ _ (h p hp).1.ok (h p hp).2⟩
theorem paired_mem {α β : Type} {F : α → β → Prop} : ∀ {l : List α} {m : List β}, Paired F l m → ∀ y ∈ m, ∃ x ∈ l, F x y
  | _, _, .nil, y, h => nomatch h
  | _, _, .cons r t, y, h => by
    rcases List.mem_cons.mp h with e | h
    · subst e
      exact ⟨_, List.mem_cons_self, r⟩
    · obtain ⟨x, hx, hr⟩ := paired_mem t y h
      exact ⟨x, List.mem_cons_of_mem _ hx, hr⟩
theorem paired_snoc {α β : Type} {F : α → β → Prop} {x : α} {y : β} (r : F x y) : ∀ {l : List α} {m : List β}, Paired F l m → Paired F (l ++ [x]) (m ++ [y])
  | _, _, .nil => .cons r .nil
  | _, _, .cons q t => .cons q (paired_snoc r t)
/-- what a look-up finds -/
theorem nd_look {kvs : List Ent} {xs : List (NK × Addr × Value)} (p : Paired RelE kvs xs) (hk : ∀ p ∈ kvs, Good p.1) {k : PyData} (g : Good k) :
    (∀ q, atKey xs (toK k) = some q → ∃ z ∈ kvs, z.1 = k ∧ RelV z.2.2 q.2) ∧ (atKey xs (toK k) = none → ∀ z ∈ kvs, z.1 ≠ k) := by
  induction p with
  | nil => exact ⟨fun q h => by simp [atKey] at h, fun _ z hz => nomatch hz⟩
  | @cons a b as bs r t ih =>
    obtain ⟨r1, r2, r3⟩ := r
    obtain ⟨i1, i2⟩ := ih fun p hp => hk p (List.mem_cons_of_mem _ hp)
    by_cases e : b.1 = toK k
    · have ek : a.1 = k := toK_inj (hk a List.mem_cons_self).ok g.ok (r1.trans e)
      have ea : atKey (b :: bs) (toK k) = some b.2 := by simp [atKey, e]
      refine ⟨fun q h => ?_, fun h => ?_⟩
      · rw [ea] at h
        cases h
        exact ⟨a, List.mem_cons_self, ek, r3⟩
      · rw [ea] at h
        cases h
    · have ea : atKey (b :: bs) (toK k) = atKey bs (toK k) := by simp [atKey, e]
      have ne : a.1 ≠ k := fun z => e (by rw [← r1, z])
      refine ⟨fun q h => ?_, fun h z hz => ?_⟩
      · rw [ea] at h
        obtain ⟨z, hz, h1⟩ := i1 q h
        exact ⟨z, List.mem_cons_of_mem _ hz, h1⟩
      · rw [ea] at h
        rcases List.mem_cons.mp hz with e' | hz
        · rw [e']
          exact ne
        · exact i2 h z hz
section
variable {X : Cx} {pins : List (Addr × Obj)} {σ : L2.St} {H : Hp} {s : Shared} {d : Addr} {kvs : List Ent} {E : Value → Shared → Prop}
theorem nd_get (I : Inv X pins σ H s) (hd : H d = some (NDO X.prog X.w d kvs)) (hk : KeysOk X.K H kvs) : kvs.length ≤ 100000 ∧ (d == sysModules) = false ∧ ∃ xs, Paired RelE kvs xs ∧ s.heap.DictOfH (nestedKind X.prog X.w) d xs := by
  obtain ⟨hz, hs, xs, p, o, es, ep, h1, h2, h3, h4, h5⟩ := (I.hok d _ hd).1
  refine ⟨hz, hs, xs, p, o, es, ep, h1, h2, h3, h4, fun x hx => ?_, h5⟩
  obtain ⟨q, hq, r1, r2, _⟩ := paired_mem p x hx
  have := key_at I (hk q hq).2 (hk q hq).1
  rw [r1, r2] at this
  exact this
theorem nd_new {kvs : List Ent} {xs : List (NK × Addr × Value)} {h' : Heap} {H' : Hp} (hz : kvs.length ≤ 100000) (hs : (d == sysModules) = false) (p : Paired RelE kvs xs) (m : h'.DictOfH (nestedKind X.prog X.w) d xs) : ObjOk X.prog X.w H' h' d (NDO X.prog X.w d kvs) := by
  obtain ⟨o, es, ep, h1, h2, h3, h4, _, h5⟩ := m
  refine ⟨⟨hz, hs, xs, p, o, es, ep, h1, h2, h3, h4, h5⟩, ⟨o, h1⟩, fun a b ⟨z1, z2, xs', p', o', es', ep', k1, k2⟩ kk => ⟨z1, z2, xs', p', o', es', ep', kk o' k1, k2⟩⟩
/-- k in d, k not in d -/
def rInN (K : PySem.W.Frag) (P : Program) (w : World) (neg : Bool) : R2 := fun x y H Q => ∃ (a d : Addr) (kvs : List Ent) (k : PyData), x = .ref a ∧ y = .ref d ∧ H d = some (NDO P w d kvs) ∧ KeysOk K H kvs ∧ Good k ∧ Dp K H (.ref a) k ∧
  ∀ b : Bool, (b = true ↔ k ∈ kvs.map (·.1)) → Q (.bl (if neg then !b else b)) H
theorem nd_isSome {xs : List (NK × Addr × Value)} (p : Paired RelE kvs xs) (hk : ∀ p ∈ kvs, Good p.1) {k : PyData} (g : Good k) : (atKey xs (toK k)).isSome = true ↔ k ∈ kvs.map (·.1) := by
  obtain ⟨l1, l2⟩ := nd_look p hk g
  cases e : atKey xs (toK k) with
  | none => exact ⟨(fun h => nomatch h), fun h => by
      obtain ⟨z, hz, ez⟩ := List.mem_map.mp h
      exact absurd ez (l2 e z hz)⟩
  | some q => exact ⟨fun _ => by
      obtain ⟨z, hz, h1, _⟩ := l1 q e
      exact List.mem_map.mpr ⟨z, hz, h1⟩, fun _ => rfl⟩
theorem op_inN (hu : X.A.units + 64 < cLine) : OpR X (compareOp .In) (rInN X.K X.prog X.w false) := by
  intro pins s σ H x y v u Q I rx ry h
  obtain ⟨a, d, kvs, k, rfl, rfl, hd, hk, g, da, q⟩ := h
  cases rx
  cases ry
  obtain ⟨hz, hs, xs, p, m⟩ := nd_get I hd hk
  refine wpAny_in_heap (knd := nestedKind X.prog X.w) (by show X.A.units + 1 + 8 < cLine; omega) (key_at I da g) hs m ?_
  exact ⟨.bl _, H, I.tok _, rfl, q _ (nd_isSome p (fun z hz => (hk z hz).1) g)⟩
theorem op_notInN (hu : X.A.units + 64 < cLine) : OpR X (compareOp .NotIn) (rInN X.K X.prog X.w true) := by
  intro pins s σ H x y v u Q I rx ry h
  obtain ⟨a, d, kvs, k, rfl, rfl, hd, hk, g, da, q⟩ := h
  cases rx
  cases ry
  obtain ⟨hz, hs, xs, p, m⟩ := nd_get I hd hk
  refine wpAny_notIn_heap (knd := nestedKind X.prog X.w) (by show X.A.units + 1 + 8 < cLine; omega) (key_at I da g) hs m ?_
  exact ⟨.bl _, H, I.tok _, rfl, q _ (nd_isSome p (fun z hz => (hk z hz).1) g)⟩
/-- d[k], k is there -/
def rGetN (K : PySem.W.Frag) (P : Program) (w : World) : R2 := fun x y H Q => ∃ (a d : Addr) (kvs : List Ent) (k : PyData), x = .ref d ∧ y = .ref a ∧ H d = some (NDO P w d kvs) ∧ KeysOk K H kvs ∧ Good k ∧ Dp K H (.ref a) k ∧ k ∈ kvs.map (·.1) ∧
  ∀ z ∈ kvs, z.1 = k → Q z.2.2 H
theorem pe_getN {o i : Expr} {td ty : TE} {pos : Pos} (hu : X.A.units + 64 < cLine) (hr : PE X o td) (hi : PE X i ty) (hs : NoSl i) : PE X (.Subscript o i pos) (tOp (rGetN X.K X.prog X.w) td ty) := by
  refine ⟨fun pins s σ H Q I h => ?_⟩
  refine subD_of PySem.F.slot_dict_getitem.lookup hs (thn (hr.run pins s σ H _ I h) fun v s1 ⟨x, H1, I1, r1, q1⟩ => thn (hi.run pins s1 σ H1 _ I1 q1) fun u s2 ⟨y, H2, I2, r2, a, d, kvs, k, ex, ey, hd, hk, g, da, hm, q⟩ => ?_)
  subst ex ey
  cases r1
  cases r2
  obtain ⟨hz, hs', xs, p, m⟩ := nd_get I2 hd hk
  obtain ⟨l1, l2⟩ := nd_look p (fun z hz => (hk z hz).1) g
  refine ⟨m.typeIs, ?_⟩
  cases e : atKey xs (toK k) with
  | none =>
    obtain ⟨z, hz, ez⟩ := List.mem_map.mp hm
    exact absurd ez (l2 e z hz)
  | some pv =>
    obtain ⟨z, hz, ez, rz⟩ := l1 pv e
    exact wpAny_getItem_heap (knd := nestedKind X.prog X.w) (by show X.A.units + 1 + 8 < cLine; omega) (key_at I2 da g) m e ⟨z.2.2, H2, I2.tok _, rz, q z hz ez⟩
/-- {} -/
theorem pe_dnewN {pos : Pos} : PE X (.Dict [] [] pos) (fun _ H Q => ∀ p, H p = none → Q (.ref p) (upd H p (NDO X.prog X.w p []))) := ⟨fun pins s σ H Q I h =>
  wpAny_Dict_empty ⟨.ref s.heap.objs.size, _, I.laid (a := s.heap.objs.size) (o := NDO X.prog X.w s.heap.objs.size []) (t' := s.toks) (fun _ _ q => Heap.get?_push_of_some _ q) (Nat.le_refl _)
    (nd_new (X := X) (Nat.zero_le _) (by have := I.big; exact beq_eq_false_iff_ne.mpr (Nat.ne_of_gt this)) .nil (Heap.DictOfH.new _)), rfl, h _ (I.hok.fresh (Nat.le_refl _))⟩⟩
/-- an entry more -/
theorem nd_put {a : Addr} {k : PyData} {x : V} {u : Value} {A : Around} {Q : Unit → Shared → Prop} (hu : A.units + 8 < cLine) (I : Inv X pins σ H s) (hd : H d = some (NDO X.prog X.w d kvs)) (hk : KeysOk X.K H kvs) (g : Good k) (da : Dp X.K H (.ref a) k) (new : k ∉ kvs.map (·.1)) (few : kvs.length < 100000) (r : RelV x u)
    (h : ∀ s', Inv X pins σ (upd H d (NDO X.prog X.w d (kvs ++ [(k, a, x)]))) s' → (∀ b o, b ≠ d → s.heap.get? b = some o → s'.heap.get? b = some o) → Q () s') : wpAny (model X.prog X.w) A (dictSet d (.ref a) u) Q E s := by
  obtain ⟨hz, hs, xs, p, m⟩ := nd_get I hd hk
  have xl : xs.length = kvs.length := (Paired.length p).symm
  have none_ : atKey xs (toK k) = none := by
    cases e : atKey xs (toK k) with
    | none => rfl
    | some q => exact absurd ((nd_isSome p (fun z hz => (hk z hz).1) g).mp (by rw [e]; rfl)) new
  refine wpAny_dictSet_heap (knd := nestedKind X.prog X.w) (hsz := by rw [sizeLine_eq]; omega) hu (key_at I da g) m fun h' m' sb => ?_
  rw [storedH_new none_] at m'
  have ex : ∃ q, h'.get? d = some q := let ⟨q, _, _, hq, _⟩ := m'; ⟨q, hq⟩
  refine h _ (d_write (t' := _) I (by rw [hd]; exact True.intro) sb ex (nd_new (by rw [List.length_append, List.length_singleton]; omega) hs (paired_snoc ⟨rfl, rfl, r⟩ p) m')) fun b o hb e => (sb.2 b hb).trans e
/-- d.setdefault(k, x) -/
def tSetdN (K : PySem.W.Frag) (P : Program) (w : World) (td ty tx : TE) : TE := fun σ H Q => td σ H fun x H1 => ∃ d kvs0, x = .ref d ∧ H1 d = some (NDO P w d kvs0) ∧ ty σ H1 fun y H2 => tx σ H2 fun z H3 => ∃ (a : Addr) (kvs : List Ent) (k : PyData), y = .ref a ∧ H3 d = some (NDO P w d kvs) ∧ KeysOk K H3 kvs ∧
  Good k ∧ Dp K H3 (.ref a) k ∧ kvs.length < 100000 ∧ (∀ e ∈ kvs, e.1 = k → Q e.2.2 H3) ∧ (k ∉ kvs.map (·.1) → Q z (upd H3 d (NDO P w d (kvs ++ [(k, a, z)]))))
theorem pe_setdN {o e f : Expr} {td ty tx : TE} {apos cpos : Pos} (hu : X.A.units + 64 < cLine) (ho : PE X o td) (he : PE X e ty) (hf : PE X f tx) (m : M2 X o "setdefault" apos e f cpos) : PE X (.Call (.Attribute o "setdefault" apos) [e, f] [] cpos) (tSetdN X.K X.prog X.w td ty tx) := by
  refine ⟨fun pins s σ H Q I h => ?_⟩
  refine wpAny_Call_method m.base m.few m.line PySem.F.plainAttrs_dict PySem.F.slot_dict_setdefault PySem.F.type_dict_setdefault (thn (ho.run pins s σ H _ I h) fun u s1 ⟨x, H1, I1, rx, d, kvs0, ex, d0, q1⟩ => ?_)
  subst ex
  obtain rfl : u = Value.ref d := rx
  have ty0 : ∃ o, s1.heap.get? d = some o ∧ o.cls = .type "dict" ∧ o.dict = none := by
    obtain ⟨_, _, xs, _, o, es, ep, h1, h2, _⟩ := (I1.hok d _ d0).1
    exact ⟨o, h1, h2.1, h2.2.1⟩
  obtain ⟨ob, ho1, ho2, ho3⟩ := ty0
  refine ⟨⟨ob, ho1, ho2⟩, fun b eb => ?_, ?_⟩
  · cases eb
    exact ⟨ob, ho1, ho3⟩
  rw [m.trees]
  refine Calls.callWith_builtin rfl (Calls.evalArgs_plain (Calls.spliced_cons (thn (he.run pins s1 σ H1 _ I1 q1) fun iv s2 ⟨y, H2, I2, ry, q2⟩ =>
    Calls.spliced_cons (thn (hf.run pins s2 σ H2 _ I2 q2) fun fv s3 ⟨z, H3, I3, rz, a, kvs, k, ey, hd, hk, g, da, few, q3, q4⟩ => Calls.spliced_nil ?_))))
  subst ey
  obtain rfl : iv = Value.ref a := ry
  obtain ⟨hz, hs, xs, p, mm⟩ := nd_get I3 hd hk
  have xl : xs.length = kvs.length := (Paired.length p).symm
  obtain ⟨l1, l2⟩ := nd_look p (fun z hz => (hk z hz).1) g
  refine call_setdefault_heap (knd := nestedKind X.prog X.w) (hsz := by rw [sizeLine_eq]; omega) (by show X.A.units + 1 + 8 < cLine; omega) (key_at I3 da g) hs mm (fun pv hp => ?_) fun hn h' m' sb => ?_
  · obtain ⟨z', hz', ez, rz'⟩ := l1 pv hp
    exact ⟨z'.2.2, H3, I3.tok _, rz', q3 z' hz' ez⟩
  · rw [storedH_new hn] at m'
    have ex : ∃ q, h'.get? d = some q := let ⟨q, _, _, hq, _⟩ := m'; ⟨q, hq⟩
    refine ⟨z, _, d_write (t' := _) I3 (by rw [hd]; exact True.intro) sb ex (nd_new (by rw [List.length_append, List.length_singleton]; omega) hs (paired_snoc ⟨rfl, rfl, rz⟩ p) m'), rz, q4 fun hm => ?_⟩
    obtain ⟨z', hz', ez⟩ := List.mem_map.mp hm
    exact l2 hn z' hz' ez
end
end Rw
namespace Rw
open PySem PySem.Spec PyProof.Rows L2
/-! ### y = {x: True for x in xs}, xs a list of tuples, no two alike -/
theorem idx_new {ds : List PyData} (hn : ds.Nodup) {i : Nat} {d : PyData} (h : ds[i]? = some d) : d ∉ ds.take i := fun hm => by
  have z := take_snoc h
  have nd : (ds.take (i + 1)).Nodup := List.Nodup.sublist (List.take_sublist _ _) hn
  rw [z] at nd
  obtain ⟨_, _, h3⟩ := List.nodup_append.mp nd
  exact h3 d hm d (List.mem_singleton.mpr rfl) rfl
theorem vals_at : ∀ {xs : List V} {us : List Value} {i : Nat} {u : Value}, Vals xs us → us[i]? = some u → ∃ x, xs[i]? = some x ∧ RelV x u
  | _, _, _, _, .nil, e => by simp at e
  | _, _, 0, _, .cons r _, e => by
    simp at e
    subst e
    exact ⟨_, rfl, r⟩
  | _, _, i + 1, _, .cons _ t, e => by
    obtain ⟨x, h1, h2⟩ := vals_at (i := i) t (by simpa using e)
    exact ⟨x, by simpa using h1, h2⟩
section
variable {X : Cx}
def tSetD (K : PySem.W.Frag) (P : Program) (w : World) (ti : TE) : TE := fun σ H Q => ti σ H fun v H1 => ∃ (l : Addr) (xs : List V) (ds : List PyData), v = .ref l ∧ SqL K H1 l xs ∧ DpAll K H1 xs ds ∧ (∀ d ∈ ds, Good d) ∧ ds.Nodup ∧ ds.length ≤ 1000 ∧
  ∀ D kvs, H1 D = none → kvs.map (·.1) = ds → KeysOk K H1 kvs → Q (.ref D) (upd H1 D (NDO P w D kvs))
theorem ps_setDictTrue {i : Nat} {y x : Str} {py p1 p2 p3 pos spos : Pos} {kk : Nat} {iter : Expr} {scope : Scope} {own : List (Str × Nat)} {ti : TE} (hc : X.calm = true) (hu : X.A.units + 64 < cLine) (hN : X.N.Nodup) (hy : X.N[i]? = some y) (hyl : X.env.scope.names.lookup y = some .local)
    (hsw : swapsWith (.DictComp (.Name x p1) (.Constant (.bool true) kk p2) [⟨.Name x p3, iter, [], 0⟩] scope pos) (some (.Name y py)) spos.line X.env = pure true) (hi : PE X iter ti) (ok : BlkOk X.N X.env.scope scope own)
    (hx : scope.names.lookup x = some .local) (hdeb : (x == ("__debug__" : Str)) = false) (hcell : ∀ z ∈ scope.names, z.2 ≠ .cell) (hs : ∀ x, foldedSetIterable iter X.env x = pure x := by intro _; rfl) :
    PS X (.Assign [.Name y py] (.DictComp (.Name x p1) (.Constant (.bool true) kk p2) [⟨.Name x p3, iter, [], 0⟩] scope pos) spos) (tAsg (tSetD X.K X.prog X.w ti) (gName i)) := by
  refine ⟨fun pins s σ H D I h => ?_⟩
  have h : tSetD X.K X.prog X.w ti σ H (fun x H1 => gName i x σ H1 D.nx) := h
  have hfree : ∀ y ∈ scope.names, y.2 = .free → ∃ c, X.env.cells.lookup y.1 = some c := fun y hy e => by
    rcases ok.free y hy e with k | k
    · exact I.ok.has _ (.inl k)
    · exact I.ok.has _ (.inr k)
  rw [exec_Assign_Name_used _ _ _ _ hsw]
  refine wpAny_bind (wpAny_standAt (wpAny_bind ?_))
  show wpAny _ X.A (do let _ ← comprehension (.DictComp (.Name x p1) (.Constant (.bool true) kk p2) [⟨.Name x p3, iter, [], 0⟩] scope pos) scope X.env _ newDict false (eval iter X.env) (some (assign (.Name y py) X.env))) _ _ s
  have main : wpAny (model X.prog X.w) X.A (eval iter X.env) (fun xv s₁ => wpAny (model X.prog X.w) X.A (pyIter xv)
      (DcGoes X.prog X.w X.A X.xe X.env scope (cloFrom X.env.cells scope.names []) (.Name x p3) [] (.Name x p1) (.Constant (.bool true) kk p2) (some (assign (.Name y py) X.env)) (fun _ s' => SP X pins D .next s')) X.xe s₁) X.xe s := by
    refine thn (hi.run pins s σ H _ I h) fun xv s1 ⟨v, H1, I1, rv, l, xs, ds, ev, hl, hd, hg, hnd, hlen, q⟩ => ?_
    subst ev
    obtain rfl : xv = Value.ref l := rv
    obtain ⟨its, rvs, pl, _⟩ := I1.list hl
    have hl0 : s1.heap.IsList l its.toArray := pl.isList
    have hlt : (l : Nat) < s1.heap.objs.size := by
      obtain ⟨o, ho, _⟩ := hl0
      exact Heap.lt_size ho
    have il : its.length = ds.length := by rw [← rvs.length, dpAll_len hd]
    refine wpAny_pyIter_list hl0 ?_
    refine ⟨s1.heap.objs.size, [s1.heap.objs.size, l], [s1.heap.objs.size], its.toArray.size, _, _, rfl, Goes.list (I1.ok.hd hc) s1.heap.objs.size l (Nat.ne_of_lt hlt) its.toArray, ⟨⟨_, Heap.get?_push_size _ rfl, rfl, rfl⟩, hl0.push _⟩, ?_⟩
    intro D0 C s3 hB hDobj
    obtain ⟨⟨h3, tk3, rfl⟩, old, nD, nC, hDC, hnm⟩ := hB
    have szp : (s1.heap.push { cls := .type "list_iterator", data := .fields #[.ref l, .int 0 0] }).objs.size = s1.heap.objs.size + 1 := Heap.size_push ..
    have nD' : s1.heap.objs.size + 1 ≤ D0 := by
      have q := nD
      rw [szp] at q
      exact q
    have nC' : s1.heap.objs.size + 1 ≤ C := by
      have q := nC
      rw [szp] at q
      exact q
    have sD : s1.heap.objs.size ≤ D0 := Nat.le_trans (Nat.le_succ _) nD'
    have sC : s1.heap.objs.size ≤ C := Nat.le_trans (Nat.le_succ _) nC'
    have neDI : s1.heap.objs.size ≠ D0 := Nat.ne_of_lt nD'
    have neCI : s1.heap.objs.size ≠ C := Nat.ne_of_lt nC'
    have neDl : (l : Nat) ≠ D0 := Nat.ne_of_lt (Nat.lt_of_lt_of_le hlt sD)
    have neCl : (l : Nat) ≠ C := Nat.ne_of_lt (Nat.lt_of_lt_of_le hlt sC)
    have hDn : H1 D0 = none := I1.hok.fresh sD
    have hIn : H1 s1.heap.objs.size = none := I1.hok.fresh (Nat.le_refl _)
    have hCn : H1 C = none := I1.hok.fresh sC
    have all3 : ∀ b o, s1.heap.get? b = some o → h3.get? b = some o := fun b o e => old b o (Heap.get?_push_of_some _ e)
    have kx : (compEnvC scope (cloFrom X.env.cells scope.names []) C X.env).kindOf x = some .local := lookup_relabel_local hx
    have hp : ((compEnvC scope (cloFrom X.env.cells scope.names []) C X.env).scope.kind == .class || ((compEnvC scope (cloFrom X.env.cells scope.names []) C X.env).scope.kind == .module && (compEnvC scope (cloFrom X.env.cells scope.names []) C X.env).locals != (compEnvC scope (cloFrom X.env.cells scope.names []) C X.env).globals)) = false := by
      show (scope.kind == .class || (scope.kind == .module && _)) = false
      rw [ok.kind]
      rfl
    have fpI : ∀ kvs, FpOk X pins (upd H1 D0 (NDO X.prog X.w D0 kvs)) s1.heap.objs.size := fun kvs => I1.fpOk (Nat.le_refl _) (by rw [upd_ne neDI]; exact hIn)
    have fpC : ∀ kvs, FpOk X pins (upd H1 D0 (NDO X.prog X.w D0 kvs)) C := fun kvs => I1.fpOk sC (by rw [upd_ne (fun e => hDC e.symm)]; exact hCn)
    refine ⟨fun i s₁ => ∃ kvs m, Inv X pins σ (upd H1 D0 (NDO X.prog X.w D0 kvs)) s₁ ∧ s₁.heap.Ns C m ∧ kvs.map (·.1) = ds.take i ∧ KeysOk X.K H1 kvs, ?_, ?_, ?_, ?_⟩
    · -- at the start
      refine ⟨[], _, I1.laid (t' := tk3) all3 sD (nd_new (X := X) (Nat.zero_le _) ?_ .nil ?_), hnm, rfl, fun p hp => nomatch hp⟩
      · exact beq_eq_false_iff_ne.mpr (Nat.ne_of_gt (Nat.lt_of_lt_of_le I1.big sD))
      · exact ⟨_, #[], 0, hDobj, ⟨rfl, rfl, rfl⟩, rfl, rfl, (fun _ z => nomatch z), List.nodup_nil⟩
    · -- the iterator turns
      rintro i s₁ h' tk ⟨kvs, m, J, hn, e, ko⟩ kp _
      obtain ⟨f0, f1, f2, f3, f4, f5⟩ := fpI kvs
      exact ⟨kvs, m, J.turned (t' := tk) (fun b o hb q => kp b o (by simpa using hb) q) f0 f1 f3 f4 f5, hn.at' fun o q => kp _ o (by simpa using (fun z => neCI z.symm)) q, e, ko⟩
    · -- one turn
      rintro i v s₁ hi' hv st ⟨kvs, m, J, hn, e, ko⟩
      have hv' : its[i]? = some v := by simpa using hv
      obtain ⟨x0, hx0, rx0⟩ := vals_at rvs hv'
      obtain ⟨d, hd0, dd⟩ := dpAll_at' hd hx0
      have gd := hg d (List.mem_of_getElem? hd0)
      obtain ⟨a, rfl⟩ := gd.ref dd
      obtain rfl : v = Value.ref a := rx0
      refine wpAny_assign_Name (wpAny_storeName_local kx hn (fun h5 n5 s5 => ?_) hp)
      refine wpAny_tests_nil ?_
      show wpAny _ _ _ _ _ _
      obtain ⟨f0, f1, f2, f3, f4, f5⟩ := fpC kvs
      have J5 : Inv X pins σ (upd H1 D0 (NDO X.prog X.w D0 kvs)) { s₁ with heap := h5, toks := s₁.toks + 1 } := J.turned (t' := s₁.toks + 1) (fun b o hb q => (s5.2 b hb).trans q) f0 f1 f3 f4 f5
      rw [eval_Name _ _ _ hdeb]
      refine wpAny_bind (wpAny_standAt (wpAny_loadName_local ok.kind kx n5 (v := .ref a) (if_pos rfl) ?_))
      refine Constant_bool ?_
      have st5 : h5.IsListIter s1.heap.objs.size l (i + 1) ∧ h5.IsList l its.toArray := ⟨st.1.at fun o q => (s5.2 _ neCI).trans q, st.2.at fun o q => (s5.2 _ neCl).trans q⟩
      have sty : Stay H1 (upd H1 D0 (NDO X.prog X.w D0 kvs)) := Stay.new hDn _
      refine nd_put (s := { s₁ with heap := h5, toks := s₁.toks + 1 }) (by omega) J5 upd_same (ko.stay sty) gd (sty.dp _ _ gd.ok dd) (by rw [e]; exact idx_new hnd hd0) ?_ (x := .bl true) rfl fun s' J' kept => ?_
      · have z := congrArg List.length e
        rw [List.length_map, List.length_take] at z
        omega
      · rw [upd_upd] at J'
        refine ⟨⟨_, _, J', n5.at' fun o q => kept _ o (fun z => hDC z.symm) q, ?_, ?_⟩, st5.1.at fun o q => kept _ o neDI q, st5.2.at fun o q => kept _ o neDl q⟩
        · rw [List.map_append, e, take_snoc hd0]
          rfl
        · intro p hp
          rcases List.mem_append.mp hp with hp | hp
          · exact ko p hp
          · rw [List.mem_singleton.mp hp]
            exact ⟨gd, dd⟩
    · -- behind the last
      rintro s₁ ⟨kvs, m, J, hn, e, ko⟩
      have e' : kvs.map (·.1) = ds := by
        rw [e, List.size_toArray, il, List.take_length]
      show wpAny _ X.A (assign (.Name y py) X.env (.ref D0)) _ _ _
      obtain ⟨f0, f1, f2, f3, f4, f5⟩ := fpC kvs
      refine wpAny_assign_Name (store_ok2 (v := V.ref D0) J hN hy (.inl hyl) rfl (fun s2 J2 ⟨a, sb, ha⟩ => ?_) (.inr hyl))
      have haC : C ≠ a := by
        rcases ha with z | z
        · rw [z]
          exact f1
        · exact fun e => f4 y a z e.symm
      exact ⟨m, hn.sameBut sb haC, fun h3' sb3 => ⟨_, _, J2.turned (t' := s2.toks) (fun b o hb q => (sb3.2 b hb).trans q) f0 f1 f3 f4 f5, q D0 kvs hDn e' ko⟩⟩
  refine wpAny_bind (wpAny_mono (comprehension_at (use := some (assign (.Name y py) X.env)) (Q := fun _ s' => SP X pins D .next s') rfl hs (closure_ok hfree) ok.kind (fun z hz e => by rw [ok.uniq z hz, e])
    (wpAny_mono main (fun xv s₁ h₁ => wpAny_mono h₁ (fun it s₂ h₂ => compBlock_dict hcell ok.kind h₂) fun _ _ e => e) fun _ _ e => e)) (fun _ s' hq => wpAny_pure (wpAny_pure hq)) fun _ _ e => e)
end
end Rw
namespace Rw
open PySem PySem.Spec PyProof.Rows L2
/-! ### names, worlds, pairs -/
def letter (c : Nat) : Bool := decide (97 ≤ c) && decide (c ≤ 122)
def notS : Str := ("not" : Str)
def nameB (x : Str) : Bool := x.cps.toList.all letter && decide (1 ≤ x.cps.size) && decide (x.cps.size ≤ 8) && !decide (x = notS)
theorem nameB_iff {x : Str} : nameB x = true ↔ (∀ c ∈ x.cps.toList, letter c = true) ∧ 1 ≤ x.cps.size ∧ x.cps.size ≤ 8 ∧ x ≠ notS := by
  unfold nameB
  simp only [Bool.and_eq_true, List.all_eq_true, decide_eq_true_eq, Bool.not_eq_true', decide_eq_false_iff_not]
  exact ⟨fun ⟨⟨⟨a, b⟩, c⟩, d⟩ => ⟨a, b, c, d⟩, fun ⟨a, b, c, d⟩ => ⟨⟨⟨a, b⟩, c⟩, d⟩⟩
theorem name_strOk {x : Str} (h : nameB x = true) : PyData.strOk x = true := by
  obtain ⟨h1, _⟩ := nameB_iff.mp h
  unfold PyData.strOk
  rw [← Array.all_toList, List.all_eq_true]
  intro c hc
  have := h1 c hc
  unfold letter at this
  simp only [Bool.and_eq_true, decide_eq_true_eq] at this
  exact decide_eq_true (by omega)
abbrev W := List Str
abbrev Pr := W × W
/-- strictly rising -/
abbrev UpX (ns : W) : Prop := ns.Pairwise fun a b => a.cps.toList < b.cps.toList
structure IsW (ns : W) : Prop where
  names : ∀ x ∈ ns, nameB x = true
  up : UpX ns
  few : ns.length ≤ 40
def wd (ns : W) : PyData := .tuple (ns.map .str)
def pd (p : Pr) : PyData := .tuple [wd p.1, wd p.2]
theorem str_inj : ∀ {a b : W}, a.map PyData.str = b.map PyData.str → a = b
  | [], [], _ => rfl
  | [], _ :: _, h => by simp at h
  | _ :: _, [], h => by simp at h
  | x :: a, y :: b, h => by
    simp only [List.map_cons, List.cons.injEq, PyData.str.injEq] at h
    rw [h.1, str_inj h.2]
theorem wd_inj {a b : W} (h : wd a = wd b) : a = b := by
  unfold wd at h
  injection h with h
  exact str_inj h
theorem pd_inj {p q : Pr} (h : pd p = pd q) : p = q := by
  unfold pd at h
  injection h with h
  injection h with h1 h2
  injection h2 with h2 _
  exact Prod.ext (wd_inj h1) (wd_inj h2)
theorem okDs_str : ∀ ns : W, okDs (ns.map .str) = true
  | [] => rfl
  | x :: ns => by
    rw [List.map_cons, okDs, okDs_str ns]
    rfl
theorem depth_str : ∀ ns : W, PyData.depthAll (ns.map .str) = 0
  | [] => by simp [PyData.depthAll]
  | x :: ns => by
    rw [List.map_cons, PyData.depthAll, depth_str ns]
    simp [PyData.depth]
theorem ok_wd (ns : W) : okD (wd ns) = true := by
  unfold wd
  rw [okD]
  exact okDs_str ns
theorem depth_wd (ns : W) : (wd ns).depth = 1 := by
  unfold wd
  rw [PyData.depth, depth_str]
theorem good_wd (ns : W) : Good (wd ns) := ⟨ok_wd ns, by rw [depth_wd]; decide, ⟨_, rfl⟩⟩
theorem ok_pd (p : Pr) : okD (pd p) = true := by
  unfold pd
  rw [okD, okDs, okDs, okDs, ok_wd, ok_wd]
  rfl
theorem depth_pd (p : Pr) : (pd p).depth = 2 := by
  unfold pd
  simp [PyData.depth, PyData.depthAll, depth_wd]
theorem good_pd (p : Pr) : Good (pd p) := ⟨ok_pd p, by rw [depth_pd]; decide, ⟨_, rfl⟩⟩
theorem lay_strs : ∀ {ns : W}, (∀ x ∈ ns, nameB x = true) → PyData.canLayAll0 (ns.map .str) = true
  | [], _ => by simp [PyData.canLayAll0]
  | x :: ns, h => by
    rw [List.map_cons, PyData.canLayAll0, lay_strs fun y hy => h y (List.mem_cons_of_mem _ hy), PyData.canLay0, name_strOk (h x List.mem_cons_self)]
    rfl
theorem lay_wd {ns : W} (h : ∀ x ∈ ns, nameB x = true) : (wd ns).canLay0 = true := by
  unfold wd
  rw [PyData.canLay0]
  exact lay_strs h
theorem shaped_wd {ns : W} (h : IsW ns) : SeqAt.shaped (wd ns) = true := by
  unfold SeqAt.shaped
  rw [lay_wd h.names, depth_wd]
  rfl
theorem lay_pd {p : Pr} (h1 : IsW p.1) (h2 : IsW p.2) : (pd p).canLay0 = true := by
  unfold pd
  rw [PyData.canLay0, PyData.canLayAll0, PyData.canLayAll0, PyData.canLayAll0, lay_wd h1.names, lay_wd h2.names]
  rfl
theorem shaped_pd {p : Pr} (h1 : IsW p.1) (h2 : IsW p.2) : SeqAt.shaped (pd p) = true := by
  unfold SeqAt.shaped
  rw [lay_pd h1 h2, depth_pd]
  rfl
theorem alike_strs : ∀ a b : W, PySem.W.alikeAll (a.map .str) (b.map .str) = true
  | [], _ => by simp [PySem.W.alikeAll]
  | _ :: _, [] => by simp [PySem.W.alikeAll]
  | x :: a, y :: b => by
    rw [List.map_cons, List.map_cons, PySem.W.alikeAll, alike_strs a b]
    simp [PySem.W.alike]
theorem alike_wd (a b : W) : PySem.W.alike (wd a) (wd b) = true := by
  unfold wd
  rw [PySem.W.alike]
  exact alike_strs a b
theorem alike_pd (p q : Pr) : PySem.W.alike (pd p) (pd q) = true := by
  unfold pd
  rw [PySem.W.alike, PySem.W.alikeAll, PySem.W.alikeAll, PySem.W.alikeAll, alike_wd, alike_wd]
  rfl
theorem eqv_strs : ∀ a b : W, PyData.eqvAll (a.map .str) (b.map .str) = decide (a = b)
  | [], [] => by simp [PyData.eqvAll]
  | [], _ :: _ => by simp [PyData.eqvAll]
  | _ :: _, [] => by simp [PyData.eqvAll]
  | x :: a, y :: b => by
    rw [List.map_cons, List.map_cons, PyData.eqvAll, eqv_strs a b, PyData.eqv]
    by_cases h : x = y
    · subst h
      by_cases h2 : a = b <;> simp [h2]
    · simp [h]
theorem eqv_wd (a b : W) : PyData.eqv (wd a) (wd b) = decide (a = b) := by
  unfold wd
  rw [PyData.eqv]
  exact eqv_strs a b
theorem eqv_pd (p q : Pr) : PyData.eqv (pd p) (pd q) = decide (p = q) := by
  unfold pd
  rw [PyData.eqv, PyData.eqvAll, PyData.eqvAll, PyData.eqvAll, eqv_wd, eqv_wd]
  obtain ⟨a, b⟩ := p
  obtain ⟨c, d⟩ := q
  by_cases h1 : a = c
  · by_cases h2 : b = d <;> simp [h1, h2]
  · simp [h1]
/-! ### sorted lists are told by their members -/
theorem toks_ne {d e : PyData} (h : PySem.W.alike d e = true) (he : PyData.eqv d e = false) : PySem.W.keyToks d ≠ PySem.W.keyToks e := fun t => by
  have z := (PySem.W.toks_eqv d e h).2 he [.inl 0] [.inl 1]
  rw [t, PySem.W.lex_pre, lex_irrefl] at z
  exact absurd z (by decide)
theorem lt_or {d e : PyData} (h : PySem.W.alike d e = true) (he : PyData.eqv d e = false) : PySem.W.dataLt d e = true ∨ PySem.W.dataLt e d = true := by
  cases h1 : PySem.W.dataLt d e with
  | true => exact .inl rfl
  | false =>
    cases h2 : PySem.W.dataLt e d with
    | true => exact .inr rfl
    | false => exact absurd (lex_total _ _ h1 h2) (toks_ne h he)
/-- rising and without repetition: told by the members -/
theorem rising_one {α : Type} {enc : α → PyData} (al : ∀ a b, PySem.W.alike (enc a) (enc b) = true) (inj : ∀ a b, PyData.eqv (enc a) (enc b) = true → a = b) :
    ∀ {l m : List α}, Rising (l.map enc) → Rising (m.map enc) → l.Nodup → m.Nodup → (∀ a, a ∈ l ↔ a ∈ m) → l = m
  | [], [], _, _, _, _, _ => rfl
  | [], b :: m, _, _, _, _, h => absurd ((h b).mpr List.mem_cons_self) (List.not_mem_nil)
  | a :: l, [], _, _, _, _, h => absurd ((h a).mp List.mem_cons_self) (List.not_mem_nil)
  | a :: l, b :: m, r1, r2, n1, n2, h => by
    have le_of : ∀ {x y : α} {k : List α}, Rising ((x :: k).map enc) → y ∈ x :: k → y = x ∨ PySem.W.dataLt (enc y) (enc x) = false := by
      intro x y k r hy
      rcases List.mem_cons.mp hy with e | hy
      · exact .inl e
      · right
        have z := (List.pairwise_cons.mp r).1 (enc y) (List.mem_map.mpr ⟨y, hy, rfl⟩)
        have z' : (!PySem.W.dataLt (enc y) (enc x)) = true := z
        simpa using z'
    have e : a = b := by
      have h1 := le_of r1 ((h b).mpr List.mem_cons_self)
      have h2 := le_of r2 ((h a).mp List.mem_cons_self)
      rcases h1 with e | h1
      · exact e.symm
      · rcases h2 with e | h2
        · exact e
        · cases ev : PyData.eqv (enc a) (enc b) with
          | true => exact inj a b ev
          | false =>
            rcases lt_or (al a b) ev with z | z
            · rw [h2] at z
              exact nomatch z
            · rw [h1] at z
              exact nomatch z
    subst e
    obtain ⟨a1, a2⟩ := List.nodup_cons.mp n1
    obtain ⟨b1, b2⟩ := List.nodup_cons.mp n2
    rw [rising_one al inj (List.pairwise_cons.mp r1).2 (List.pairwise_cons.mp r2).2 a2 b2 fun x => ?_]
    constructor
    · intro hx
      rcases List.mem_cons.mp ((h x).mp (List.mem_cons_of_mem _ hx)) with e | z
      · rw [e] at hx
        exact absurd hx a1
      · exact z
    · intro hx
      rcases List.mem_cons.mp ((h x).mpr (List.mem_cons_of_mem _ hx)) with e | z
      · rw [e] at hx
        exact absurd hx b1
      · exact z
theorem pairs_one {R R' : List Pr} (r1 : Rising (R.map pd)) (r2 : Rising (R'.map pd)) (n1 : R.Nodup) (n2 : R'.Nodup) (h : ∀ p, p ∈ R ↔ p ∈ R') : R = R' :=
  rising_one alike_pd (fun p q e => by rw [eqv_pd] at e; exact of_decide_eq_true e) r1 r2 n1 n2 h
theorem worlds_one {R R' : List W} (r1 : Rising (R.map wd)) (r2 : Rising (R'.map wd)) (n1 : R.Nodup) (n2 : R'.Nodup) (h : ∀ p, p ∈ R ↔ p ∈ R') : R = R' :=
  rising_one alike_wd (fun p q e => by rw [eqv_wd] at e; exact of_decide_eq_true e) r1 r2 n1 n2 h
/-- texts: likewise -/
theorem upX_one : ∀ {l m : W}, UpX l → UpX m → (∀ a, a ∈ l ↔ a ∈ m) → l = m
  | [], [], _, _, _ => rfl
  | [], b :: m, _, _, h => absurd ((h b).mpr List.mem_cons_self) (List.not_mem_nil)
  | a :: l, [], _, _, h => absurd ((h a).mp List.mem_cons_self) (List.not_mem_nil)
  | a :: l, b :: m, r1, r2, h => by
    obtain ⟨p1, q1⟩ := List.pairwise_cons.mp r1
    obtain ⟨p2, q2⟩ := List.pairwise_cons.mp r2
    have e : a = b := by
      rcases List.mem_cons.mp ((h a).mp List.mem_cons_self) with e | z
      · exact e
      · rcases List.mem_cons.mp ((h b).mpr List.mem_cons_self) with e | z'
        · exact e.symm
        · exact absurd (p1 b z') (List.lt_asymm (p2 a z))
    subst e
    have na : ∀ {k : W}, (∀ x ∈ k, a.cps.toList < x.cps.toList) → a ∉ k := fun h hm => List.lt_irrefl _ (h a hm)
    rw [upX_one q1 q2 fun x => ?_]
    constructor
    · intro hx
      rcases List.mem_cons.mp ((h x).mp (List.mem_cons_of_mem _ hx)) with e | z
      · rw [e] at hx
        exact absurd hx (na p1)
      · exact z
    · intro hx
      rcases List.mem_cons.mp ((h x).mpr (List.mem_cons_of_mem _ hx)) with e | z
      · rw [e] at hx
        exact absurd hx (na p2)
      · exact z
/-- ≤ and without repetition: strictly rising -/
theorem upX_of {zs : W} (h : RisingX zs) (n : zs.Nodup) : UpX zs := by
  induction zs with
  | nil => exact List.Pairwise.nil
  | cons x zs ih =>
    obtain ⟨p, q⟩ := List.pairwise_cons.mp h
    obtain ⟨n1, n2⟩ := List.nodup_cons.mp n
    refine List.pairwise_cons.mpr ⟨fun y hy => ?_, ih q n2⟩
    have le := of_decide_eq_true (p y hy)
    refine Classical.byContradiction fun c => ?_
    have ge : y.cps.toList ≤ x.cps.toList := List.not_lt.mp c
    have e : x.cps.toList = y.cps.toList := List.le_antisymm le ge
    exact n1 ((PySem.W.str_of_cps e) ▸ hy)
theorem upX_nodup {zs : W} (h : UpX zs) : zs.Nodup := List.Pairwise.imp (fun {a b} h e => by subst e; exact List.lt_irrefl _ h) h
end Rw
namespace Rw
open PySem PySem.Spec PyProof.Rows L2
theorem in_letters {c : Nat} (h : letter c = true) : c ∈ lettersS.cps.toList := by
  have all : ((List.range 123).all fun c => !letter c || decide (c ∈ lettersS.cps.toList)) = true := by decide +kernel
  have z := h
  unfold letter at z
  simp only [Bool.and_eq_true, decide_eq_true_eq] at z
  have q := List.all_eq_true.mp all c (List.mem_range.mpr (by omega))
  rw [h] at q
  simpa using q
/-- a comprehension over a text's signs -/
theorem lc_sgn {x : Str} {g : TG} {tt : TT} {te : TE} {vs : List Nat} {σ : L2.St} {H1 : Hp} {D : Addr} {Qd : Hp → Prop} (Pv : Nat → Hp → Prop) (h0 : Pv 0 (upd H1 D (.lst [])))
    (hs : ∀ i c H, x.cps[i]? = some c → Pv i H → g (.str ⟨#[c]⟩) (wipe σ vs) H fun σ2 H2 => wipe σ2 vs = wipe σ vs ∧ tt σ2 H2 fun b H3 =>
      if b = true then te σ2 H3 fun y H4 => ∃ acc, H4 D = some (.lst acc) ∧ acc.length < sizeLine ∧ Pv (i + 1) (upd H4 D (.lst (acc ++ [y]))) else Pv (i + 1) H3) (hd : ∀ H, Pv x.cps.size H → Qd H) :
    ∃ W : Nat → Nat → Hp → Prop, (∃ m, W 0 m (upd H1 D (.lst []))) ∧ ∀ i m H, W i m H →
      ((Its x).stop i H ∧ Qd H) ∨ ((Its x).go i H ∧ ∃ Nx : Hp → Prop, (∀ H', Nx H' → ∃ m', m' < m ∧ W (i + 1) m' H') ∧ ∀ y H', (Its x).yld i H y H' → g y (wipe σ vs) H' fun σ2 H2 => wipe σ2 vs = wipe σ vs ∧ tt σ2 H2 fun b H3 =>
        if b = true then te σ2 H3 fun y H4 => ∃ acc, H4 D = some (.lst acc) ∧ acc.length < sizeLine ∧ Nx (upd H4 D (.lst (acc ++ [y]))) else Nx H3) := by
  refine ⟨fun i m H => m = x.cps.size - i ∧ i ≤ x.cps.size ∧ Pv i H, ⟨x.cps.size, by simp, Nat.zero_le _, h0⟩, ?_⟩
  rintro i m H ⟨rfl, hi, p⟩
  by_cases hlt : i < x.cps.size
  · refine .inr ⟨hlt, Pv (i + 1), fun H' p' => ⟨x.cps.size - (i + 1), by omega, rfl, hlt, p'⟩, fun y H' yy => ?_⟩
    obtain ⟨rfl, c, hc, rfl⟩ := yy
    exact hs i c _ hc p
  · have e : i = x.cps.size := by omega
    subst e
    exact .inl ⟨Nat.le_refl _, hd H p⟩
theorem small_line {n : Nat} (h : n ≤ 10000) : n ≤ sizeLine := by
  rw [sizeLine_eq]
  omega
theorem small_line' {n : Nat} (h : n ≤ 10000) : n < sizeLine := by
  rw [sizeLine_eq]
  omega
theorem map_at {α β : Type} {l : List α} {f : α → β} {i : Nat} {y : β} (h : (l.map f)[i]? = some y) : ∃ x, l[i]? = some x ∧ y = f x := by
  rw [List.getElem?_map] at h
  cases e : l[i]? with
  | none => rw [e] at h; simp at h
  | some x =>
    rw [e] at h
    exact ⟨x, rfl, (Option.some.inj h).symm⟩
theorem same_put {H H1 : Hp} {D : Addr} {o : HO} (sm : Same H H1) (hD : H D = none) : Same H (upd H1 D o) := fun b u e => by
  rw [upd_ne (ne_of_none e hD)]
  exact sm b u e
theorem dps_str {K : PySem.W.Frag} {H : Hp} : ∀ {ns : W} {xs : List V}, DpAll K H xs (ns.map .str) → xs = ns.map V.str
  | [], _, h => by cases h; rfl
  | x :: ns, _, h => by
    cases h with
    | cons h1 h2 =>
      cases h1
      rw [dps_str h2]
      rfl
theorem dps_strs {K : PySem.W.Frag} {H : Hp} : ∀ ns : W, DpAll K H (ns.map V.str) (ns.map .str)
  | [] => .nil
  | x :: ns => .cons (.str x) (dps_strs ns)
theorem of_wd {K : PySem.W.Frag} {H : Hp} {x : V} {ns : W} (h : Dp K H x (wd ns)) : ∃ a, x = .ref a ∧ SqT K H a (ns.map V.str) := by
  unfold wd at h
  cases h with
  | tup h1 h2 =>
    rw [dps_str h2] at h1
    exact ⟨_, rfl, h1⟩
theorem to_wd {K : PySem.W.Frag} {H : Hp} {a : Addr} {ns : W} (h : SqT K H a (ns.map V.str)) : Dp K H (.ref a) (wd ns) := .tup h (dps_strs ns)
theorem Stay.wd {K : PySem.W.Frag} {H H' : Hp} {x : V} {ns : W} (e : Stay H H') (h : Dp K H x (Rw.wd ns)) : Dp K H' x (Rw.wd ns) := e.dp _ _ (ok_wd ns) h
theorem tyx_tup {K : PySem.W.Frag} {H : Hp} {a : Addr} {xs : List V} (h : SqT K H a xs) : TyX K H (.ref a) (.type "tuple") := by
  rcases h with (h | ⟨o, h⟩) | ⟨o, its, n, h1, h2, _⟩
  · exact .base (.tup h)
  · exact .fTuple h
  · exact .kTuple h1 h2
/-- all of ms are in ns -/
def sub (ms ns : W) : Bool := ms.all fun z => decide (z ∈ ns)
theorem inV_str (z : Str) : ∀ ns : W, inV (.str z) (ns.map V.str) = decide (z ∈ ns)
  | [] => by simp [inV]
  | x :: ns => by
    have ih := inV_str z ns
    unfold inV at ih ⊢
    rw [List.map_cons, List.any_cons, ih]
    show ((x == z) || decide (z ∈ ns)) = decide (z ∈ x :: ns)
    by_cases h : x = z
    · subst h
      simp
    · have h' : z ≠ x := fun e => h e.symm
      simp [h, h']
theorem flat_strs (ns : W) : (ns.map V.str).all flatV = true := by
  rw [List.all_map, List.all_eq_true]
  exact fun _ _ => rfl
/-- the first that is told -/
theorem first_at {α β : Type} {f : α → Option β} {y : β} : ∀ {l : List α} {i : Nat} {p : α}, (∀ q ∈ l.take i, f q = none) → l[i]? = some p → f p = some y → l.findSome? f = some y
  | [], _, _, _, h, _ => by simp at h
  | a :: l, 0, p, _, h, e => by
    simp at h
    subst h
    rw [List.findSome?_cons, e]
  | a :: l, i + 1, p, h0, h, e => by
    rw [List.findSome?_cons, h0 a (by simp)]
    exact first_at (i := i) (fun q hq => h0 q (by rw [List.take_succ_cons]; exact List.mem_cons_of_mem _ hq)) (by simpa using h) e
theorem first_none {α β : Type} {f : α → Option β} {l : List α} (h : ∀ q ∈ l, f q = none) : l.findSome? f = none := List.findSome?_eq_none_iff.mpr h
theorem none_snoc {α β : Type} {f : α → Option β} {l : List α} {i : Nat} {p : α} (h0 : ∀ q ∈ l.take i, f q = none) (h : l[i]? = some p) (e : f p = none) : ∀ q ∈ l.take (i + 1), f q = none := fun q hq => by
  rw [take_snoc h] at hq
  rcases List.mem_append.mp hq with hq | hq
  · exact h0 q hq
  · rw [List.mem_singleton.mp hq]
    exact e
theorem filt_t {α : Type} {p : α → Bool} {l : List α} {i : Nat} {z : α} (hz : l[i]? = some z) (e : p z = true) : (l.take (i + 1)).filter p = (l.take i).filter p ++ [z] := by
  rw [take_snoc hz, List.filter_append]
  simp [e]
theorem filt_f {α : Type} {p : α → Bool} {l : List α} {i : Nat} {z : α} (hz : l[i]? = some z) (e : p z = false) : (l.take (i + 1)).filter p = (l.take i).filter p := by
  rw [take_snoc hz, List.filter_append]
  simp [e]
theorem okDs_wd (L : List W) : okDs (L.map wd) = true := okDs_all fun d hd => by
  obtain ⟨q, _, rfl⟩ := List.mem_map.mp hd
  exact ok_wd q
theorem none_back {H0 H : Hp} (h : Same H0 H) {o : Addr} (n : H o = none) : H0 o = none := by
  cases e : H0 o with
  | none => rfl
  | some u =>
    rw [h _ _ e] at n
    cases n
theorem map_inj_nodup {α β : Type} {f : α → β} : ∀ {l : List α}, (l.map f).Nodup → ∀ a ∈ l, ∀ b ∈ l, f a = f b → a = b
  | [], _, a, h, _, _, _ => nomatch h
  | x :: l, hn, a, ha, b, hb, e => by
    rw [List.map_cons] at hn
    obtain ⟨h1, h2⟩ := List.nodup_cons.mp hn
    rcases List.mem_cons.mp ha with ea | ha
    · rcases List.mem_cons.mp hb with eb | hb
      · rw [ea, eb]
      · exact absurd (List.mem_map.mpr ⟨b, hb, by rw [← e, ea]⟩) h1
    · rcases List.mem_cons.mp hb with eb | hb
      · exact absurd (List.mem_map.mpr ⟨a, ha, by rw [e, eb]⟩) h1
      · exact map_inj_nodup h2 a ha b hb e
theorem sw_trueD {key val : Expr} {gs : List Comprehension} {scope : Scope} {pos py : Pos} {y : Str} {l : Nat} {env : Env} (hk : env.scope.kind = .function) (hy : env.scope.names.lookup y = some .local) (hl : (py.line == pos.line) = true)
    (ha : (scope.names.any fun (n, k) => n == y && (k == .local || k == .cell)) = false) : swapsWith (.DictComp key val gs scope pos) (some (.Name y py)) l env = pure true :=
  (show swapsWith (.DictComp key val gs scope pos) (some (.Name y py)) l env = swapsWith (.ListComp key gs scope pos) (some (.Name y py)) l env from rfl).trans (sw_true hk hy hl ha)
theorem op_powB {X : Cx} : OpR X (binaryOp .Pow) (rI (fun i j => 0 ≤ j ∧ (Builtin.Int.intBits i : Int) * j ≤ 2 ^ 27) fun i j => .int (i ^ j.toNat)) := opI fun _ _ _ _ _ _ _ hc q => pow_int hc.1 hc.2 q
theorem b64 {i : Int} (h0 : 0 ≤ i) (h1 : i < 2147483647) : -(2 ^ 64) < i ∧ i < 2 ^ 64 := ⟨by omega, by omega⟩
/-- a purse: three numbers -/
def Pur (H : Hp) (p : Addr) (c : Int) : Prop := ∃ a b e : Int, H p = some (.lst [.int a, .int b, .int e]) ∧ 0 ≤ a ∧ 0 ≤ b ∧ b < 2147483647 ∧ 0 ≤ e ∧ e ≤ c
def subsR : W → List W
  | [] => [[]]
  | x :: r => subsR r ++ (subsR r).map fun t => t ++ [x]
def subs (ns : W) : List W := subsR ns.reverse
theorem mem_subsR : ∀ {r t : W}, t ∈ subsR r ↔ t.Sublist r.reverse
  | [], t => by
    rw [subsR, List.mem_singleton, List.reverse_nil, List.sublist_nil]
  | x :: r, t => by
    rw [subsR, List.mem_append, List.mem_map, List.reverse_cons, List.sublist_append_iff]
    constructor
    · rintro (h | ⟨s, hs, rfl⟩)
      · exact ⟨t, [], by simp, mem_subsR.mp h, by simp⟩
      · exact ⟨s, [x], rfl, mem_subsR.mp hs, List.Sublist.refl _⟩
    · rintro ⟨a, b, rfl, ha, hb⟩
      cases hb with
      | cons _ h =>
        left
        rw [List.sublist_nil.mp h, List.append_nil]
        exact mem_subsR.mpr ha
      | cons_cons _ h =>
        right
        exact ⟨a, mem_subsR.mpr ha, by rw [List.sublist_nil.mp h]⟩
theorem mem_subs {ns t : W} : t ∈ subs ns ↔ t.Sublist ns := by
  unfold subs
  rw [mem_subsR, List.reverse_reverse]
theorem subsR_nodup : ∀ {r : W}, r.Nodup → (subsR r).Nodup
  | [], _ => by simp [subsR]
  | x :: r, h => by
    obtain ⟨h1, h2⟩ := List.nodup_cons.mp h
    have ih := subsR_nodup h2
    rw [subsR]
    refine List.nodup_append.mpr ⟨ih, ?_, fun a ha b hb e => ?_⟩
    · exact List.Pairwise.map _ (fun a b (hab : a ≠ b) (e : a ++ [x] = b ++ [x]) => hab (List.append_cancel_right e)) ih
    · subst e
      obtain ⟨s, hs, rfl⟩ := List.mem_map.mp hb
      have z := (mem_subsR.mp ha).subset (List.mem_append_right s (List.mem_singleton.mpr rfl))
      exact h1 (List.mem_reverse.mp z)
theorem subs_nodup {ns : W} (h : ns.Nodup) : (subs ns).Nodup := subsR_nodup (List.pairwise_reverse.mpr (h.imp fun hne e => hne e.symm))
theorem subsR_len : ∀ r : W, (subsR r).length = 2 ^ r.length
  | [] => rfl
  | x :: r => by
    rw [subsR, List.length_append, List.length_map, subsR_len r, List.length_cons, Nat.pow_succ]
    omega
theorem subs_len (ns : W) : (subs ns).length = 2 ^ ns.length := by
  unfold subs
  rw [subsR_len, List.length_reverse]
theorem subs_snoc (ns : W) (x : Str) : subs (ns ++ [x]) = subs ns ++ (subs ns).map fun t => t ++ [x] := by
  unfold subs
  rw [List.reverse_append, List.reverse_singleton]
  rfl
theorem sub_mem {a b : W} (h : sub a b = true) : ∀ x ∈ a, x ∈ b := fun x hx => by
  unfold sub at h
  exact of_decide_eq_true (List.all_eq_true.mp h x hx)
theorem sub_of {a b : W} (h : ∀ x ∈ a, x ∈ b) : sub a b = true := by
  unfold sub
  exact List.all_eq_true.mpr fun x hx => decide_eq_true (h x hx)
/-- the parts of a world are the worlds within it -/
theorem parts_iff {ns t : W} (h : IsW ns) : t ∈ subs ns ↔ IsW t ∧ sub t ns = true := by
  rw [mem_subs]
  constructor
  · intro s
    exact ⟨⟨fun x hx => h.names x (s.subset hx), h.up.sublist s, Nat.le_trans s.length_le h.few⟩, sub_of fun x hx => s.subset hx⟩
  · rintro ⟨hw, hs⟩
    have e : ns.filter (fun x => decide (x ∈ t)) = t := upX_one (h.up.sublist List.filter_sublist) hw.up fun a => by
      rw [List.mem_filter, decide_eq_true_iff]
      exact ⟨fun z => z.2, fun z => ⟨sub_mem hs a z, z⟩⟩
    rw [← e]
    exact List.filter_sublist
/-- the list of worlds at l -/
def WL (K : PySem.W.Frag) (H : Hp) (l : Addr) (S : List W) : Prop := ∃ ys, H l = some (.lst ys) ∧ DpAll K H ys (S.map wd)
theorem WL.same {K : PySem.W.Frag} {H H' : Hp} {l : Addr} {R : List W} (h : WL K H l R) (e : Same H H') : WL K H' l R := by
  obtain ⟨xs, h1, h2⟩ := h
  exact ⟨xs, e _ _ h1, (Stay.same e).dpAll _ _ (okDs_wd R) h2⟩
theorem all_wd : ∀ {ds : List PyData}, (∀ d ∈ ds, ∃ p, d = wd p) → ∃ R : List W, ds = R.map wd
  | [], _ => ⟨[], rfl⟩
  | d :: ds, h => by
    obtain ⟨p, rfl⟩ := h d List.mem_cons_self
    obtain ⟨R, rfl⟩ := all_wd fun e he => h e (List.mem_cons_of_mem _ he)
    exact ⟨p :: R, rfl⟩
theorem perm_of_map {α β : Type} {f : α → β} (inj : ∀ a b, f a = f b → a = b) : ∀ {l m : List α}, (l.map f).Perm (m.map f) → l.Perm m := by
  intro l m h
  classical
  refine List.perm_iff_count.mpr fun a => ?_
  have z := List.perm_iff_count.mp h (f a)
  have c : ∀ k : List α, List.count (f a) (k.map f) = List.count a k := fun k => by
    induction k with
    | nil => rfl
    | cons x k ih =>
      rw [List.map_cons, List.count_cons, List.count_cons, ih]
      by_cases e : x = a
      · subst e
        simp
      · have e' : f x ≠ f a := fun z => e (inj _ _ z)
        simp [e, e']
  rw [c, c] at z
  exact z
theorem shaped_strs {ns : W} (h : ∀ x ∈ ns, nameB x = true) : SeqAt.shaped (.list (ns.map .str)) = true := by
  unfold SeqAt.shaped
  rw [PyData.canLay0, lay_strs h, PyData.depth, depth_str]
  rfl
theorem first_map {α β γ : Type} {f : β → Option γ} {g : α → β} : ∀ {l : List α}, (l.map g).findSome? f = l.findSome? fun a => f (g a)
  | [] => rfl
  | a :: l => by
    rw [List.map_cons, List.findSome?_cons, List.findSome?_cons, first_map (l := l)]
theorem first_filter {α γ : Type} {f : α → Option γ} {p : α → Bool} : ∀ {l : List α}, (l.filter p).findSome? f = l.findSome? fun a => if p a = true then f a else none
  | [] => rfl
  | a :: l => by
    rw [List.findSome?_cons, ← first_filter (l := l)]
    by_cases h : p a = true
    · rw [List.filter_cons_of_pos h, List.findSome?_cons, if_pos h]
    · rw [List.filter_cons_of_neg h, if_neg h]
theorem first_congr {α γ : Type} {f g : α → Option γ} {l : List α} (h : ∀ a ∈ l, f a = g a) : l.findSome? f = l.findSome? g := by
  induction l with
  | nil => rfl
  | cons a l ih =>
    rw [List.findSome?_cons, List.findSome?_cons, h a List.mem_cons_self, ih fun b hb => h b (List.mem_cons_of_mem _ hb)]
theorem sub_self (t : W) : sub t t = true := sub_of fun _ h => h
theorem sub_trans {a b c : W} (h : sub a b = true) (h2 : sub b c = true) : sub a c = true := sub_of fun x hx => sub_mem h2 x (sub_mem h x hx)
theorem room65 {k : Nat} {A : Around} (hr : Room k A) : A.units + 65 < cLine := by
  have := hr.un
  omega
theorem len_le {α : Type} [DecidableEq α] : ∀ {l m : List α}, l.Nodup → (∀ z ∈ l, z ∈ m) → l.length ≤ m.length
  | [], _, _, _ => Nat.zero_le _
  | x :: l, m, hn, hs => by
    obtain ⟨h1, h2⟩ := List.nodup_cons.mp hn
    have hx : x ∈ m := hs x List.mem_cons_self
    have ih := len_le (l := l) (m := m.erase x) h2 fun y hy => (List.mem_erase_of_ne (show y ≠ x from fun e => h1 (by rw [← e]; exact hy))).2 (hs y (List.mem_cons_of_mem _ hy))
    rw [List.length_erase_of_mem hx] at ih
    have := List.length_pos_of_mem hx
    rw [List.length_cons]
    omega
theorem prod_len {α β : Type} (m : List β) : ∀ l : List α, (l.flatMap fun a => m.map fun b => (a, b)).length = l.length * m.length
  | [] => by simp
  | a :: l => by
    rw [List.flatMap_cons, List.length_append, prod_len m l, List.length_map, List.length_cons, Nat.succ_mul]
    omega
theorem prod_mem {α β : Type} {l : List α} {m : List β} {a : α} {b : β} (ha : a ∈ l) (hb : b ∈ m) : (a, b) ∈ l.flatMap fun a => m.map fun b => (a, b) :=
  List.mem_flatMap.mpr ⟨a, ha, List.mem_map.mpr ⟨b, hb, rfl⟩⟩
def meet (ns ms : W) : W := ns.filter fun z => decide (z ∈ ms)
theorem isW_meet {a b : W} (h : IsW a) : IsW (meet a b) := ⟨fun x hx => h.names x (List.mem_filter.mp hx).1, h.up.sublist List.filter_sublist, Nat.le_trans (List.length_filter_le _ _) h.few⟩
theorem nodup_snoc {α : Type} {L : List α} {p : α} (n : L.Nodup) (h : p ∉ L) : (L ++ [p]).Nodup := List.nodup_append.mpr ⟨n, by simp, fun a ha b hb e => by
  rw [List.mem_singleton] at hb
  subst hb
  exact h (e ▸ ha)⟩
def Bar (p : Addr) (H H' : Hp) : Prop := ∀ b u, b ≠ p → H b = some u → H' b = some u
theorem Bar.same {p : Addr} {H H' : Hp} (h : Same H H') : Bar p H H' := fun b u _ e => h b u e
theorem Bar.trans {p : Addr} {H H1 H2 : Hp} (a : Bar p H H1) (b : Bar p H1 H2) : Bar p H H2 := fun c u n e => b c u n (a c u n e)
theorem Bar.draw {p : Addr} {H : Hp} {o : HO} : Bar p H (upd H p o) := fun b u n e => by
  rw [upd_ne n]
  exact e
theorem Bar.put {p l : Addr} {H H' : Hp} (h : Bar p H H') (n : H l = none) {o : HO} : Bar p H (upd H' l o) := fun b u nb e => by
  rw [upd_ne (ne_of_none e n)]
  exact h b u nb e
theorem Pur.mut {H : Hp} {p : Addr} {c : Int} (h : Pur H p c) : Mut (H p) := by
  obtain ⟨a, b, e, h, _⟩ := h
  rw [h]
  exact True.intro
theorem Pur.some {H : Hp} {p : Addr} {c : Int} (h : Pur H p c) {q : Addr} (n : H q = none) : q ≠ p := fun e => by
  obtain ⟨a, b, e', h, _⟩ := h
  rw [e, h] at n
  cases n
theorem Pur.same {H H' : Hp} {p : Addr} {c : Int} (h : Pur H p c) (e : Same H H') : Pur H' p c := by
  obtain ⟨a, b, e', h, g⟩ := h
  exact ⟨a, b, e', e _ _ h, g⟩
theorem Pur.put {H : Hp} {p l : Addr} {c : Int} (h : Pur H p c) (n : l ≠ p) {o : HO} : Pur (upd H l o) p c := by
  obtain ⟨a, b, e', h, g⟩ := h
  refine ⟨a, b, e', ?_, g⟩
  rw [upd_ne n.symm]
  exact h
theorem Pur.le {H : Hp} {p : Addr} {c d : Int} (h : Pur H p c) (l : c ≤ d) : Pur H p d := by
  obtain ⟨a, b, e', h, g1, g2, g3, g4, g5⟩ := h
  exact ⟨a, b, e', h, g1, g2, g3, g4, Int.le_trans g5 l⟩
theorem Bar.stay {p : Addr} {H H' : Hp} (h : Bar p H H') (m : Mut (H p)) : Stay H H' := fun b xs r => by
  have ne : b ≠ p := fun z => by
    subst z
    rcases r with r | ⟨u, r⟩
    · rw [r] at m; exact m
    · rw [r] at m; exact m
  rcases r with r | ⟨o, r⟩
  · exact .inl (h _ _ ne r)
  · exact .inr ⟨o, h _ _ ne r⟩
theorem idx_new' {α : Type} {ds : List α} (hn : ds.Nodup) {i : Nat} {d : α} (h : ds[i]? = some d) : d ∉ ds.take i := fun hm => by
  have z := take_snoc h
  have nd : (ds.take (i + 1)).Nodup := List.Nodup.sublist (List.take_sublist _ _) hn
  rw [z] at nd
  obtain ⟨_, _, h3⟩ := List.nodup_append.mp nd
  exact h3 d hm d (List.mem_singleton.mpr rfl) rfl
theorem evalArgs_kw0 {M : Model} {A : Around} {E : Value → Shared → Prop} {s : Shared} {f : Value} {kwl : List (Option Str × Sem Value)} {Q : Args → Shared → Prop} (hall : (kwl.all fun x => x.1.isSome) = true)
    (h : wpAny M A (evalAll (kwl.map fun x => x.2)) (fun ks s₂ => Q { pos := [], kw := (kwl.filterMap fun x => x.1).zip ks } s₂) E s) : wpAny M A (evalArgs f true [] kwl) Q E s := by
  unfold evalArgs
  refine wpAny_bind (Calls.spliced_nil ?_)
  refine wpAny_bind (wpAny_pure ?_)
  refine wpAny_holding ?_
  rw [if_pos hall]
  refine wpAny_bind (wpAny_mono h (fun ks s2 q => ?_) fun _ _ e => e)
  exact wpAny_bind (wpAny_pure (wpAny_pure q))
theorem pe_callK0 {X : Cx} {CX : CXT} {k : Nat} {f : Addr} {fd : FuncData} {ps ks : List Str} {sp : Sp} {E : XK} {x : Str} {p pos : Pos} {kws : List Keyword} {tk : TA} {g : List Value → List Value → List Value} {gV : List V → List V → List V}
    (F : FnOk X.prog X.w X.K X.mg X.base CX k f fd ps sp) (hr : Room k X.A) (hg : Gl X x) (hm : X.mg x = some (.ref f)) (hk : PySem.W.keepIn X.K (.ref f) = true) (hb : KBn X.K fd ps 0 ks g gV) (hx : Passes CX X E) (hkw : PK X kws tk)
    (hall : ((backToKw pos (keywordEach kws X.env)).all fun x => x.1.isSome) = true) (hks : (backToKw pos (keywordEach kws X.env)).filterMap (fun x => x.1) = ks) (hdb : (x == ("__debug__" : Str)) = false)
    (hpl : ((([] : List (Bool × Sem Value)).any fun x => x.1) || (backToKw pos (keywordEach kws X.env)).any fun x => x.1.isNone) = false) (hst : backTo pos (starEach [] X.env) = []) :
    PE X (.Call (.Name x p) [] kws pos) (fun σ H Q => tk σ H fun zs H1 => zs.length = ks.length ∧ sp (gV [] zs) H1 Q E) := by
  refine ⟨fun pins s σ H Q I h => wpAny_Call_Name_kw (ld_glob I hg hm ?_ hdb)⟩
  rw [hst]
  refine PySem.W.callWith_of hpl (PySem.W.keeps_K hk) (evalArgs_kw0 hall (thn (hkw.run pos pins s σ H (fun zs H1 => zs.length = ks.length ∧ sp (gV [] zs) H1 Q E) I h) fun ws s2 ⟨zs, H2, I2, rz, l2, q2⟩ => ⟨Inv.kIn I2, ?_⟩))
  rw [hks]
  exact run_fnN F hr hb hx I2 .nil rz rfl l2 q2
def tMid (t u : TS) : TS := fun D σ H => ∃ I : L2.St → Hp → Prop, t { nx := I, rt := D.rt, bk := D.bk, ct := D.ct } σ H ∧ ∀ σ' H', I σ' H' → u D σ' H'
/-- the first statement up to a mark of one's own, then the rest from it -/
theorem pss_mid {X : Cx} {st : Stmt} {rest : List Stmt} {t u : TS} (h1 : PS X st t) (h2 : PSs X rest u) : PSs X (st :: rest) (tMid t u) := by
  refine ⟨fun pins s σ H D I ⟨J, a, b⟩ => ?_⟩
  refine wpAny_execs_cons (thn (h1.run pins s σ H _ I a) fun f s1 q => ?_)
  cases f with
  | next =>
    obtain ⟨σ', H', I', q⟩ := q
    exact h2.run pins s1 σ' H' D I' (b σ' H' q)
  | brk => exact q
  | cont => exact q
  | ret v => exact q
/-- a def with defaults, called by names -/
theorem kbn_def {K : PySem.W.Frag} {x qual : Str} {params : Arguments} {body : List Stmt} {scope : Scope} {dvs : List V} {kws : List (Str × V)} {f : Addr} {fd : FuncData} {ps : List Str} (F : FunD K x qual params body scope dvs kws f fd) (hd : dvs ≠ []) (n : Nat) (ks : List Str) (g : List Value → List Value → List Value → List Value) (gV : List V → List V → List V)
    (h : ∀ (T : Addr) (kV doc pm : Value) (an : Option Addr) (cdv ct : Value) (us its ws : List Value), us.length = n → its.length = dvs.length → ws.length = ks.length → ∃ k, bindArgs (PySem.W.fnOf x qual params body scope (.ref T) kV doc pm an cdv ct) { pos := us, kw := ks.zip ws } = seqItems? (.ref T) >>= k ∧ k (some its.toArray) = pure (ps.zip (g us its ws)))
    (rel : ∀ {vs : List V} {us its : List Value} {zs : List V} {ws : List Value}, Vals vs us → Vals dvs its → Vals zs ws → Vals (gV vs zs) (g us its ws)) : ∃ its, Vals dvs its ∧ KBn K fd ps n ks (fun us ws => g us its ws) gV := by
  obtain ⟨oc, od, dV, kV, doc, pm, an, cdv, ct, osl, rfl, lk, hcd, hD, hK⟩ := F.ex
  rcases hD with ⟨e, _⟩ | ⟨_, T, o, its, m, rfl, lT, oT, rT⟩
  · exact absurd e hd
  · refine ⟨its, rT, ⟨fun s us ws X l1 l2 => ?_, fun a b => rel a rT b⟩⟩
    intro M A E Q q
    obtain ⟨k, e1, e2⟩ := h T kV doc pm an cdv ct us its ws l1 rT.length.symm l2
    rw [e1]
    refine wpAny_bind (wpAny_seqItems (X T o lT) oT ?_)
    rw [e2]
    exact wpAny_pure q
theorem shaped_of {d : PyData} (h : d.canLay0 = true) (n : d.depth ≤ 64) : SeqAt.shaped d = true := by
  unfold SeqAt.shaped
  rw [h, decide_eq_true n]
  rfl
theorem eqv_self {d : PyData} (h : SeqAt.shaped d = true) : PyData.eqv d d = true := by
  unfold SeqAt.shaped at h
  rw [Bool.and_eq_true] at h
  exact SeqAt.eqv_refl d h.1
theorem dpAll_drop {K : PySem.W.Frag} {H : Hp} : ∀ {xs : List V} {ds : List PyData} (n : Nat), DpAll K H xs ds → DpAll K H (xs.drop n) (ds.drop n)
  | _, _, 0, h => h
  | _, _, _ + 1, .nil => .nil
  | _, _, n + 1, .cons _ t => dpAll_drop n t
theorem dpAll_take {K : PySem.W.Frag} {H : Hp} : ∀ {xs : List V} {ds : List PyData} (n : Nat), DpAll K H xs ds → DpAll K H (xs.take n) (ds.take n)
  | _, _, 0, _ => by
    rw [List.take_zero, List.take_zero]
    exact .nil
  | _, _, _ + 1, .nil => .nil
  | _, _, n + 1, .cons h t => .cons h (dpAll_take n t)
theorem dpAll_rev {K : PySem.W.Frag} {H : Hp} : ∀ {xs : List V} {ds : List PyData}, DpAll K H xs ds → DpAll K H xs.reverse ds.reverse
  | _, _, .nil => .nil
  | _, _, .cons h t => by
    rw [List.reverse_cons, List.reverse_cons]
    exact dpAll_app (dpAll_rev t) (.cons h .nil)
theorem dpAll_erase {K : PySem.W.Frag} {H : Hp} : ∀ {xs : List V} {ds : List PyData} (n : Nat), DpAll K H xs ds → DpAll K H (xs.eraseIdx n) (ds.eraseIdx n)
  | _, _, 0, .cons _ t => t
  | _, _, _ + 1, .cons h t => .cons h (dpAll_erase _ t)
  | _, _, _, .nil => .nil
theorem map_erase {α β : Type} (f : α → β) : ∀ (l : List α) (n : Nat), (l.map f).eraseIdx n = (l.eraseIdx n).map f
  | [], _ => rfl
  | _ :: _, 0 => rfl
  | a :: l, n + 1 => congrArg (f a :: ·) (map_erase f l n)
theorem none_bar {p l : Addr} {H H' : Hp} {c : Int} (b : Bar p H H') (pu : Pur H' p c) (n : H' l = none) : H l = none := by
  have ne := pu.some n
  cases e : H l with
  | none => rfl
  | some u =>
    rw [b l u ne e] at n
    cases n
theorem vals_app : ∀ {xs ys : List V} {us ws : List Value}, Vals xs us → Vals ys ws → Vals (xs ++ ys) (us ++ ws)
  | _, _, _, _, .nil, h => h
  | _, _, _, _, .cons r t, h => .cons r (vals_app t h)
theorem fun_of {K : PySem.W.Frag} {x qual : Str} {st : Stmt} {f : Addr} {fd : FuncData} (F : FunD K x qual (defArgs st) (defBody st) (defScope st) [] [] f fd) : Fun K x qual st f fd := by
  obtain ⟨oc, od, dV, kV, doc, pm, an, cdv, ct, osl, e, lk, hcd, hD, hK⟩ := F.ex
  rcases hD with ⟨_, rfl⟩ | ⟨h, _⟩
  · exact ⟨⟨oc, od, kV, doc, pm, an, cdv, ct, osl, e, lk, hcd⟩, F.kp⟩
  · exact absurd rfl h
end Rw
namespace Rw
open PySem PySem.Spec PyProof.Rows L2
/-! ### enumerate of a tuple -/
theorem meets_enumT (l : Addr) (items : Array Value) : Meets (Builtin.«enumerate.__new__» { pos := [Value.type "enumerate", Value.ref l] }) fun _ R s =>
    s.heap.IsTuple l items ∧ R (Except.ok (Flow.ret (Value.ref (s.heap.push { cls := Value.type "tuple_iterator", data := Data.fields #[Value.ref l, Value.int 0 0] }).objs.size)))
        { heap := (s.heap.push { cls := Value.type "tuple_iterator", data := Data.fields #[Value.ref l, Value.int 0 0] }).push
              { cls := Value.type "enumerate", data := Data.fields #[Value.none, Value.bool false, Value.ref s.heap.objs.size, rawInt 0, Value.none, Value.none] },
          gens := s.gens, drawn := s.drawn, toks := s.toks, os := s.os } := by
  refine Meets.of_wp fun prog w A R s h => ?_
  obtain ⟨hl, h⟩ := h
  have hsub := sub_enumerate
  unfold Builtin.«enumerate.__new__»
  refine wpAny_bind ?_
  unfold Builtin.SmallTypes.newClass
  refine wpAny_bind (wpAny_pure (wpAny_ite_false rfl (wpAny_bind (wpAny_of_eq hsub (wpAny_ite_false rfl (wpAny_pure (wpAny_ite_true rfl (wpAny_bind ?_))))))))
  unfold Builtin.SmallTypes.calledThroughType
  refine wpAny_bind (wpAny_stack_any fun st => wpAny_pure ?_)
  have fin : wpAny (model prog w) A.in1 (do
      let it ← pyIter (.ref l)
      let r ← Builtin.SmallTypes.newRecord (.type "enumerate") (Builtin.SmallTypes.ownedTupleFields ++ [it, rawInt 0, Value.none, Value.none])
      ret r) (fun fin s' => ∃ v, fin = Fin.done (Flow.ret v) ∧ R (Except.ok (Flow.ret v)) s') (fun e s' => R (Except.error e) s') s := by
    refine wpAny_bind (wpAny_pyIter_tuple hl ?_)
    refine wpAny_bind ?_
    unfold Builtin.SmallTypes.newRecord
    refine wpAny_bind (wpAny_alloc ?_)
    refine wpAny_pure ?_
    exact wpAny_pure ⟨_, rfl, h⟩
  split
  · generalize (_ == Value.type "enumerate") = b
    cases b
    · refine wpAny_ite_false rfl (wpAny_bind (wpAny_of_eq (a := (Value.ref l, none)) rfl fin))
    · refine wpAny_ite_true rfl (wpAny_bind (wpAny_of_eq (a := (Value.ref l, none)) rfl fin))
  · refine wpAny_ite_false rfl (wpAny_bind (wpAny_of_eq (a := (Value.ref l, none)) rfl fin))
theorem call_enumT {prog : Program} {w : World} {A : Around} {E : Value → Shared → Prop} {s : Shared} {l : Addr} {items : Array Value} {Q : Value → Shared → Prop} (hT : s.heap.IsTuple l items)
    (h : ∀ h' : Heap, IsEnum h' (s.heap.objs.size + 1) s.heap.objs.size 0 Value.none → h'.IsTupleIter s.heap.objs.size l 0 → h'.objs.size = s.heap.objs.size + 2 → (∀ (b : Addr) (o : Obj), s.heap.get? b = some o → h'.get? b = some o) →
      Q (.ref (s.heap.objs.size + 1)) { heap := h', gens := s.gens, drawn := s.drawn, toks := s.toks, os := s.os }) : wpAny (model prog w) A (call (.type "enumerate") [.ref l]) Q E s := by
  refine callType_new F.called_enumerate (by decide) (F.typeCall_enumerate_1 (.ref l)) (F.newCall_enumerate_1 (.ref l)) (fun obj => F.args_object_init_2 obj (.ref l)) F.entry_enumerate_new (meets_enumT l items) ⟨hT, ?_⟩
  have hz := Heap.size_push s.heap { cls := .type "tuple_iterator", data := .fields #[.ref l, .int 0 0] }
  show _ ∧ _
  rw [hz]
  have he := Heap.get?_push_size (s.heap.push { cls := .type "tuple_iterator", data := .fields #[.ref l, .int 0 0] }) (o := { cls := .type "enumerate", data := .fields #[.none, .bool false, .ref s.heap.objs.size, rawInt 0, .none, .none] }) rfl
  rw [hz] at he
  refine ⟨⟨_, he, rfl⟩, h _ he ⟨_, Heap.get?_push_of_some _ (Heap.get?_push_size s.heap rfl), rfl, rfl⟩ ?_ fun b o e => Heap.get?_push_of_some _ (Heap.get?_push_of_some _ e)⟩
  rw [Heap.size_push, hz]
/-- enumerate of a tuple: what it gives -/
def Ietup (K : PySem.W.Frag) (a : Addr) : It where
  go := fun i H => ∃ xs x, SqT K H a xs ∧ xs[i]? = some x
  yld := fun i H v H' => ∃ T x, v = .ref T ∧ H T = none ∧ H' = upd H T (.tup [.int (i : Int), x]) ∧ ∀ xs, SqT K H a xs → xs[i]? = some x
  stop := fun i H => ∃ xs, SqT K H a xs ∧ xs.length = i
theorem tup_enum_ne {h : Heap} {a e it : Addr} {items : Array Value} {i : Int} {old : Value} (ht : h.IsTuple a items) (he : IsEnum h e it i old) : e ≠ a := fun z => by
  obtain ⟨o, h1, h2, _⟩ := ht
  rw [← z, he] at h1
  cases h1
  exact absurd (show Value.type "enumerate" = Value.type "tuple" from h2) (by decide)
theorem tup_iter_ne {h : Heap} {a it l : Addr} {items : Array Value} {i : Nat} (ht : h.IsTuple a items) (he : h.IsTupleIter it l i) : a ≠ it := fun z => by
  obtain ⟨o, h1, h2, _⟩ := ht
  obtain ⟨o', h3, h4, _⟩ := he
  rw [z, h3] at h1
  cases h1
  rw [h4] at h2
  exact absurd h2 (by decide)
theorem turn_enumT {P : Program} {w : World} {K : PySem.W.Frag} {elts : List Expr} {kk : Nat} {tpos : Pos} (a e it : Addr) : Turn P w K (.Tuple elts kk tpos) (Ietup K a) [e, it] e (fun i h => (∃ old, IsEnum h e it (i : Int) old) ∧ h.IsTupleIter it a i ∧ e ≠ it) := by
  refine ⟨by simp, fun i h st b hb => ?_, fun i h h' st k => ?_, fun X hP hw hK hc i pins s σ H E I hf st hg => ?_, fun X hP hw hK hc i pins s σ H E I hf st hg => ?_, fun A i s Q E st h => ?_⟩
  · obtain ⟨⟨old, he⟩, ⟨o, ho, hcl, hd⟩, _⟩ := st
    rcases List.mem_cons.mp hb with z | hb
    · subst z
      exact ⟨_, he, fun v q => nomatch q⟩
    · rw [List.mem_singleton.mp hb]
      refine ⟨o, ho, fun v q => ?_⟩
      rw [hd] at q
      cases q
  · obtain ⟨⟨old, he⟩, hi, hne⟩ := st
    exact ⟨⟨old, k e (by simp) _ he⟩, hi.at fun o q => k it (by simp) o q, hne⟩
  · subst hP hw hK
    obtain ⟨⟨old, he⟩, hit, hne⟩ := st
    obtain ⟨xs, x, hq, hx⟩ := hg
    obtain ⟨its, rv, p, hz⟩ := I.tuple hq
    have ht : s.heap.IsTuple a its.toArray := p
    have ea := tup_enum_ne ht he
    have ai := tup_iter_ne ht hit
    have hl := rv.length
    have hin : i < its.toArray.size := by
      rw [List.size_toArray, ← hl]
      exact (List.getElem?_eq_some_iff.mp hx).1
    refine wpAny_pyNext_enum_itemD (Draws.tuple (A := X.A.in1) (I.ok.hd hc) it a ai its.toArray) he ⟨hit, ht⟩ hin hne (by simp [hne, ea]) fun u h' tk hu ho st' hT hsz hk => ⟨.ref s.heap.objs.size, rfl, ?_⟩
    refine wpAny_letOwnedTupleGo_enum ho fun h'' he' sb => ?_
    have hel : e < s.heap.objs.size := Heap.lt_size he
    have hil : it < s.heap.objs.size := by
      obtain ⟨o, ho, _⟩ := hit
      exact Heap.lt_size ho
    have hT2 : h''.get? s.heap.objs.size = _ := (sb.2 s.heap.objs.size (Nat.ne_of_gt hel)).trans hT
    have hu' : its[i]? = some u := by simpa using hu
    obtain ⟨x', hx', ru⟩ := vals_at rv hu'
    have exx : x' = x := Option.some.inj (hx'.symm.trans hx)
    subst exx
    have new : ObjOk X.prog X.w (upd H s.heap.objs.size (.tup [.int (i : Int), x'])) h'' s.heap.objs.size (.tup [.int (i : Int), x']) :=
      ⟨by show 2 ≤ sizeLine; decide, [.int (i : Int) tk, u], .cons ⟨tk, rfl⟩ (.cons ru .nil), ⟨_, hT2, rfl, 0, rfl⟩⟩
    have kept : ∀ (b : Addr) (o : Obj), b ∉ [e, it] → s.heap.get? b = some o → h''.get? b = some o := fun b o hb q => by
      have n1 : b ≠ e := fun z => hb (by simp [z])
      have n2 : b ≠ it := fun z => hb (by simp [z])
      exact (sb.2 b n1).trans (hk b o n1 n2 q)
    have I1 := I.turnedNew (t' := tk + 1) kept hf (Nat.le_refl _) new
    refine ⟨.ref s.heap.objs.size, _, I1, rfl, ⟨s.heap.objs.size, x', rfl, I.hok.fresh (Nat.le_refl _), rfl, fun ys hy => ?_⟩, ⟨⟨u, ?_⟩, st'.1.at fun o q => (sb.2 it hne.symm).trans q, hne⟩, fun b hb => ?_⟩
    · obtain ⟨its2, rv2, p2, _⟩ := I.tuple hy
      have ht2 : s.heap.IsTuple a its2.toArray := p2
      have ei : its2.toArray = its.toArray := by
        obtain ⟨o, a1, a2, n, a3⟩ := ht
        obtain ⟨o', b1, b2, n', b3⟩ := ht2
        rw [a1] at b1
        cases b1
        rw [a3] at b3
        cases b3
        rfl
      have ei' : its2 = its := by
        have := congrArg Array.toList ei
        simpa using this
      subst ei'
      obtain ⟨y, hy1, ry⟩ := vals_at rv2 hu'
      rw [RelV.inj ru ry]
      exact hy1
    · have e1 : ((i : Int) + 1) = ((i + 1 : Nat) : Int) := rfl
      rw [← e1]
      exact he'
    · have hb' : b < s.heap.objs.size := by
        rcases List.mem_cons.mp hb with z | hb
        · rw [z]
          exact hel
        · rw [List.mem_singleton.mp hb]
          exact hil
      rw [upd_ne (Nat.ne_of_lt hb')]
      exact (hf b hb).1
  · subst hP hw hK
    obtain ⟨⟨old, he⟩, hit, hne⟩ := st
    obtain ⟨xs, hq, hx⟩ := hg
    obtain ⟨its, rv, p, hz⟩ := I.tuple hq
    have ht : s.heap.IsTuple a its.toArray := p
    have ai := tup_iter_ne ht hit
    obtain ⟨f0, f1, f2, f3, f4, f5⟩ := hf it (by simp)
    have sz : its.toArray.size = i := by rw [List.size_toArray, ← rv.length, hx]
    refine wpAny_pyNext_enum_endD (Draws.tuple (A := X.A.in1) (I.ok.hd hc) it a ai its.toArray) he ⟨by rw [sz]; exact hit, ht⟩ fun h' eb => ⟨rfl, I.turned (fun b o hb q => eb b o hb q) f0 f1 f3 f4 f5⟩
  · obtain ⟨⟨_, he⟩, _⟩ := st
    exact wpAny_pyIter_enum he h
def iEnumT (K : PySem.W.Frag) (ta : TA) : TI := fun σ H R => ta σ H fun vs H1 => ∃ a xs, vs = [.ref a] ∧ SqT K H1 a xs ∧ R (Ietup K a) H1
theorem pi_enumT {X : Cx} {e : Expr} {ta : TA} {p pos tpos : Pos} {elts : List Expr} {kk : Nat} (hg : Gl X "enumerate") (hm : X.mg "enumerate" = none) (ha : PA X [e] ta) (hs : starEach [e] X.env = [(false, eval e X.env)] := by rfl) : PI X (.Tuple elts kk tpos) (.Call (.Name "enumerate" p) [e] [] pos) (iEnumT X.K ta) := by
  refine ⟨fun pins s σ H R I h => Call_ (ld_blt I hg hm boot_enumerate (PyProof.Rows.callWith_type1 (thn (ha.run pos pins s σ H _ I h) fun us s1 ⟨vs, H1, I1, r1, a, xs, ex, hq, q⟩ => ?_) hs rfl) (by decide) (by decide)) rfl⟩
  subst ex
  rw [Vals.ref1 r1]
  obtain ⟨its, rv, p', hz⟩ := I1.tuple hq
  refine call_enumT p' fun h' he hit hsz hk => ?_
  refine wpAny_pyIter_enum he ?_
  have I2 := I1.kept (t' := s1.toks) hk
  refine ⟨s1.heap.objs.size + 1, [s1.heap.objs.size + 1, s1.heap.objs.size], _, Ietup X.K a, H1, rfl, I2, turn_enumT a (s1.heap.objs.size + 1) s1.heap.objs.size, ⟨⟨_, he⟩, hit, Nat.succ_ne_self _⟩, fun b hb => ?_, q⟩
  rcases List.mem_cons.mp hb with z | hb
  · subst z
    exact I1.fpOk (Nat.le_succ _) (I1.hok.fresh (Nat.le_succ _))
  · rw [List.mem_singleton.mp hb]
    exact I1.fpOk (Nat.le_refl _) (I1.hok.fresh (Nat.le_refl _))
end Rw
namespace Rw
open PySem PySem.Spec PyProof.Rows L2
/-! ### walks over enumerate(tuple); instances made of starred arguments -/
theorem for_enumT {K : PySem.W.Frag} {a : Addr} {xs : List V} {g : TG} {tb : TS} {D : Ends} {σ : L2.St} {H : Hp} (Pv : Nat → L2.St → Hp → Prop) (h0 : Pv 0 σ H) (hl : ∀ i σ H, i ≤ xs.length → Pv i σ H → SqT K H a xs)
    (hs : ∀ i x σ H T, xs[i]? = some x → Pv i σ H → H T = none → g (.ref T) σ (upd H T (.tup [.int (i : Int), x])) fun σ2 H2 => tb { nx := Pv (i + 1), rt := D.rt, bk := D.nx, ct := Pv (i + 1) } σ2 H2) (hd : ∀ σ H, Pv xs.length σ H → D.nx σ H) :
    ∃ W : Nat → Nat → L2.St → Hp → Prop, (∃ m, W 0 m σ H) ∧ ∀ i m σ H, W i m σ H → ((Ietup K a).stop i H ∧ D.nx σ H) ∨ ((Ietup K a).go i H ∧ ∃ N : L2.St → Hp → Prop, (∀ σ' H', N σ' H' → ∃ m', m' < m ∧ W (i + 1) m' σ' H') ∧
      ∀ x H', (Ietup K a).yld i H x H' → g x σ H' fun σ2 H2 => tb { nx := N, rt := D.rt, bk := D.nx, ct := N } σ2 H2) := by
  refine ⟨fun i m σ H => m = xs.length - i ∧ i ≤ xs.length ∧ Pv i σ H, ⟨xs.length, by simp, Nat.zero_le _, h0⟩, ?_⟩
  rintro i m σ H ⟨rfl, hi, p⟩
  have hS := hl i σ H hi p
  by_cases hlt : i < xs.length
  · refine .inr ⟨⟨xs, xs[i], hS, List.getElem?_eq_getElem hlt⟩, Pv (i + 1), fun σ' H' p' => ⟨xs.length - (i + 1), by omega, rfl, hlt, p'⟩, fun y H' yy => ?_⟩
    obtain ⟨T, x, rfl, hT, rfl, hx⟩ := yy
    exact hs i x σ H T (hx xs hS) p hT
  · have e : i = xs.length := by omega
    subst e
    exact .inl ⟨⟨xs, hS, rfl⟩, hd σ H p⟩
def tMakeS (K : PySem.W.Frag) (C : Addr) (sp : Sp) (E : XK) (te : TE) : TE := fun σ H Q => te σ H fun y H1 => ∃ a xs, y = V.ref a ∧ (SqT K H1 a xs ∨ SqL K H1 a xs) ∧ ∀ x dx, H1 x = none → H1 dx = none → dx ≠ x → sp (V.ref x :: xs) (upd (upd H1 dx (.own x)) x (.ins C dx [])) (fun v H2 => v = .non ∧ Q (.ref x) H2) E
/-- C(*e), C a class of the module -/
theorem pe_makeS {X : Cx} {CX : CXT} {k : Nat} {f C : Addr} {sp : Sp} {E : XK} {x : Str} {e : Expr} {te : TE} {p sp_ pos : Pos} (M : Mk X.K C f) (F : FnR X.prog X.w X.K X.mg X.base CX k f sp) (hr : Room (k + 1) X.A) (hg : Gl X x) (hm : X.mg x = some (.ref C)) (hx : Passes CX X E) (he : PE X e te)
    (hd : (x == ("__debug__" : Str)) = false := by rfl) (hst : starEach [e.Starred sp_] X.env = [(true, eval e X.env)] := by rfl) : PE X (.Call (.Name x p) [.Starred e sp_] [] pos) (tMakeS X.K C sp E te) :=
  ⟨fun pins s σ H Q I h => wpAny_Call_Name_kw (ld_glob I hg hm (PySem.W.callWith_S I.ok.mod.kin M.kp (thn (he.run pins s σ H _ I h) fun v s1 ⟨y, H1, I1, ry, a, xs, ey, hxs, q⟩ => by
    subst ey
    obtain rfl : v = Value.ref a := ry
    exact StX.star_any I1 hxs fun us s2 I2 rv => ⟨Inv.kIn I2, StX.run_makeR M F hr hx I2 rv q⟩) hst) hd)⟩
/-- cls(*e), cls a local name that holds the class -/
theorem pe_makeSL {X : Cx} {CX : CXT} {k i : Nat} {f C : Addr} {sp : Sp} {E : XK} {x : Str} {e : Expr} {te : TE} {p sp_ pos : Pos} (M : Mk X.K C f) (F : FnR X.prog X.w X.K X.mg X.base CX k f sp) (hr : Room (k + 1) X.A) (hN : X.N[i]? = some x) (hv : Vis X.env.scope x) (hx : Passes CX X E) (he : PE X e te)
    (hd : (x == ("__debug__" : Str)) = false := by rfl) (hcd : (x == ("__classdict__" : Str)) = false := by rfl) (hst : starEach [e.Starred sp_] X.env = [(true, eval e X.env)] := by rfl) :
    PE X (.Call (.Name x p) [.Starred e sp_] [] pos) (fun σ H Q => σ[i]? = some (some (.ref C)) ∧ tMakeS X.K C sp E te σ H Q) := by
  refine ⟨fun pins s σ H Q I ⟨hs, h⟩ => wpAny_Call_Name_kw (thn ((pe_var hN hv hd hcd).run pins s σ H (fun v H1 => v = V.ref C ∧ H1 = H) I ⟨.ref C, hs, rfl, rfl⟩) fun u s1 ⟨v, H0, I1, r1, ev, eH⟩ => ?_)⟩
  subst ev eH
  obtain rfl : u = Value.ref C := r1
  exact PySem.W.callWith_S I1.ok.mod.kin M.kp (thn (he.run pins s1 σ _ _ I1 h) fun v s1 ⟨y, H1, I1, ry, a, xs, ey, hxs, q⟩ => by
    subst ey
    obtain rfl : v = Value.ref a := ry
    exact StX.star_any I1 hxs fun us s2 I2 rv => ⟨Inv.kIn I2, StX.run_makeR M F hr hx I2 rv q⟩) hst
theorem fnr_of {P : Program} {w : World} {K : PySem.W.Frag} {mg : Str → Option Value} {base : Heap} {CX : CXT} {k : Nat} {f : Addr} {fd : FuncData} {ps : List Str} {sp : Sp} (F : FnOk P w K mg base CX k f fd ps sp) (b : Binds K fd ps []) : FnR P w K mg base CX k f sp := fun A outer s H us vs Q E hr e0 r h => by
  have hl := F.len vs H Q E h
  have ul : us.length = ps.length := by rw [← r.length, hl]
  have z := b s us (PySem.W.Frag.In.keeps e0.mod.kin fun b o e => (e0.bs b o e).1) (by rw [List.append_nil]; exact ul)
  rw [List.append_nil] at z
  exact F.run A outer s H _ us vs Q E hr e0 z r h
end Rw
namespace Rw
open PySem PySem.Spec PyProof.Rows L2
/-! ### rules: heads, denied, needs, bars -/
abbrev Rl := W × W × W × W
def parts (r : Rl) : List W := [r.1, r.2.1, r.2.2.1, r.2.2.2]
def rd (r : Rl) : PyData := .tuple ((parts r).map wd)
structure IsR (r : Rl) : Prop where
  h : IsW r.1
  d : IsW r.2.1
  n : IsW r.2.2.1
  b : IsW r.2.2.2
theorem IsR.all {r : Rl} (h : IsR r) : ∀ t ∈ parts r, IsW t := fun t ht => by
  unfold parts at ht
  simp only [List.mem_cons, List.mem_nil_iff, or_false] at ht
  rcases ht with e | e | e | e <;> subst e
  · exact h.h
  · exact h.d
  · exact h.n
  · exact h.b
theorem wds_inj : ∀ {a b : List W}, a.map wd = b.map wd → a = b
  | [], [], _ => rfl
  | [], _ :: _, h => by simp at h
  | _ :: _, [], h => by simp at h
  | x :: a, y :: b, h => by
    simp only [List.map_cons, List.cons.injEq] at h
    rw [wd_inj h.1, wds_inj h.2]
theorem rd_inj {p q : Rl} (h : rd p = rd q) : p = q := by
  unfold rd at h
  injection h with h
  have z := wds_inj h
  unfold parts at z
  simp only [List.cons.injEq, and_true] at z
  obtain ⟨h1, h2, h3, h4⟩ := z
  exact Prod.ext h1 (Prod.ext h2 (Prod.ext h3 h4))
theorem ok_rd (r : Rl) : okD (rd r) = true := by
  unfold rd
  rw [okD]
  exact okDs_wd _
theorem depthAll_wd : ∀ L : List W, PyData.depthAll (L.map wd) ≤ 1
  | [] => by simp [PyData.depthAll]
  | x :: L => by
    have := depthAll_wd L
    rw [List.map_cons, PyData.depthAll, depth_wd]
    omega
theorem depth_rd (r : Rl) : (rd r).depth ≤ 2 := by
  have := depthAll_wd (parts r)
  unfold rd
  rw [PyData.depth]
  omega
theorem good_rd (r : Rl) : Good (rd r) := ⟨ok_rd r, Nat.le_trans (depth_rd r) (by decide), ⟨_, rfl⟩⟩
theorem lay_wds : ∀ {L : List W}, (∀ t ∈ L, IsW t) → PyData.canLayAll0 (L.map wd) = true
  | [], _ => by simp [PyData.canLayAll0]
  | t :: L, h => by
    rw [List.map_cons, PyData.canLayAll0, lay_wds fun y hy => h y (List.mem_cons_of_mem _ hy), lay_wd (h t List.mem_cons_self).names]
    rfl
theorem lay_rd {r : Rl} (h : IsR r) : (rd r).canLay0 = true := by
  unfold rd
  rw [PyData.canLay0]
  exact lay_wds h.all
theorem shaped_rd {r : Rl} (h : IsR r) : SeqAt.shaped (rd r) = true := shaped_of (lay_rd h) (Nat.le_trans (depth_rd r) (by decide))
theorem alike_wds : ∀ a b : List W, PySem.W.alikeAll (a.map wd) (b.map wd) = true
  | [], _ => by simp [PySem.W.alikeAll]
  | _ :: _, [] => by simp [PySem.W.alikeAll]
  | x :: a, y :: b => by
    rw [List.map_cons, List.map_cons, PySem.W.alikeAll, alike_wds a b, alike_wd]
    rfl
theorem alike_rd (p q : Rl) : PySem.W.alike (rd p) (rd q) = true := by
  unfold rd
  rw [PySem.W.alike]
  exact alike_wds _ _
theorem eqv_wds : ∀ a b : List W, PyData.eqvAll (a.map wd) (b.map wd) = decide (a = b)
  | [], [] => by simp [PyData.eqvAll]
  | [], _ :: _ => by simp [PyData.eqvAll]
  | _ :: _, [] => by simp [PyData.eqvAll]
  | x :: a, y :: b => by
    rw [List.map_cons, List.map_cons, PyData.eqvAll, eqv_wds a b, eqv_wd]
    by_cases h : x = y
    · subst h
      by_cases h2 : a = b <;> simp [h2]
    · simp [h]
theorem eqv_rd (p q : Rl) : PyData.eqv (rd p) (rd q) = decide (p = q) := by
  have e : (p = q) ↔ (parts p = parts q) := ⟨fun h => by rw [h], fun h => rd_inj (by unfold rd; rw [h])⟩
  unfold rd
  rw [PyData.eqv, eqv_wds]
  by_cases h : parts p = parts q
  · rw [decide_eq_true h, decide_eq_true (e.mpr h)]
  · rw [decide_eq_false h, decide_eq_false fun z => h (e.mp z)]
theorem rules_one {R R' : List Rl} (r1 : Rising (R.map rd)) (r2 : Rising (R'.map rd)) (n1 : R.Nodup) (n2 : R'.Nodup) (h : ∀ p, p ∈ R ↔ p ∈ R') : R = R' :=
  rising_one alike_rd (fun p q e => by rw [eqv_rd] at e; exact of_decide_eq_true e) r1 r2 n1 n2 h
theorem okDs_rd (R : List Rl) : okDs (R.map rd) = true := okDs_all fun d hd => by
  obtain ⟨p, _, rfl⟩ := List.mem_map.mp hd
  exact ok_rd p
theorem all_rd : ∀ {ds : List PyData}, (∀ d ∈ ds, ∃ p, d = rd p) → ∃ R : List Rl, ds = R.map rd
  | [], _ => ⟨[], rfl⟩
  | d :: ds, h => by
    obtain ⟨p, rfl⟩ := h d List.mem_cons_self
    obtain ⟨R, rfl⟩ := all_rd fun e he => h e (List.mem_cons_of_mem _ he)
    exact ⟨p :: R, rfl⟩
theorem rd_mem {R : List Rl} {p : Rl} : rd p ∈ R.map rd ↔ p ∈ R :=
  ⟨fun h => by obtain ⟨q, hq, e⟩ := List.mem_map.mp h; rw [← rd_inj e]; exact hq, fun h => List.mem_map.mpr ⟨p, h, rfl⟩⟩
theorem Stay.rd {K : PySem.W.Frag} {H H' : Hp} {x : V} {r : Rl} (e : Stay H H') (h : Dp K H x (Rw.rd r)) : Dp K H' x (Rw.rd r) := e.dp _ _ (ok_rd r) h
theorem of_rd {K : PySem.W.Frag} {H : Hp} {x : V} {r : Rl} (h : Dp K H x (rd r)) : ∃ a v1 v2 v3 v4, x = .ref a ∧ SqT K H a [v1, v2, v3, v4] ∧ Dp K H v1 (wd r.1) ∧ Dp K H v2 (wd r.2.1) ∧ Dp K H v3 (wd r.2.2.1) ∧ Dp K H v4 (wd r.2.2.2) := by
  unfold rd parts at h
  cases h with
  | tup h1 h2 =>
    cases h2 with
    | cons a1 t =>
      cases t with
      | cons a2 t =>
        cases t with
        | cons a3 t =>
          cases t with
          | cons a4 t =>
            cases t
            exact ⟨_, _, _, _, _, rfl, h1, a1, a2, a3, a4⟩
theorem to_rd {K : PySem.W.Frag} {H : Hp} {a : Addr} {v1 v2 v3 v4 : V} {r : Rl} (h : SqT K H a [v1, v2, v3, v4]) (h1 : Dp K H v1 (wd r.1)) (h2 : Dp K H v2 (wd r.2.1)) (h3 : Dp K H v3 (wd r.2.2.1)) (h4 : Dp K H v4 (wd r.2.2.2)) : Dp K H (.ref a) (rd r) :=
  .tup h (.cons h1 (.cons h2 (.cons h3 (.cons h4 .nil))))
/-- a sorted list without repetition -/
structure Srt (S L : List Rl) : Prop where
  nd : S.Nodup
  ris : Rising (S.map rd)
  mem : ∀ p, p ∈ S ↔ p ∈ L
theorem Srt.one {S S' L L' : List Rl} (a : Srt S L) (b : Srt S' L') (h : ∀ p, p ∈ L ↔ p ∈ L') : S = S' := rules_one a.ris b.ris a.nd b.nd fun p => (a.mem p).trans ((h p).trans (b.mem p).symm)
/-! ### sorted(set(xs)) of rules -/
section
variable {X : Cx}
/-- set(xs), xs a list or a tuple of rules -/
def rSetR (K : PySem.W.Frag) (w : World) : List V → Hp → VK → Prop := fun vs H Q => ∃ (l : Addr) (xs : List V) (L : List Rl), vs = [.ref l] ∧ (SqL K H l xs ∨ SqT K H l xs) ∧ DpAll K H xs (L.map rd) ∧ L.length < 76 ∧
  ∀ a M, H a = none → (∀ p ∈ M, Good p.2 ∧ Dp K H (.ref p.1) p.2) → (∀ p ∈ M, ∃ r ∈ L, p.2 = rd r) → (∀ r ∈ L, rd r ∈ M.map (·.2)) → Q (.ref a) (upd H a (TSetO w a M))
theorem cr_setR (hc : X.calm = true) (hu : X.A.units + 64 < cLine) : CallR X (.type "set") (rSetR X.K X.w) := fun pins s σ H vs us Q I r ⟨l, xs, L, e, hl, hd, few, q⟩ =>
  cr_setT hc hu pins s σ H vs us Q I r ⟨l, xs, L.map rd, e, hl, hd, (fun d hd => by obtain ⟨p, _, rfl⟩ := List.mem_map.mp hd; exact good_rd p), by rw [List.length_map]; exact few, fun a M ha hM hall => by
    have isP : ∀ e ∈ M, ∃ p ∈ L, e.2 = rd p := fun e he => by
      obtain ⟨p, hp, ep⟩ := List.mem_map.mp (hM e he).1
      exact ⟨p, hp, ep.symm⟩
    refine q a M ha (fun e he => ?_) isP fun r hr => hall _ (List.mem_map.mpr ⟨r, hr, rfl⟩)
    obtain ⟨p, _, ep⟩ := isP e he
    exact ⟨by rw [ep]; exact good_rd p, (hM e he).2⟩⟩
/-- sorted(a set of rules) -/
def rSortR (K : PySem.W.Frag) (w : World) : List V → Hp → VK → Prop := fun vs H Q => ∃ (a : Addr) (M : List (Addr × PyData)) (L : List Rl), vs = [.ref a] ∧ H a = some (TSetO w a M) ∧ (∀ p ∈ M, Good p.2 ∧ Dp K H (.ref p.1) p.2) ∧ (∀ p ∈ M, ∃ r ∈ L, p.2 = rd r) ∧ (∀ r ∈ L, rd r ∈ M.map (·.2)) ∧
  ∀ (ys : List V) (S : List Rl) (p : Addr), Srt S L → S.length < 76 → DpAll K H ys (S.map rd) → H p = none → Q (.ref p) (upd H p (.lst ys))
theorem cr_sortR (hc : X.calm = true) (hu : X.A.units + 64 < cLine) : CallR X (.builtin "sorted") (rSortR X.K X.w) := fun pins s σ H vs us Q I r ⟨a, M, L, e, ha, hM, isP, hall, q⟩ =>
  cr_sortT hc hu pins s σ H vs us Q I r ⟨a, M, e, ha, hM, (fun d hd d' hd' => by
    obtain ⟨e, he, rfl⟩ := List.mem_map.mp hd
    obtain ⟨e', he', rfl⟩ := List.mem_map.mp hd'
    obtain ⟨p, _, ep⟩ := isP e he
    obtain ⟨p', _, ep'⟩ := isP e' he'
    rw [ep, ep']
    exact alike_rd p p'), fun ys ds p perm nd lt ris hys hp' => by
    obtain ⟨S, rfl⟩ := all_rd (ds := ds) fun d hd => by
      obtain ⟨e, he, rfl⟩ := List.mem_map.mp (perm.mem_iff.mp hd)
      obtain ⟨p, _, ep⟩ := isP e he
      exact ⟨p, ep⟩
    rw [List.length_map] at lt
    refine q ys S p ⟨nodup_of_map nd, ris, fun p => ?_⟩ lt hys hp'
    rw [← rd_mem, perm.mem_iff]
    constructor
    · intro hm
      obtain ⟨e, he, ee⟩ := List.mem_map.mp hm
      obtain ⟨p', hp', ep⟩ := isP e he
      rw [← rd_inj (ep.symm.trans ee)]
      exact hp'
    · intro hm
      exact hall _ hm⟩
end
end Rw
namespace Rw
open PySem PySem.Spec PyProof.Rows L2
/-! ### == and != of instances by their class's own __eq__ -/
section
variable {X : Cx}
def rEqP (C : Addr) (sp : Sp) (E : XK) : R2 := fun x y H Q => ∃ a dx fs b dy gs, x = .ref a ∧ y = .ref b ∧ H a = some (.ins C dx fs) ∧ H b = some (.ins C dy gs) ∧ sp [x, y] H Q E
theorem op_eqP {CX : CXT} {C g : Addr} {n : Nat} {sp : Sp} {E : XK} (hs : PySem.W.findIn X.K (.ref C) "__eq__" = some (some (.ref g))) (hf : PySem.W.isFn X.K (.ref g) = true) (F : FnR X.prog X.w X.K X.mg X.base CX n g sp) (hr : Room n X.A) (hx : Passes CX X E) : OpR X (compareOp .Eq) (rEqP C sp E) := by
  intro pins s σ H x y v u Q I rx ry h
  obtain ⟨a, dx, fs, b, dy, gs, rfl, rfl, ha, hb, q⟩ := h
  obtain rfl : v = Value.ref a := rx
  obtain rfl : u = Value.ref b := ry
  obtain ⟨mA, J, _⟩ := ins_get I.hok ha
  obtain ⟨mB, J', _⟩ := ins_get I.hok hb
  obtain ⟨od, J, _⟩ := J.look
  obtain ⟨od', J', _⟩ := J'.look
  obtain ⟨m, hF⟩ := I.fr
  show wpAny _ _ (richCompare .Eq (.ref a) (.ref b)) _ _ _
  refine PySem.W.cmp_K hr.units0 hF I.ok.mod.kin J J'.type (by simp [PySem.W.notFirst]) hs hf ?_
  refine wpAny_mono (wpAny_call (run_fnR F hr hx I (vs := [.ref a, .ref b]) (.cons rfl (.cons rfl .nil)) q)) (fun r s' h => ?_) fun e s' h => h
  obtain ⟨z, H', I', r, q⟩ := h
  exact SlX.cmpback r ⟨z, H', I', r, q⟩
/-- what the class is, for != -/
structure NeC (K : PySem.W.Frag) (C g : Addr) : Prop where
  cls : ∃ nm q N bs hd sn sub ab col dd k0 k1 k2 k3 k5 nid oN es ep, K.lookup C = some (excClassObj nm q C N bs [.type "object"] hd sn sub ab col dd k0 k1 k2 k3 k5 nid) ∧ K.lookup N = some oN ∧ oN.data = .dict es ep ∧ StrKeys es ∧ nsFind es "__eq__" = some (.ref g) ∧ nsFind es "__ne__" = none
  fn : ∃ og, K.lookup g = some og ∧ og.cls = .type "function"
def rNeP (C : Addr) (sp : Sp) (E : XK) : R2 := fun x y H Q => ∃ a dx fs b dy gs, x = .ref a ∧ y = .ref b ∧ H a = some (.ins C dx fs) ∧ H b = some (.ins C dy gs) ∧ sp [x, y] H (fun v H' => ∃ t, v = .bl t ∧ Q (.bl (!t)) H') E
theorem op_neP {CX : CXT} {C g : Addr} {n : Nat} {sp : Sp} {E : XK} (N : NeC X.K C g) (F : FnR X.prog X.w X.K X.mg X.base CX n g sp) (hr : Room (n + 1) X.A) (hx : Passes CX X E) : OpR X (compareOp .NotEq) (rNeP C sp E) := by
  intro pins s σ H x y v u Q I rx ry h
  obtain ⟨a, dx, fs, b, dy, gs, rfl, rfl, ha, hb, q⟩ := h
  obtain rfl : v = Value.ref a := rx
  obtain rfl : u = Value.ref b := ry
  obtain ⟨mA, J, _⟩ := ins_get I.hok ha
  obtain ⟨mB, J', _⟩ := ins_get I.hok hb
  obtain ⟨od, J, _⟩ := J.look
  obtain ⟨od', J', _⟩ := J'.look
  obtain ⟨nm, q1, NN, bs, hd, sn, sub, ab, col, dd, k0, k1, k2, k3, k5, nid, oN, es, ep, c1, c2, c3, c4, c5, c6⟩ := N.cls
  obtain ⟨og, g1, g2⟩ := N.fn
  have kin := I.kIn
  have own : s.heap.OwnEqNoNe a C g "object" [.type "object"] := ⟨_, og, nm, q1, NN, bs, hd, sn, sub, ab, col, dd, k0, k1, k2, k3, k5, nid, _, _, J.at_, J.cls, kin _ _ c1, ⟨oN, es, ep, kin _ _ c2, c3, c4, fun _ => rfl⟩, c5, kin _ _ g1, g2, PySem.F.cmp_object.mro, PySem.F.cmp_object.eq.lookup, c6⟩
  have un := hr.un
  refine compareOp_ne_ownEq PySem.F.cmp_object own J'.at_ J'.cls (by omega) ?_
  have e0 := I.env0
  have e1 : Env0 X.prog X.w X.K X.mg X.base X.A.in1 X.stack s H := ⟨e0.frames, e0.mod, e0.bs, e0.bsz, e0.funs, e0.frf, e0.hok, e0.bare⟩
  refine wpAny_call (codeAny_mono (F X.A.in1 X.stack s H [.ref a, .ref b] [.ref a, .ref b] _ E hr.in1 e1 (.cons rfl (.cons rfl .nil)) q) fun r s' h => ?_)
  cases r with
  | error e => exact hx pins σ H s e s' I h
  | ok f =>
    cases f with
    | ret v =>
      obtain ⟨z, H', I', r, t, rfl, q⟩ := I.after h
      obtain rfl : v = Value.bool t := r
      exact ⟨t, rfl, .bl (!t), H', I', rfl, q⟩
    | _ => exact h.elim
end
end Rw
namespace Rw
open PySem PySem.Spec PyProof.Rows L2
/-! ### an error that was caught and kept -/
/-- an error of the class cls at a, whose own dict is d -/
def ExH (cls : Value) (d : Option Addr) (a : Addr) : HO := .ext fun h => ∃ oe vs, h.get? a = some oe ∧ Zc cls d oe ∧ oe.data = .fields vs
def wKeep (K : PySem.W.Frag) (c : Value) (i j : Nat) (D : Ends) : WX := fun cls d σ H => PySem.W.exmOne K cls c = some true ∧ ∀ a, H a = none → D.nx (((σ.set i (some (.ref a))).set j (some (.ref a))).set i none) (upd H a (ExH cls d a))
/-- an error's object is tracked from now on -/
theorem keep_inv {X : Cx} {pins : List (Addr × Obj)} {σ : L2.St} {H : Hp} {s : Shared} {a : Addr} {oe : Obj} {cls : Value} {d : Option Addr} {vs : Array Value} (I : Inv X pins σ H s) (he : s.heap.get? a = some oe) (hz : Zc cls d oe) (hd : oe.data = .fields vs) (hH : H a = none) (nL : a ≠ X.env.locals)
    (h0 : X.s_0.heap.get? a = none) (hp : ∀ p ∈ X.pn ++ pins, p.1 ≠ a) : Inv X pins σ (upd H a (ExH cls d a)) s := by
  have cell : ∀ x c, X.env.cells.lookup x = some c → c ≠ a := fun x c e z => by
    obtain ⟨v, o, h1, h2⟩ := I.cell x c e
    rw [z, he] at h1
    cases h1
    rw [hd] at h2
    cases h2
  refine ⟨I.ok, I.os, I.bare, ?_, I.loc, I.cell, ?_, fun x c e => ?_, fun p hpm => ?_, fun b o hb => ?_, I.len⟩
  · have u := I.base
    refine ⟨u.keep, u.slot, fun b o e1 e2 e3 => ?_, u.there, fun b xs e => ?_, fun b o w' e => ?_, fun b ps e => ?_⟩
    · have nb : b ≠ a := fun z => by
        rw [z, h0] at e1
        cases e1
      rw [upd_ne nb]
      exact u.free b o e1 e2 e3
    · have z := u.tups b xs e
      rw [upd_ne (ne_of_none z hH)]
      exact z
    · have z := u.frzs b o w' e
      rw [upd_ne (ne_of_none z hH)]
      exact z
    · obtain ⟨more, z⟩ := u.tbls b ps e
      refine ⟨more, ?_⟩
      rw [upd_ne (ne_of_none z hH)]
      exact z
  · rw [upd_ne nL.symm]
    exact I.free
  · rw [upd_ne (cell x c e)]
    exact I.freeC x c e
  · obtain ⟨p1, p2, p3⟩ := I.pin p hpm
    refine ⟨p1, ?_, p3⟩
    rw [upd_ne (hp p hpm)]
    exact p2
  · have new : ObjOk X.prog X.w (upd H a (ExH cls d a)) s.heap a (ExH cls d a) := ⟨⟨oe, vs, he, hz, hd⟩, ⟨oe, he⟩, fun h1 h2 ⟨oe', vs', e1, e2⟩ kk => ⟨oe', vs', kk oe' e1, e2⟩⟩
    by_cases e : b = a
    · subst e
      rw [upd_same] at hb
      cases hb
      exact new
    · rw [upd_ne e] at hb
      have same : ∀ (b' : Addr) (u : HO), H b' = some u → (upd H a (ExH cls d a)) b' = some u := fun b' u h => by
        rw [upd_ne (ne_of_none h hH)]
        exact h
      exact (I.hok b o hb).stay (fun _ _ _ e => e) (fun b' h => same b' _ h) fun b' xs h => same b' _ h
/-- try: body except x as n: y = n (every error of the body is an x) -/
theorem ps_try_keep {X : Cx} {x n y : Str} {c : Value} {i j : Nat} {body : List Stmt} {np pos pos' p1 p2 p3 : Pos} {tb : WX → TS} (hs : X.stack = X.env :: X.outer) (hf : X.env.frame = some X.env.locals) (hN : X.N.Nodup) (hi : X.N[i]? = some n) (hln : X.env.kindOf n = some .local) (hc : Names X x c)
    (hj : X.N[j]? = some y) (hyl : X.env.scope.names.lookup y = some .local) (hnl : X.env.scope.names.lookup n = some .local) (hex : X.ex = []) (hdb : (n == ("__debug__" : Str)) = false) (hcd : (n == ("__classdict__" : Str)) = false) (hsw : swapsWith (.Name n p2) (some (.Name y p1)) p3.line X.env = pure false)
    (hb : ∀ (W : WX) (pn : List (Addr × Obj)) (xe : Value → Shared → Prop), Takes (X.tr pn xe) W → PassesOwn (model X.prog X.w) X.A X.env xe → PSs (X.tr pn xe) body (tb W)) :
    PS X (.Try body [.ExceptHandler (some (.Name x np)) (some n) [.Assign [.Name y p1] (.Name n p2) p3] pos'] [] [] pos) (fun D σ H => tb (wKeep X.K c i j D) D σ H) := by
  refine ⟨fun pins s σ H D I h => ?_⟩
  have ok := I.ok
  have hfr : X.A.frames = some (X.env :: X.outer) := by rw [ok.frames, hs]
  have hloc : L2.Loc X.env.scope n := Or.inl hln
  refine wpAny_Try_except (wpAny_mono ((hb (wKeep X.K c i j D) (X.pn ++ pins) (fun e s₁ => wpAny (model X.prog X.w) X.A (noteFrame e X.env) (fun _ s₂ => wpAny (model X.prog X.w) X.A (setFlight e none) (fun _ s₃ => wpAny (model X.prog X.w) X.A (handleBy e X.env [.ExceptHandler (some (.Name x np)) (some n) [.Assign [.Name y p1] (.Name n p2) p3] pos']) (SP X pins D) X.xe s₃) X.xe s₂) X.xe s₁) ?_ PassesOwn.looking).run [] s σ H D (I.toTry _) h) ?_ fun e s1 he => he)
  · rintro u s' ⟨a, B, sI, pins', σ', H', cls, d, rfl, J', nb, up, sky, na, os, ag, hb1, hyes⟩
    have J := J'.ofTry ok
    have sky' : Sky B (X.env :: X.outer) a (Zc cls d) X.env.locals s'.heap := by
      rw [← hs]
      exact sky
    refine Sky.land Zc.steady hfr hf sky' fun h3 fl3 up3 => ?_
    have J3 := J.landed (s' := { heap := h3, gens := s'.gens, drawn := s'.drawn, toks := s'.toks, os := s'.os }) nb fl3.left (up.trans up3) os ag
    obtain ⟨oe3, vs3, he3, hz3, hd3⟩ := fl3.there
    have notFr : ∀ {h : Heap} {o : Obj} {vs : Array Value}, h.FunFrames B (X.env :: X.outer) → h.get? a = some o → o.data = .fields vs → a ∉ frs (X.env :: X.outer) := fun ff e dd hm => by
      obtain ⟨_, o', e', hnf⟩ := ff.mem hm
      rw [e] at e'
      cases e'
      exact hnf _ dd
    have nfr := notFr fl3.2.2.1 he3 hd3
    have nL : a ≠ X.env.locals := fun z => nfr (List.mem_filterMap.mpr ⟨X.env, List.mem_cons_self, by rw [hf, z]⟩)
    have nF : a ∉ X.fs := fun hm => by
      obtain ⟨e, he, q⟩ := List.mem_filterMap.mp hm
      exact nfr (List.mem_filterMap.mpr ⟨e, List.mem_cons_of_mem _ he, q⟩)
    have Ba : B.get? a = none := fl3.2.1
    have nfr' : a ∉ frs X.stack := by
      rw [hs]
      exact nfr
    have sIa : sI.heap.get? a = none := by
      cases e : sI.heap.get? a with
      | none => rfl
      | some o =>
        rw [nb a o e nfr'] at Ba
        cases Ba
    have h0 : X.s_0.heap.get? a = none := by
      cases e : X.s_0.heap.get? a with
      | none => rfl
      | some o =>
        obtain ⟨o', e'⟩ := J.base.there a o e (by rw [hex]; exact List.not_mem_nil)
        rw [sIa] at e'
        cases e'
    have hp : ∀ p ∈ X.pn ++ pins, p.1 ≠ a := fun p hpm z => by
      have := (J.pin p hpm).1
      rw [z, sIa] at this
      cases this
    have S3 := J3.suite he3 hd3 na nL nF
    have LT : ∀ (A : Around) (Q : Value → Shared → Prop) (E : Value → Shared → Prop) (s : Shared), (∀ b o, h3.get? b = some o → s.heap.get? b = some o) → Q cls s → wpAny (model X.prog X.w) A (typeOf (.ref a)) Q E s := fun A Q E s k q => wpAny_typeOf_ref (k a oe3 he3) (by rw [hz3.1]; exact q)
    refine wpAny_handleBy_cons (codeAny_handlers_test ?_) (by intro z; cases z)
    have LM := PySem.W.exm_one J3.kIn LT hb1
    have test : ∀ {Q : Value → Shared → Prop} {E : Value → Shared → Prop}, Q c { heap := h3, gens := s'.gens, drawn := s'.drawn, toks := s'.toks, os := s'.os } → wpAny (model X.prog X.w) (X.A.mark (some (.ref a))) (eval (.Name x np) X.env) Q E { heap := h3, gens := s'.gens, drawn := s'.drawn, toks := s'.toks, os := s'.os } := fun {Q E} q => by
      obtain ⟨hg, hdbg, hm | ⟨hm, hv, hnn⟩⟩ := hc
      · exact ld_glob (X := X.suite a ((a, oe3) :: (X.pn ++ pins))) S3 hg hm q hdbg
      · exact ld_blt (X := X.suite a ((a, oe3) :: (X.pn ++ pins))) S3 hg hm hv q hnn hdbg
    refine test (PySem.W.Looks.here LM ?_)
    refine codeAny_handlers_suite_as (HandSPX.lands_againZ fl3 fun h4 fl4 up4 => ?_)
    have J4 := J.landed (s' := { heap := h4, gens := s'.gens, drawn := s'.drawn, toks := s'.toks, os := s'.os }) nb fl4.left ((up.trans up3).trans up4) os ag
    obtain ⟨oe4, vs4, he4, hz4, hd4⟩ := fl4.there
    have S4 := J4.suite he4 hd4 na nL nF
    refine store_ok (X := X.suite a ((a, oe4) :: (X.pn ++ pins))) (v := .ref a) S4 hN hi hloc rfl (fun s5 S5 => ?_) (.inr hnl)
    have suite : PSs (X.suite a ((a, oe4) :: (X.pn ++ pins))) [.Assign [.Name y p1] (.Name n p2) p3] _ := pss_one (ps_asg (pe_var (i := i) hi (.inl hnl) hdb hcd) (pg_name (i := j) hN hj (.inl hyl) (.inr hyl)) hsw)
    have il : i < σ'.length := by
      rw [J.len]
      exact (List.getElem?_eq_some_iff.mp hi).1
    refine wpAny_mono (suite.run [] s5 (σ'.set i (some (.ref a))) H' { nx := fun σ6 H6 => σ6 = (σ'.set i (some (.ref a))).set j (some (.ref a)) ∧ H6 = H', rt := fun _ _ => False } S5 ⟨.ref a, by rw [List.getElem?_set_self il], rfl, rfl⟩) (fun f s6 hsp => ?_) fun e s' z => z.elim
    cases f with
    | next =>
      obtain ⟨σ6, H6, S6, rfl, rfl⟩ := hsp
      have he6 := (S6.pin (a, oe4) (List.mem_append_left _ List.mem_cons_self)).1
      have K6 := keep_inv (Inv.unsuite S6 ok) he6 hz4 hd4 na nL h0 hp
      exact gone_ok K6 hN hi hln fun s7 J7 => ⟨_, _, J7, hyes a na⟩
    | brk =>
      obtain ⟨_, _, _, z⟩ := hsp
      exact z.elim
    | cont =>
      obtain ⟨_, _, _, z⟩ := hsp
      exact z.elim
    | ret v =>
      obtain ⟨_, _, _, _, _, z⟩ := hsp
      exact z.elim
  · intro f s1 hsp
    cases f with
    | next =>
      obtain ⟨σ', H', J', q⟩ := hsp
      exact wpAny_execs_nil ⟨σ', H', J'.ofTry ok, q⟩
    | brk =>
      obtain ⟨σ', H', J', q⟩ := hsp
      exact ⟨σ', H', J'.ofTry ok, q⟩
    | cont =>
      obtain ⟨σ', H', J', q⟩ := hsp
      exact ⟨σ', H', J'.ofTry ok, q⟩
    | ret v =>
      obtain ⟨v', σ', H', J', r, q⟩ := hsp
      exact ⟨v', σ', H', J'.ofTry ok, r, q⟩
end Rw
namespace Rw
open PySem PySem.Spec PyProof.Rows L2
/-! ### what is asked of a kept error -/
open PySem.W in
theorem kin_classD {prog : Program} {w : World} {A : Around} {E : Value → Shared → Prop} {s : Shared} {K : PySem.W.Frag} {x D : Addr} {ox od : Obj} {Q : Option Value → Shared → Prop} (hga : PySem.W.findIn K (.ref D) "__getattribute__" = some (some (.builtin "BaseException.__getattribute__"))) (hgt : PySem.W.findIn K (.ref D) "__getattr__" = some none)
    (hsub : PySem.W.subIn K (.ref D) (.type "BaseException") = some true) (hdct : PySem.W.hasDictIn K D = true) (ha : PySem.W.findIn K (.ref D) "__class__" = some (some (.builtin "object.__class__"))) (hn : PySem.W.specialIn K (.builtin "object.__class__") "__get__" = some (some (.builtin "getset_descriptor.__get__"))) (htk : PySem.W.takesIn K (.builtin "object.__class__") = some true) (hm : PySem.W.mroIn K D (.type "object") = some true)
    (X : K.In s.heap) (I : PySem.W.InstAt s.heap x ox D (some od)) (h : Q (some (.ref D)) { heap := s.heap, gens := s.gens, drawn := s.drawn, toks := s.toks + 1, os := s.os }) : wpAny (model prog w) A (getAttr? (.ref x) "__class__") Q E s := by
  have hf := PySem.W.findObj_data (K := K) (C := D) (od := od) (by obtain ⟨cd, hc, _⟩ := PySem.W.any_some hdct; rw [hc]; rfl) ha hn htk
  obtain ⟨hp, g, d, t, os⟩ := s
  have L0 := PySem.W.InstAt.type (M := model prog w) I
  have L1 := PySem.W.looks_findIn (M := model prog w) X hga
  have L2 := PySem.W.looks_findIn (M := model prog w) X hgt
  have L3 := PySem.W.looks_find (M := model prog w) X I hf
  have sub : PySem.W.Looks (model prog w) hp (typeOf (.ref x) >>= fun t => isSubtype t (.type "BaseException")) true := PySem.W.Looks.andThen L0 (PySem.W.looks_subIn X hsub)
  unfold getAttr?
  refine wpAny_bind (wpAny_mkText (wpAny_bind (wpAny_attempt (wpAny_holding ?_))))
  refine wpAny_bind (PySem.W.Looks.at L0 (wpAny_bind (PySem.W.Looks.at L1 ?_)))
  have c1 : (onTheHeap (Value.ref D) && (Value.builtin "BaseException.__getattribute__" == Value.builtin "object.__getattribute__")) = false := by
    rw [show (Value.builtin "BaseException.__getattribute__" == Value.builtin "object.__getattribute__") = false by decide]
    rfl
  show wpAny _ _ (if (onTheHeap (Value.ref D) && (Value.builtin "BaseException.__getattribute__" == Value.builtin "object.__getattribute__")) = true then _ else _) _ _ _
  rw [c1, if_neg Bool.false_ne_true]
  unfold getAttrByItsOwn
  refine wpAny_bind ?_
  unfold hookBefore
  rw [if_pos (show onTheHeap (Value.ref D) = true from rfl)]
  refine PySem.W.Looks.at L2 (wpAny_bind (wpAny_attempt (wpAny_holding ?_)))
  unfold callGetattribute
  rw [if_neg (show ¬ ((false && onTheHeap (Value.builtin "BaseException.__getattribute__")) = true) from Bool.false_ne_true)]
  unfold boundAndCalled
  rw [F.excAttr_ValueError.ga.bind (Value.ref x)]
  refine wpAny_bind (wpAny_pure ?_)
  show wpAny _ _ (call (Value.builtin "BaseException.__getattribute__") [.ref x, .str "__class__" t]) _ _ _
  refine wpAny_call ?_
  refine codeAny_call_builtin (id := "BaseException.__getattribute__") (b := Builtin.«object.__getattribute__») F.excAttr_ValueError.ga.plain F.entry_bexc_ga ?_
  refine PySem.W.check_slot (i := "BaseException.__getattribute__") (owner := "BaseException") (n := "__getattribute__") (self := .ref x) (rest := [.str "__class__" t]) (kw := []) PySem.W.kin_classE._proof_2 PySem.W.kin_classE._proof_3 sub (F.args_bexc_ga (.ref x) (.str "__class__" t)) ?_
  unfold Builtin.«object.__getattribute__»
  refine wpAny_bind ?_
  refine wpAny_of_eq (a := (Value.ref x, [Value.str "__class__" t])) rfl ?_
  refine wpAny_bind (wpAny_pure (wpAny_bind (PySem.W.Looks.at L0 (wpAny_bind (PySem.W.Looks.at L3 ?_)))))
  unfold Builtin.ObjectAttr.bindTo
  refine wpAny_bind (wpAny_holding (wpAny_call (PySem.W.class_get X I hm (wpAny_pure ?_))))
  show wpAny (model prog w) A (handedOut (.ref D)) _ _ _
  rw [PySem.W.handedOut_of rfl]
  exact wpAny_pure (wpAny_pure h)
theorem cls_at {K : PySem.W.Frag} {D : Addr} (h : PySem.W.hasDictIn K D = true) : ∃ o cd, K.lookup D = some o ∧ o.data = .cls cd := by
  obtain ⟨cd, hc, _⟩ := PySem.W.any_some h
  unfold PySem.W.clsIn at hc
  split at hc
  · rename_i heq
    exact ⟨_, _, heq, rfl⟩
  · cases hc
theorem kitx_excD {K : PySem.W.Frag} {x D : Addr} {ox od : Obj} (C : ExcC K D) : PySem.W.KitX K (.ref x) (.ref D) (fun h => PySem.W.InstAt h x ox D (some od)) := by
  obtain ⟨⟨cl, dc, da, sl⟩, cd, ho, hd⟩ := cls_at C.hd
  refine ⟨fun M h X I => PySem.W.InstAt.type I, fun M h X _ => ?_, fun h tp dd its n sl' X htp => ?_, fun X I k => kin_classD C.hg C.hk C.hs C.hd C.ha C.hn C.ht C.hm X I k⟩
  · subst hd
    intro A' Q' E' s' k q
    exact wpAny_bind (wpAny_loadPart (k D _ (X D _ ho)) (wpAny_pure q))
  · refine Bool.eq_false_iff.mpr fun q => ?_
    have e := Value.ref.inj (beq_iff_eq.mp q)
    subst e
    have z := (X D _ ho).symm.trans htp
    cases z
    cases hd
/-- isinstance(caught, C): None, or a kept error -/
def rIsH (K : PySem.W.Frag) : List V → Hp → VK → Prop := fun xs H Q => ∃ (x c : V) (u : Value), xs = [x, c] ∧ (∀ v, RelV c v → v = u) ∧
  ((x = .non ∧ ∃ b, PySem.W.kitOne K (.type "NoneType") u = some b ∧ Q (.bl b) H) ∨
   (∃ (a D dd : Addr) (fs : List (Str × V)) (b : Bool), x = .ref a ∧ H a = some (ExH (.ref D) (some dd) a) ∧ H dd = some (.xd fs) ∧ ExcC K D ∧ PySem.W.kitOne K (.ref D) u = some b ∧ Q (.bl b) H))
theorem call_isH {X : Cx} : CallR X (.builtin "isinstance") (rIsH X.K) := by
  intro pins s σ H xs us Q I r h
  obtain ⟨x, c, u, rfl, hu, h⟩ := h
  cases r with
  | cons r1 r2 =>
    cases r2 with
    | cons r2 r3 =>
      cases r3
      obtain rfl := hu _ r2
      rcases h with ⟨rfl, b, hk, q⟩ | ⟨a, D, dd, fs, b, rfl, ha, hd, C, hk, q⟩
      · cases r1
        exact PySem.W.kia_one PySem.W.kitx_none I.kIn trivial hk (fun z => nomatch z) fun tk => ⟨.bl b, H, I.tok _, rfl, q⟩
      · obtain ⟨oe, vs, hget, hz, hdat⟩ := (I.hok a _ ha).1
        obtain ⟨mA, hns, hr⟩ := I.hok dd _ hd
        obtain ⟨od, ho, hl⟩ := lookIn_ns hns
        have J : PySem.W.InstAt s.heap a oe D (some od) := ⟨hget, hz.1, by unfold PySem.W.notCls; rw [hdat] <;> rfl, by rw [hz.2]; exact ho⟩
        rw [show _ = Value.ref a from r1]
        exact PySem.W.kia_one (kitx_excD C) I.kIn J hk (fun z => nomatch z) fun tk => ⟨.bl b, H, I.tok _, rfl, q⟩
/-- caught.n -/
def tFldH (C : Addr) (n : Str) (te : TE) : TE := fun σ H Q => te σ H fun x H1 => ∃ (a dd : Addr) (fs : List (Str × V)) (v : V), x = .ref a ∧ H1 a = some (ExH (.ref C) (some dd) a) ∧ H1 dd = some (.xd fs) ∧ fs.lookup n = some v ∧ Q v H1
theorem pe_fldH {X : Cx} {C : Addr} {e : Expr} {te : TE} {pos : Pos} {n : Str} (T : XfC X.K C) (hno : PySem.W.findIn X.K (.ref C) n = some none) (he : PE X e te) (hb : attributeBase e n X.env (eval e X.env) = eval e X.env := by rfl) : PE X (.Attribute e n pos) (tFldH C n te) := by
  refine ⟨fun pins s σ H Q I h => attr_of hb (thn (he.run pins s σ H _ I h) fun u s1 ⟨x, H1, I1, rx, a, dd, fs, v, ex, ha, hdd, l, q⟩ => ?_)⟩
  subst ex
  obtain rfl : u = Value.ref a := rx
  obtain ⟨oe, vs, hget, hz, hdat⟩ := (I1.hok a _ ha).1
  obtain ⟨mA, hns, hr⟩ := I1.hok dd _ hdd
  obtain ⟨od, ho, hl⟩ := lookIn_ns hns
  obtain ⟨u, hu, ru⟩ := RelO.some_of (v := v) (o := mA n) (by rw [← l]; exact hr n)
  have J : PySem.W.InstAt s1.heap a oe C (some od) := ⟨hget, hz.1, by unfold PySem.W.notCls; rw [hdat] <;> rfl, by rw [hz.2]; exact ho⟩
  exact HandSPX.exc_get I1.kIn J T.ga T.gg T.exC (PySem.W.findObj_own T.hdC hno rfl (by rw [hl, hu])) (handed_of ru) ⟨v, H1, I1.tok _, ru, q⟩
end Rw
namespace Rw
open PySem PySem.Spec PyProof.Rows L2
/-! ### own errors with one field -/
/-- __init__(self, n): self.n = n -/
def spErr (C : Addr) (n : Str) : Sp := fun vs H Q _ => ∃ (a : Addr) (v : V), vs = [.ref a, v] ∧ H a = some (exo a C none) ∧ ∀ dx, H dx = none → dx ≠ a → Q .non (upd (upd H dx (exd dx [(n, v)])) a (exo a C (some dx)))
/-- C(v) made: what its making asks -/
theorem err_made {C : Addr} {n : Str} {v : V} {H1 : Hp} {Q : XK} (h : ∀ d, H1 d = none → Q (.ref C) (some d) (upd H1 d (.xd [(n, v)]))) : [v].length ≤ 1000 ∧ ∀ a : Addr, H1 a = none → spErr C n (.ref a :: ([v] ++ [])) (upd H1 a (exo a C none))
    (fun u H2 => u = .non ∧ ∃ d fs, H2 a = some (exo a C (some d)) ∧ H2 d = some (exd d fs) ∧ H1 d = none ∧ Q (.ref C) (some d) (upd (del H2 a) d (.xd fs))) (fun _ _ _ => False) := by
  refine ⟨by simp, fun a ha => ⟨a, v, rfl, upd_same, fun dx hdx ne => ?_⟩⟩
  have hd1 : H1 dx = none := by
    rw [upd_ne ne] at hdx
    exact hdx
  refine ⟨rfl, dx, [(n, v)], upd_same, ?_, hd1, ?_⟩
  · rw [upd_ne ne, upd_same]
  · have e : upd (del (upd (upd (upd H1 a (exo a C none)) dx (exd dx [(n, v)])) a (exo a C (some dx))) a) dx (.xd [(n, v)]) = upd H1 dx (.xd [(n, v)]) := by
      funext b
      by_cases h1 : b = dx
      · subst h1
        rw [upd_same, upd_same]
      · rw [upd_ne h1, upd_ne h1]
        by_cases h2 : b = a
        · subst h2
          unfold del
          rw [ha]
          simp
        · unfold del
          rw [if_neg h2, upd_ne h2, upd_ne h1, upd_ne h2]
    rw [e]
    exact h dx hd1
end Rw
namespace Rw
open PySem PySem.Spec PyProof.Rows L2
/-! ### a head that tells of defs anywhere, and more -/
/-! ### what a class is, as a test -/
theorem clsB_ok {K : PySem.W.Frag} {C : Addr} {f : List Value → Addr → Bool → Bool} {nid : String} (h : clsB K C f nid = true) : ∃ nm q N bs bm hd sn sub ab col dd k0 k1 k2 k3 k5, K.lookup C = some (excClassObj nm q C N bs bm hd sn sub ab col dd k0 k1 k2 k3 k5 nid) ∧ f bm N hd = true := by
  unfold clsB at h
  split at h
  · rename_i t dd cd sl e
    rw [Bool.and_eq_true, Bool.and_eq_true, Bool.and_eq_true] at h
    obtain ⟨h1, h2, h3, h4⟩ := h
    obtain ⟨h1, h0⟩ := of_decide_eq_true h1
    have h2 := of_decide_eq_true h2
    split at h4
    · rename_i k0 k1 k2 k3 i k5
      have h4 := of_decide_eq_true h4
      subst h1 h4
      obtain ⟨nm, bs, mro, ns, q, hd, sn, sub, ab, col, del⟩ := cd
      refine ⟨nm, q, ns, bs, mro.tail, hd, sn, sub, ab, col, dd, k0, k1, k2, k3, k5, ?_, h3⟩
      rw [e]
      have h2' : mro = .ref C :: mro.tail := h2
      have h0' : del = false := h0
      subst h0'
      unfold excClassObj
      rw [← h2']
    · exact nomatch h4
  · exact nomatch h
def strKeysB (es : Array DictEntry) : Bool := es.toList.all fun e => match e.key with | .str _ _ => true | _ => false
theorem strKeysB_ok {es : Array DictEntry} (h : strKeysB es = true) : StrKeys es := fun e he => by
  have z := List.all_eq_true.mp h e (Array.mem_toList_iff.mpr he)
  split at z
  · exact ⟨_, _, by assumption⟩
  · exact nomatch z
def nsB (K : PySem.W.Frag) (N g : Addr) : Bool :=
  match K.lookup N with
  | some ⟨_, _, .dict es _, _⟩ => strKeysB es && (decide (nsFind es "__eq__" = some (.ref g)) && decide (nsFind es "__ne__" = none))
  | _ => false
def fnB (K : PySem.W.Frag) (g : Addr) : Bool :=
  match K.lookup g with
  | some o => decide (o.cls = .type "function")
  | none => false
theorem neC_of {K : PySem.W.Frag} {C g : Addr} (h1 : clsB K C (fun bm N _ => decide (bm = [.type "object"]) && nsB K N g) "object.__new__" = true) (h2 : fnB K g = true) : NeC K C g := by
  obtain ⟨nm, q, N, bs, bm, hd, sn, sub, ab, col, dd, k0, k1, k2, k3, k5, e, hf⟩ := clsB_ok h1
  rw [Bool.and_eq_true] at hf
  obtain ⟨f1, f2⟩ := hf
  have f1 := of_decide_eq_true f1
  subst f1
  constructor
  · unfold nsB at f2
    split at f2
    · rename_i oc od es ep os eN
      rw [Bool.and_eq_true, Bool.and_eq_true] at f2
      obtain ⟨g1, g2, g3⟩ := f2
      exact ⟨nm, q, N, bs, hd, sn, sub, ab, col, dd, k0, k1, k2, k3, k5, "object.__new__", _, es, ep, e, eN, rfl, strKeysB_ok g1, of_decide_eq_true g2, of_decide_eq_true g3⟩
    · exact nomatch f2
  · unfold fnB at h2
    split at h2
    · exact ⟨_, by assumption, of_decide_eq_true h2⟩
    · exact nomatch h2
/-- an own error class, by tests -/
theorem oexB_ok {K : PySem.W.Frag} {C : Addr} (h : oexB K C = true) : OexC K C := by
  unfold oexB at h
  rw [Bool.and_eq_true, Bool.and_eq_true, Bool.and_eq_true, Bool.and_eq_true] at h
  obtain ⟨h1, h2, h3, h4, h5⟩ := h
  obtain ⟨nm, q, N, bs, bm, hd, sn, sub, ab, col, dd, k0, k1, k2, k3, k5, e, hf⟩ := clsB_ok h1
  rw [Bool.and_eq_true] at hf
  obtain ⟨f1, f2⟩ := hf
  subst f1
  exact ⟨⟨nm, q, N, bs, bm, sn, sub, ab, col, dd, k0, k1, k2, k3, k5, e, f2⟩, of_decide_eq_true h2, of_decide_eq_true h3, of_decide_eq_true h4, h5⟩
theorem excP_ok {K : PySem.W.Frag} {D : Addr} (h : excP K D) : ExcC K D := by
  obtain ⟨h1, h2, h3, h4, h5, h6, h7, h8⟩ := h
  exact ⟨h1, h2, h3, h4, h5, h6, h7, h8⟩
theorem propP_ok {K : PySem.W.Frag} {C : Addr} {f : Str} (h : propP K C f) (r : recB K (He.ma K C f) "property" = true) : PropOf K C f (He.ma K C f) (He5.wf K C "property" f) := by
  obtain ⟨h1, h2, h3⟩ := h
  refine ⟨h1, h2, h3, ?_⟩
  unfold recB at r
  unfold He5.wf
  split at r
  · rename_i a l e
    rw [e]
    exact ⟨_, rfl⟩
  · exact nomatch r
end Rw
namespace Rw
open PySem PySem.Spec PyProof.Rows L2
/-! ### the text -/
theorem scIsName : FnScope ["thing", "letter"] ["thing"] (defScope sIsName) := ⟨rfl, rfl, rfl, by decide +kernel, rfl, by decide +kernel, by decide +kernel⟩
theorem scIsWorld : FnScope ["thing"] ["thing"] (defScope sIsWorld) := ⟨rfl, rfl, rfl, by decide +kernel, rfl, by decide +kernel, by decide +kernel⟩
theorem scIsRule : FnScope ["thing", "part"] ["thing"] (defScope sIsRule) := ⟨rfl, rfl, rfl, by decide +kernel, rfl, by decide +kernel, by decide +kernel⟩
theorem scAreNames : FnScope ["thing", "item"] ["thing"] (defScope sAreNames) := ⟨rfl, rfl, rfl, by decide +kernel, rfl, by decide +kernel, by decide +kernel⟩
theorem scSetOf : FnScope ["names"] ["names"] (defScope sSetOf) := ⟨rfl, rfl, rfl, by decide +kernel, rfl, by decide +kernel, by decide +kernel⟩
theorem scInit : FnScope ["self", "rules", "place", "row"] ["self", "rules"] (defScope sInit) := ⟨rfl, rfl, rfl, by decide +kernel, rfl, by decide +kernel, by decide +kernel⟩
theorem scOf : FnScope ["cls", "rules"] ["cls", "rules"] (defScope sOf) := ⟨rfl, rfl, rfl, by decide +kernel, rfl, by decide +kernel, by decide +kernel⟩
theorem scRules : FnScope ["self"] ["self"] (defScope sRules) := ⟨rfl, rfl, rfl, by decide +kernel, rfl, by decide +kernel, by decide +kernel⟩
/-- the built-in names that the text does not bind -/
structure Bl (mg : Str → Option Value) : Prop where
  len : mg "len" = none
  isi : mg "isinstance" = none
  all : mg "all" = none
  any : mg "any" = none
  tuple : mg "tuple" = none
  list : mg "list" = none
  sorted : mg "sorted" = none
  set : mg "set" = none
  str : mg "str" = none
  int : mg "int" = none
  max : mg "max" = none
  min : mg "min" = none
  range : mg "range" = none
  enum : mg "enumerate" = none
/-! ### odd values -/
def nameD : PyData → Bool
  | .str x => nameB x
  | _ => false
def oddN : PyData → Prop
  | .str x => x.cps.size ≤ 10000
  | .bool _ => False
  | .dict _ => False
  | _ => True
def tyName : PyData → String
  | .none => "NoneType"
  | .bool _ => "bool"
  | .int _ => "int"
  | .str _ => "str"
  | .list _ => "list"
  | .tuple _ => "tuple"
  | .dict _ => "dict"
theorem tyx_dp {K : PySem.W.Frag} {H : Hp} {x : V} {d : PyData} (h : Dp K H x d) : TyX K H x (.type (tyName d)) := by
  cases h with
  | non => exact .base .non
  | bl b => exact .base (.bl b)
  | int i => exact .base (.int i)
  | str x => exact .base (.str x)
  | lst h1 _ =>
    rcases h1 with (h | ⟨o, h⟩) | ⟨o, its, n, h1, h2, _⟩
    · exact .base (.lst h)
    · exact .base (.frz h)
    · exact .kList h1 h2
  | tup h1 _ => exact tyx_tup h1
section
variable {K : PySem.W.Frag} {H H' : Hp}
mutual
theorem dp_same (e : Same H H') : ∀ (d : PyData) (x : V), Dp K H x d → Dp K H' x d
  | .none, _, h => by cases h; exact .non
  | .bool _, _, h => by cases h; exact .bl _
  | .int _, _, h => by cases h; exact .int _
  | .str _, _, h => by cases h; exact .str _
  | .list ds, _, h => by
    cases h with
    | lst h1 h2 => exact .lst (e.seq h1) (dpAll_same e ds _ h2)
  | .tuple ds, _, h => by
    cases h with
    | tup h1 h2 => exact .tup (same_tup e h1) (dpAll_same e ds _ h2)
  | .dict _, _, h => by cases h
theorem dpAll_same (e : Same H H') : ∀ (ds : List PyData) (xs : List V), DpAll K H xs ds → DpAll K H' xs ds
  | [], _, h => by cases h; exact .nil
  | d :: ds, _, h => by
    cases h with
    | cons h1 h2 => exact .cons (dp_same e d _ h1) (dpAll_same e ds _ h2)
end
end
theorem letter_in {c : Nat} : decide (c ∈ lettersS.cps.toList) = letter c := by
  cases h : letter c with
  | true => exact decide_eq_true (in_letters h)
  | false =>
    refine decide_eq_false fun m => ?_
    have all : (lettersS.cps.toList.all letter) = true := by decide +kernel
    rw [List.all_eq_true.mp all c m] at h
    exact nomatch h
section
variable {P : Program} {w : World} {K : PySem.W.Frag} {mg : Str → Option Value} {base : Heap} {f : Addr} {fd : FuncData} {k : Nat}
/-! ### is_name -/
def spIsName (K : PySem.W.Frag) : Sp := fun vs H Q _ => ∃ (x : V) (d : PyData), vs = [x] ∧ Dp K H x d ∧ oddN d ∧ ∀ H', Same H H' → Q (.bl (nameD d)) H'
theorem ok_isName (F : Fun K "is_name" "is_name" sIsName f fd) (T : Bl mg) (mL : ∃ t, mg "LETTERS" = some (.str lettersS t)) : FnOk P w K mg base CX0 (k + 1) f fd ["thing"] (spIsName K) := by
  refine F.ok scIsName (fun vs H Q E h => ?_) (fun cdv A outer s H vs Q E hr h => ?_)
  · obtain ⟨x, d, rfl, _⟩ := h
    rfl
  obtain ⟨x, d, rfl, hd, odd, q⟩ := h
  obtain ⟨tl, mL⟩ := mL
  refine ⟨_, pss_cons (ps_if (PW.pt (pw_or (pt_not (pt_val (pe_callB call_isi (by rfl) T.isi PyProof.Rows.boot_isinstance (pa_cons (pv 0) (pa_cons (pe_bltn (v := .ty "str") (by rfl) T.str (by decide +kernel) rfl) pa_nil)))))
      (pw_or1 (pt_cmpR op_eq (pv 0) pe_str (nomark _))))) (pss_one (ps_ret pe_bl)) pss_nil)
    (pss_one (ps_ret (pe_and (pe_chain op_le op_le pe_int (pe_callB call_len_str (by rfl) T.len PySem.boot_len (pa_cons (pv 0) pa_nil)) pe_int)
      (pe_one (pe_callB (cr_all rfl) (by rfl) T.all (by decide +kernel) (pa_cons (pe_lc (own := [("letter", 1)]) (g := gName 1) (by rfl) scIsName.nd (pi_str (pv 0)) (blkOk_by (N := ["thing", "letter"]) (sc := defScope sIsName) (by decide +kernel))
        (fun _ _ _ _ _ => pg_name (i := 1) scIsName.nd rfl (Or.inl rfl)) (fun _ _ _ _ _ => pts_nil) (fun _ _ _ _ _ => pe_cmpR op_in_sign (pv 1) (pe_glob (v := .str lettersS) (by rfl) mL ⟨_, rfl⟩) (by rfl))) pa_nil)))))), ?_⟩
  have cases' : (∃ t : String, TyX K H x (.type t) ∧ PySem.W.kitOne K (.type t) (.type "str") = some false ∧ nameD d = false) ∨ ∃ z, d = .str z := by
    have ty := tyx_dp hd
    cases d with
    | none => exact .inl ⟨"NoneType", ty, kit_ty (by decide +kernel), rfl⟩
    | bool _ => exact absurd odd id
    | dict _ => exact absurd odd id
    | int i => exact .inl ⟨"int", ty, kit_ty (by decide +kernel), rfl⟩
    | list ds => exact .inl ⟨"list", ty, kit_ty (by decide +kernel), rfl⟩
    | tuple ds => exact .inl ⟨"tuple", ty, kit_ty (by decide +kernel), rfl⟩
    | str z => exact .inr ⟨z, rfl⟩
  rcases cases' with ⟨t, h1, h2, h3⟩ | ⟨z, rfl⟩
  · refine ⟨x, rfl, x, .ty "str", .type t, .type "str", false, rfl, .ty "str", h1, h2, false, rfl, iteT ?_⟩
    have := q H fun _ _ e => e
    rw [h3] at this
    exact this
  · cases hd
    have few : z.cps.size ≤ 10000 := odd
    refine ⟨.str z, rfl, .str z, .ty "str", .type "str", .type "str", true, rfl, .ty "str", .base (.str z), kit_ty (by decide +kernel), true, rfl, ?_⟩
    refine ⟨.str z, rfl, rfl, _, rfl, ?_⟩
    refine ite2 (fun e => ?_) (fun e => ?_)
    · have ez : z = notS := V.str.inj (of_decide_eq_true e)
      have en : nameB z = false := by
        rw [ez]
        decide +kernel
      have := q H fun _ _ e => e
      rw [show nameD (.str z) = nameB z from rfl, en] at this
      exact this
    · have nz : z ≠ notS := fun h => e (decide_eq_true (by rw [h]; rfl))
      have val : nameB z = (decide (1 ≤ z.cps.size) && (decide (z.cps.size ≤ 8) && z.cps.toList.all letter)) := by
        unfold nameB
        rw [decide_eq_false nz]
        cases z.cps.toList.all letter <;> cases decide (1 ≤ z.cps.size) <;> cases decide (z.cps.size ≤ 8) <;> rfl
      have q' : ∀ H', Same H H' → Q (.bl (decide (1 ≤ z.cps.size) && (decide (z.cps.size ≤ 8) && z.cps.toList.all letter))) H' := fun H' s => by
        have := q H' s
        rw [show nameD (.str z) = nameB z from rfl, val] at this
        exact this
      refine ⟨.str z, rfl, z, rfl, small_line few, 1, z.length, rfl, rfl, decide ((1 : Int) ≤ (z.length : Int)), rfl, ite2 (fun e1 => ?_) (fun e1 => ?_)⟩
      · have h1 : decide (1 ≤ z.cps.size) = true := by
          have := of_decide_eq_true e1
          exact decide_eq_true (by have : (1 : Int) ≤ (z.cps.size : Int) := this; omega)
        rw [h1] at q'
        refine ⟨z.length, 8, rfl, rfl, decide ((z.length : Int) ≤ 8), rfl, ite2 (fun e2 => ?_) (fun e2 => ?_)⟩
        · have h2 : decide (z.cps.size ≤ 8) = true := by
            have := of_decide_eq_true e2
            exact decide_eq_true (by have : (z.cps.size : Int) ≤ 8 := this; omega)
          rw [h2] at q'
          refine ⟨.str z, rfl, z, rfl, fun D hD => ?_⟩
          have s1 : Same H (upd H D (.lst [])) := same_new hD _
          refine lc_sgn (x := z) (fun i H1 => Same H H1 ∧ H1 D = some (.lst ((z.cps.toList.take i).map fun c => V.bl (letter c)))) ⟨s1, upd_same⟩ (fun i c H1 hc hI => ?_) (fun H1 hI => ?_)
          · obtain ⟨sm, hd⟩ := hI
            have hc' : z.cps.toList[i]? = some c := by rw [Array.getElem?_toList]; exact hc
            have il : i < z.cps.size := (Array.getElem?_eq_some_iff.mp hc).1
            refine ⟨rfl, .str ⟨#[c]⟩, rfl, c, lettersS, rfl, rfl, ?_⟩
            rw [letter_in]
            refine ⟨_, hd, small_line' (by rw [List.length_map, List.length_take, Array.length_toList]; omega), same_put sm hD, ?_⟩
            rw [upd_same, take_snoc hc', List.map_append]
            rfl
          · obtain ⟨sm, hd⟩ := hI
            rw [show z.cps.size = z.cps.toList.length by rw [Array.length_toList], List.take_length] at hd
            refine ⟨D, z.cps.toList.map letter, rfl, SqL.of (by rw [List.map_map]; exact hd), ?_⟩
            have eq : (z.cps.toList.map letter).all id = z.cps.toList.all letter := by
              rw [List.all_map]
              rfl
            rw [eq]
            exact q' H1 sm
        · have h2 : decide (z.cps.size ≤ 8) = false := decide_eq_false fun h => e2 (decide_eq_true (by show (z.cps.size : Int) ≤ 8; omega))
          rw [h2] at q'
          exact q' H fun _ _ e => e
      · have h1 : decide (1 ≤ z.cps.size) = false := decide_eq_false fun h => e1 (decide_eq_true (by show (1 : Int) ≤ (z.cps.size : Int); omega))
        rw [h1] at q'
        exact ⟨false, rfl, iteF (q' H fun _ _ e => e)⟩
end
end Rw
namespace Rw
open PySem PySem.Spec PyProof.Rows L2
/-! ### worlds of odd values -/
def strOf : PyData → Str
  | .str x => x
  | _ => notS
theorem strs_of : ∀ {ds : List PyData}, ds.all nameD = true → ds = (ds.map strOf).map PyData.str ∧ ∀ x ∈ ds.map strOf, nameB x = true
  | [], _ => ⟨rfl, fun x hx => nomatch hx⟩
  | d :: ds, h => by
    rw [List.all_cons, Bool.and_eq_true] at h
    obtain ⟨h1, h2⟩ := h
    obtain ⟨e, hn⟩ := strs_of h2
    cases d with
    | str x =>
      refine ⟨by rw [List.map_cons, List.map_cons, ← e]; rfl, fun y hy => ?_⟩
      rw [List.map_cons] at hy
      rcases List.mem_cons.mp hy with z | hy
      · rw [z]
        exact h1
      · exact hn y hy
    | _ => exact absurd h1 (by simp [nameD])
instance (ns : W) : Decidable (UpX ns) := inferInstanceAs (Decidable (ns.Pairwise fun a b => a.cps.toList < b.cps.toList))
def worldD : PyData → Bool
  | .tuple ds => ds.all nameD && decide (UpX (ds.map strOf))
  | _ => false
def oddW : PyData → Prop
  | .tuple ds => (∀ d ∈ ds, oddN d) ∧ ds.length ≤ 40
  | .bool _ => False
  | .dict _ => False
  | _ => True
theorem worldD_wd {ns : W} (h : IsW ns) : worldD (wd ns) = true := by
  unfold worldD wd
  have e1 : ((ns.map PyData.str).all nameD) = true := by
    rw [List.all_map, List.all_eq_true]
    exact fun x hx => h.names x hx
  have e2 : (ns.map PyData.str).map strOf = ns := by
    rw [List.map_map]
    exact List.map_id' ns
  show ((ns.map PyData.str).all nameD && decide (UpX ((ns.map PyData.str).map strOf))) = true
  rw [e1, e2, decide_eq_true h.up]
  rfl
theorem worldD_of {d : PyData} (o : oddW d) (h : worldD d = true) : ∃ ns, IsW ns ∧ d = wd ns := by
  cases d with
  | tuple ds =>
    have h' : (ds.all nameD && decide (UpX (ds.map strOf))) = true := h
    rw [Bool.and_eq_true] at h'
    obtain ⟨h1, h2⟩ := h'
    obtain ⟨e, hn⟩ := strs_of h1
    refine ⟨ds.map strOf, ⟨hn, of_decide_eq_true h2, by rw [List.length_map]; exact o.2⟩, ?_⟩
    unfold wd
    rw [← e]
  | _ => exact nomatch h
theorem oddN_name {x : Str} (h : nameB x = true) : oddN (.str x) := by
  obtain ⟨_, _, h3, _⟩ := nameB_iff.mp h
  show x.cps.size ≤ 10000
  omega
theorem oddW_wd {ns : W} (h : IsW ns) : oddW (wd ns) := ⟨fun d hd => by
  obtain ⟨x, hx, rfl⟩ := List.mem_map.mp hd
  exact oddN_name (h.names x hx), by rw [List.length_map]; exact h.few⟩
theorem shaped_names {ns : W} (h : ∀ x ∈ ns, nameB x = true) : SeqAt.shaped (wd ns) = true := shaped_of (lay_wd h) (by rw [depth_wd]; decide)
section
variable {P : Program} {w : World} {K : PySem.W.Frag} {mg : Str → Option Value} {base : Heap} {f : Addr} {fd : FuncData} {k : Nat}
def spAreNames (K : PySem.W.Frag) : Sp := fun vs H Q _ => ∃ (a : Addr) (xs : List V) (ds : List PyData), vs = [.ref a] ∧ SqT K H a xs ∧ DpAll K H xs ds ∧ (∀ d ∈ ds, oddN d) ∧ ds.length ≤ 1000 ∧ ∀ H', Same H H' → Q (.bl (ds.all nameD)) H'
theorem ok_areNames {f1 : Addr} {fd1 : FuncData} (F : Fun K "_are_names" "_are_names" sAreNames f fd) (T : Bl mg) (G : FnOk P w K mg base CX0 k f1 fd1 ["thing"] (spIsName K)) (b1 : Binds K fd1 ["thing"] []) (k1 : PySem.W.keepIn K (.ref f1) = true) (m1 : mg "is_name" = some (.ref f1)) :
    FnOk P w K mg base CX0 (k + 1) f fd ["thing"] (spAreNames K) := by
  refine F.ok scAreNames (fun vs H Q E h => ?_) (fun cdv A outer s H vs Q E hr h => ?_)
  · obtain ⟨a, xs, ds, rfl, _⟩ := h
    rfl
  obtain ⟨a, xs, ds, rfl, hS, hx, odd, few, q⟩ := h
  have xl := dpAll_len hx
  refine ⟨_, pss_one (ps_ret (pe_and (pe_isiTL (pv 0) (by rfl) T.isi (pa_cons (pe_bltn (v := .ty "tuple") (by rfl) T.tuple (by decide +kernel) rfl) (pa_cons (pe_bltn (v := .ty "list") (by rfl) T.list (by decide +kernel) rfl) pa_nil)))
      (pe_one (pe_callB (cr_all rfl) (by rfl) T.all (by decide +kernel) (pa_cons (pe_lc (own := [("item", 1)]) (g := gName 1) (by rfl) scAreNames.nd (pi_tup (pv 0)) (blkOk_by (N := ["thing", "item"]) (sc := defScope sAreNames) (by decide +kernel))
        (fun _ _ _ _ _ => pg_name (i := 1) scAreNames.nd rfl (Or.inl rfl)) (fun _ _ _ _ _ => pts_nil) (fun _ _ _ _ _ => pe_call G hr (by rfl) m1 k1 b1 .nil pass0 (pa_cons (pv 1) pa_nil))) pa_nil))))), ?_⟩
  refine ⟨.ref a, rfl, ⟨a, _, rfl, hS⟩, fun T0 hT => ⟨true, rfl, iteT ?_⟩⟩
  have s0 : Same H (upd H T0 (.tup [.ty "tuple", .ty "list"])) := same_new hT _
  generalize upd H T0 (.tup [.ty "tuple", .ty "list"]) = H0 at s0 ⊢
  refine ⟨.ref a, rfl, a, rfl, ⟨_, same_tup s0 hS⟩, fun D hD => ?_⟩
  have s1 : Same H0 (upd H0 D (.lst [])) := same_new hD _
  refine lc_tup (xs := xs) (fun i H1 => Same H0 H1 ∧ H1 D = some (.lst ((ds.take i).map fun d => V.bl (nameD d)))) ⟨s1, upd_same⟩ (fun i H1 _ hI => same_tup (s0.trans hI.1) hS) (fun i x H1 hxi hI => ?_) (fun H1 hI => ?_)
  · obtain ⟨sm, hd⟩ := hI
    obtain ⟨d, hdi, hxd⟩ := dpAll_at' hx hxi
    have il : i < ds.length := (List.getElem?_eq_some_iff.mp hdi).1
    refine ⟨rfl, x, rfl, x, d, rfl, dp_same (s0.trans sm) _ _ hxd, odd d (List.mem_of_getElem? hdi), fun H2 sm2 => ⟨_, sm2 _ _ hd, small_line' (by rw [List.length_map, List.length_take]; omega), same_put (sm.trans sm2) hD, ?_⟩⟩
    rw [upd_same, take_snoc hdi, List.map_append]
    rfl
  · obtain ⟨sm, hd⟩ := hI
    rw [xl, List.take_length] at hd
    refine ⟨D, ds.map nameD, rfl, SqL.of (by rw [List.map_map]; exact hd), ?_⟩
    have z : (ds.map nameD).all id = ds.all nameD := by
      rw [List.all_map]
      rfl
    rw [z]
    exact q H1 (s0.trans sm)
/-! ### _set_of -/
def spSetOf (K : PySem.W.Frag) : Sp := fun vs H Q _ => ∃ (a : Addr) (ns : W), vs = [.ref a] ∧ (SqL K H a (ns.map V.str) ∨ SqT K H a (ns.map V.str)) ∧ ns.length < 1000 ∧ ∀ (H' : Hp) (p : Addr) (zs : W), Same H H' → H' p = some (.tup (zs.map V.str)) → UpX zs → (∀ z, z ∈ zs ↔ z ∈ ns) → Q (.ref p) H'
theorem ok_setOf (F : Fun K "_set_of" "_set_of" sSetOf f fd) (T : Bl mg) : FnOk P w K mg base CX0 (k + 1) f fd ["names"] (spSetOf K) := by
  refine F.ok scSetOf (fun vs H Q E h => ?_) (fun cdv A outer s H vs Q E hr h => ?_)
  · obtain ⟨a, ns, rfl, _⟩ := h
    rfl
  obtain ⟨a, ns, rfl, hS, few, q⟩ := h
  refine ⟨_, pss_one (ps_ret (pe_callTy call_tuple_of (by rfl) T.tuple (by decide +kernel) (pa_cons (pe_callB (cr_sortX rfl hr.units) (by rfl) T.sorted (by decide +kernel) (pa_cons (pe_callTy (cr_setX rfl hr.units) (by rfl) T.set (by decide +kernel) (pa_cons (pv 0) pa_nil)) pa_nil)) pa_nil))), ?_⟩
  refine ⟨.ref a, rfl, a, ns, rfl, hS, few, fun b ms hb nd hm hl => ?_⟩
  refine ⟨b, ms, rfl, upd_same, by omega, fun zs p hz nz hlz rz hp => ?_⟩
  refine ⟨p, zs.map V.str, rfl, .inl ⟨SqL.of upd_same, fun l hl2 => ?_⟩⟩
  exact q _ l zs ((same_new hb _).trans ((same_new hp _).trans (same_new hl2 _))) upd_same (upX_of rz nz) fun z => (hz z).trans (hm z)
/-! ### is_world -/
def spIsWorld (K : PySem.W.Frag) : Sp := fun vs H Q _ => ∃ (x : V) (d : PyData), vs = [x] ∧ Dp K H x d ∧ oddW d ∧ ∀ H', Same H H' → Q (.bl (worldD d)) H'
theorem ok_isWorld {f1 f2 : Addr} {fd1 fd2 : FuncData} (F : Fun K "is_world" "is_world" sIsWorld f fd) (T : Bl mg) (G1 : FnOk P w K mg base CX0 k f1 fd1 ["thing"] (spAreNames K)) (b1 : Binds K fd1 ["thing"] []) (k1 : PySem.W.keepIn K (.ref f1) = true) (m1 : mg "_are_names" = some (.ref f1))
    (G2 : FnOk P w K mg base CX0 k f2 fd2 ["names"] (spSetOf K)) (b2 : Binds K fd2 ["names"] []) (k2 : PySem.W.keepIn K (.ref f2) = true) (m2 : mg "_set_of" = some (.ref f2)) : FnOk P w K mg base CX0 (k + 1) f fd ["thing"] (spIsWorld K) := by
  refine F.ok scIsWorld (fun vs H Q E h => ?_) (fun cdv A outer s H vs Q E hr h => ?_)
  · obtain ⟨x, d, rfl, _⟩ := h
    rfl
  obtain ⟨x, d, rfl, hx, odd, q⟩ := h
  refine ⟨_, pss_one (ps_ret (pe_and (pe_callB call_isi (by rfl) T.isi PyProof.Rows.boot_isinstance (pa_cons (pv 0) (pa_cons (pe_bltn (v := .ty "tuple") (by rfl) T.tuple (by decide +kernel) rfl) pa_nil)))
    (pe_and (pe_call G1 hr (by rfl) m1 k1 b1 .nil pass0 (pa_cons (pv 0) pa_nil)) (pe_one (pe_cmpR (op_eqD hr.units) (pv 0) (pe_call G2 hr (by rfl) m2 k2 b2 .nil pass0 (pa_cons (pv 0) pa_nil)) (nomark _)))))), ?_⟩
  have cases' : (∃ t : String, TyX K H x (.type t) ∧ PySem.W.kitOne K (.type t) (.type "tuple") = some false ∧ worldD d = false) ∨ ∃ ds, d = .tuple ds := by
    have ty := tyx_dp hx
    cases d with
    | none => exact .inl ⟨"NoneType", ty, kit_ty (by decide +kernel), rfl⟩
    | bool _ => exact absurd odd id
    | dict _ => exact absurd odd id
    | int i => exact .inl ⟨"int", ty, kit_ty (by decide +kernel), rfl⟩
    | list ds => exact .inl ⟨"list", ty, kit_ty (by decide +kernel), rfl⟩
    | str z => exact .inl ⟨"str", ty, kit_ty (by decide +kernel), rfl⟩
    | tuple ds => exact .inr ⟨ds, rfl⟩
  rcases cases' with ⟨t, h1, h2, h3⟩ | ⟨ds, rfl⟩
  · refine ⟨x, rfl, x, .ty "tuple", .type t, .type "tuple", false, rfl, .ty "tuple", h1, h2, false, rfl, iteF ?_⟩
    have := q H fun _ _ e => e
    rw [h3] at this
    exact this
  obtain ⟨o1, o2⟩ := odd
  cases hx with
  | @tup a xs _ hS hxs =>
    refine ⟨.ref a, rfl, .ref a, .ty "tuple", .type "tuple", .type "tuple", true, rfl, .ty "tuple", tyx_tup hS, kit_ty (by decide +kernel), true, rfl, iteT ?_⟩
    refine ⟨.ref a, rfl, a, xs, ds, rfl, hS, hxs, o1, by omega, fun H1 s1 => ⟨_, rfl, ?_⟩⟩
    have val : ∀ b, ds.all nameD = b → worldD (.tuple ds) = (b && decide (UpX (ds.map strOf))) := fun b e => by
      rw [← e]
      rfl
    refine ite2 (fun c => ?_) (fun c => ?_)
    · rw [val _ c] at q
      obtain ⟨e, hn⟩ := strs_of c
      have ex : xs = (ds.map strOf).map V.str := dps_str (K := K) (H := H) (by rw [← e]; exact hxs)
      rw [ex] at hS
      refine ⟨.ref a, rfl, .ref a, rfl, a, ds.map strOf, rfl, .inr (same_tup s1 hS), by rw [List.length_map]; omega, fun H2 p zs s2 hp hu hm => ?_⟩
      have hz : ∀ x ∈ zs, nameB x = true := fun x hx => hn x ((hm x).mp hx)
      refine ⟨wd (ds.map strOf), wd zs, to_wd (same_tup (s1.trans s2) hS), to_wd (SqT.of hp), shaped_names hn, shaped_names hz, ?_⟩
      rw [eqv_wd]
      have ed : decide (ds.map strOf = zs) = decide (UpX (ds.map strOf)) := by
        by_cases u : UpX (ds.map strOf)
        · rw [decide_eq_true u, decide_eq_true (upX_one u hu fun z => (hm z).symm)]
        · rw [decide_eq_false u, decide_eq_false fun z => u (by rw [z]; exact hu)]
      rw [ed]
      exact q H2 (s1.trans s2)
    · rw [val false (by simpa using c)] at q
      exact q H1 s1
/-! ### is_rule -/
def spIsRule (K : PySem.W.Frag) : Sp := fun vs H Q _ => ∃ (x : V) (r : Rl), vs = [x] ∧ Dp K H x (rd r) ∧ IsR r ∧ ∀ H', Same H H' → Q (.bl true) H'
theorem ok_isRule {f1 : Addr} {fd1 : FuncData} (F : Fun K "is_rule" "is_rule" sIsRule f fd) (T : Bl mg) (G1 : FnOk P w K mg base CX0 k f1 fd1 ["thing"] (spIsWorld K)) (b1 : Binds K fd1 ["thing"] []) (k1 : PySem.W.keepIn K (.ref f1) = true) (m1 : mg "is_world" = some (.ref f1)) :
    FnOk P w K mg base CX0 (k + 1) f fd ["thing"] (spIsRule K) := by
  refine F.ok scIsRule (fun vs H Q E h => ?_) (fun cdv A outer s H vs Q E hr h => ?_)
  · obtain ⟨x, r, rfl, _⟩ := h
    rfl
  obtain ⟨x, r, rfl, hx, hr', q⟩ := h
  refine ⟨_, pss_one (ps_ret (pe_and (pe_callB call_isi (by rfl) T.isi PyProof.Rows.boot_isinstance (pa_cons (pv 0) (pa_cons (pe_bltn (v := .ty "tuple") (by rfl) T.tuple (by decide +kernel) rfl) pa_nil)))
    (pe_and (pe_cmpR op_eq (pe_callB call_len_seq (by rfl) T.len PySem.boot_len (pa_cons (pv 0) pa_nil)) pe_int (nomark _)) (pe_one (pe_callB (cr_all rfl) (by rfl) T.all (by decide +kernel) (pa_cons (pe_lc (own := [("part", 1)]) (g := gName 1) (by rfl) scIsRule.nd (pi_tup (pv 0)) (blkOk_by (N := ["thing", "part"]) (sc := defScope sIsRule) (by decide +kernel))
        (fun _ _ _ _ _ => pg_name (i := 1) scIsRule.nd rfl (Or.inl rfl)) (fun _ _ _ _ _ => pts_nil) (fun _ _ _ _ _ => pe_call G1 hr (by rfl) m1 k1 b1 .nil pass0 (pa_cons (pv 1) pa_nil))) pa_nil)))))), ?_⟩
  unfold rd at hx
  cases hx with
  | @tup a xs _ hS hxs =>
    have xl : xs.length = 4 := by
      rw [dpAll_len hxs, List.length_map]
      rfl
    refine ⟨.ref a, rfl, .ref a, .ty "tuple", .type "tuple", .type "tuple", true, rfl, .ty "tuple", tyx_tup hS, kit_ty (by decide +kernel), true, rfl, iteT ?_⟩
    refine ⟨.ref a, rfl, a, xs, rfl, .inr hS, rfl, true, congrArg V.bl (decide_eq_true (by rw [xl]; rfl)), iteT ?_⟩
    refine ⟨.ref a, rfl, a, rfl, ⟨_, hS⟩, fun D hD => ?_⟩
    refine lc_tup (xs := xs) (fun i H1 => Same H H1 ∧ H1 D = some (.lst (List.replicate i (V.bl true)))) ⟨same_new hD _, upd_same⟩ (fun i H1 _ hI => same_tup hI.1 hS) (fun i x H1 hxi hI => ?_) (fun H1 hI => ?_)
    · obtain ⟨sm, hd⟩ := hI
      obtain ⟨d, hdi, hxd⟩ := dpAll_at' hxs hxi
      obtain ⟨t, ht, rfl⟩ := map_at hdi
      have wt := hr'.all t (List.mem_of_getElem? ht)
      have il : i < (parts r).length := (List.getElem?_eq_some_iff.mp ht).1
      have il' : i < 4 := il
      refine ⟨rfl, x, rfl, x, wd t, rfl, (Stay.same sm).wd hxd, oddW_wd wt, fun H2 sm2 => ?_⟩
      rw [worldD_wd wt]
      refine ⟨_, sm2 _ _ hd, small_line' (by rw [List.length_replicate]; omega), same_put (sm.trans sm2) hD, ?_⟩
      rw [upd_same, show List.replicate (i + 1) (V.bl true) = List.replicate i (V.bl true) ++ [V.bl true] from List.replicate_succ']
    · obtain ⟨sm, hd⟩ := hI
      refine ⟨D, List.replicate xs.length true, rfl, SqL.of (by rw [List.map_replicate]; exact hd), ?_⟩
      have z : (List.replicate xs.length true).all id = true := by simp
      rw [z]
      exact q H1 sm
end
end Rw
namespace Rw
open PySem PySem.Spec PyProof.Rows L2
/-! ### programs -/
/-- an instance of the class at C whose rules are S -/
def PgAt (K : PySem.W.Frag) (C : Addr) (H : Hp) (v : V) (S : List Rl) : Prop := ∃ a dx t ys, v = .ref a ∧ H a = some (.ins C dx [(("_rules" : Str), .ref t)]) ∧ SqT K H t ys ∧ DpAll K H ys (S.map rd)
theorem PgAt.same {K : PySem.W.Frag} {C : Addr} {H H' : Hp} {v : V} {S : List Rl} (h : PgAt K C H v S) (e : Same H H') : PgAt K C H' v S := by
  obtain ⟨a, dx, t, ys, h1, h2, h3, h4⟩ := h
  exact ⟨a, dx, t, ys, h1, e _ _ h2, same_tup e h3, dpAll_same e _ _ h4⟩
theorem mut_ins {H : Hp} {p C dx : Addr} {fs : List (Str × V)} (h : H p = some (.ins C dx fs)) : Mut (H p) := by
  rw [h]
  exact True.intro
section
variable {P : Program} {w : World} {K : PySem.W.Frag} {mg : Str → Option Value} {base : Heap} {f : Addr} {fd : FuncData} {k : Nat}
/-- Program.__init__(self, *rules) -/
def spInit (K : PySem.W.Frag) (C : Addr) : Sp := fun vs H Q _ => ∃ (x dx : Addr) (xs : List V) (L : List Rl), vs = .ref x :: xs ∧ H x = some (.ins C dx []) ∧ DpAll K H xs (L.map rd) ∧ (∀ r ∈ L, IsR r) ∧ L.length < 76 ∧
  ∀ H' S, (∀ b u, b ≠ x → H b = some u → H' b = some u) → Srt S L → S.length < 76 → PgAt K C H' (.ref x) S → Q .non H'
theorem ok_init {C f1 : Addr} {fd1 : FuncData} {name qual : Str} {kV doc pm cdv ct oc : Value} {an od : Option Addr} {osl : Array (Option Value)}
    (lk : K.lookup f = some ⟨oc, od, .func (PySem.W.fnOf name qual (defArgs sInit) (defBody sInit) (defScope sInit) .none kV doc pm an cdv ct), osl⟩) (hcd : PySem.W.codeIn K cdv qual = true) (T : Bl mg) (c : Cls K C) (n : NoAttr K C "_rules")
    (G1 : FnOk P w K mg base CX0 k f1 fd1 ["thing"] (spIsRule K)) (b1 : Binds K fd1 ["thing"] []) (k1 : PySem.W.keepIn K (.ref f1) = true) (m1 : mg "is_rule" = some (.ref f1)) : FnR P w K mg base CX0 (k + 1) f (spInit K C) := by
  have main := StX.fn_star (CX := CX0) (P := P) (w := w) (mg := mg) (base := base) (k := k) (N := ["self", "rules", "place", "row"]) (ps := ["self"]) (pv := "rules") (sp := fun vs H Q E => ∃ (x p dx : Addr) (xs : List V) (L : List Rl), vs = [.ref x, .ref p] ∧ H x = some (.ins C dx []) ∧ SqT K H p xs ∧ DpAll K H xs (L.map rd) ∧ (∀ r ∈ L, IsR r) ∧ L.length < 76 ∧
      ∀ H' S, (∀ b u, b ≠ x → H b = some u → H' b = some u) → Srt S L → S.length < 76 → PgAt K C H' (.ref x) S → Q .non H') lk hcd scInit StX.cxUp_none (StX.bind_star1 (p1 := "self") (pv := "rules") (B := fun vs => bindArgs (PySem.W.fnOf name qual (defArgs sInit) (defBody sInit) (defScope sInit) .none kV doc pm an cdv ct) { pos := vs }) (fun _ => by first | rfl | with_unfolding_all rfl) (fun _ _ _ => by first | rfl | with_unfolding_all rfl)) (fun A outer s H vs Q E hr h => ?_)
  · intro A outer s H us vs Q E hr e0 r h
    refine main A outer s H us vs Q E hr e0 r ?_
    obtain ⟨x, dx, xs, L, rfl, hx, hxs, hL, few, q⟩ := h
    refine ⟨[.ref x], xs, rfl, rfl, small_line (by rw [dpAll_len hxs, List.length_map]; omega), fun p hp => ?_⟩
    have sp := same_new hp (.tup xs)
    exact ⟨x, p, dx, xs, L, rfl, sp _ _ hx, SqT.of upd_same, dpAll_same sp _ _ hxs, hL, few, fun H' S hb hs hl hg => q H' S (fun b u nb e => hb b u nb (sp _ _ e)) hs hl hg⟩
  obtain ⟨x, p, dx, xs, L, rfl, hx, hp, hxs, hL, few, q⟩ := h
  have xl : xs.length = L.length := by rw [dpAll_len hxs, List.length_map]
  refine ⟨_, PSs.nox (pss_cons (ps_for PassesOwn.never rfl (pi_enumT (by rfl) T.enum (pa_cons (pv 1) pa_nil)) (pg_tup (by rfl) (pgs_cons (pg_name (i := 2) scInit.nd rfl (.inl rfl)) (pgs_cons (pg_name (i := 3) scInit.nd rfl (.inl rfl)) pgs_nil)))
      (pss_one (ps_if (pt_not (pt_val (pe_call G1 hr (by rfl) m1 k1 b1 .nil pass0 (pa_cons (pv 3) pa_nil)))) pss_never pss_nil)))
    (pss_one (ps_fld (pv 0) (pe_callTy call_tuple_of (by rfl) T.tuple (by decide +kernel) (pa_cons (pe_callB (cr_sortR rfl hr.units) (by rfl) T.sorted (by decide +kernel) (pa_cons (pe_callTy (cr_setR rfl hr.units) (by rfl) T.set (by decide +kernel) (pa_cons (pv 1) pa_nil)) pa_nil)) pa_nil)) rfl))), ?_⟩
  refine ⟨.ref p, rfl, p, xs, rfl, hp, for_enumT (xs := xs) (fun i σ H1 => (∃ y2 y3, σ = [some (.ref x), some (.ref p), y2, y3]) ∧ Same H H1) ⟨⟨none, none, rfl⟩, fun _ _ e => e⟩ (fun i σ H1 _ hI => same_tup hI.2 hp) (fun i v σ H1 T0 hv hI hT => ?_) (fun σ H1 hI => ?_)⟩
  · obtain ⟨⟨y2, y3, rfl⟩, sm⟩ := hI
    obtain ⟨d, hd, hvd⟩ := dpAll_at' hxs hv
    obtain ⟨r, hr', rfl⟩ := map_at hd
    have st := same_new hT (.tup [.int (i : Int), v])
    refine ⟨T0, [.int (i : Int), v], rfl, SqT.of upd_same, rfl, .int (i : Int), [v], rfl, v, [], rfl, rfl, ?_⟩
    refine ⟨v, rfl, v, r, rfl, dp_same (sm.trans st) _ _ hvd, hL r (List.mem_of_getElem? hr'), fun H2 s2 => ⟨true, rfl, iteF ⟨⟨_, _, rfl⟩, sm.trans (st.trans s2)⟩⟩⟩
  · obtain ⟨⟨y2, y3, rfl⟩, sm⟩ := hI
    refine ⟨.ref p, rfl, p, xs, L, rfl, .inr (same_tup sm hp), dpAll_same sm _ _ hxs, few, fun a M ha hM isP hall => ?_⟩
    have sa := same_new ha (TSetO w a M)
    refine ⟨a, M, L, rfl, upd_same, (fun e he => ⟨(hM e he).1, (Stay.same sa).dp _ _ (hM e he).1.ok (hM e he).2⟩), isP, hall, fun ys S l hS hSl hys hl => ?_⟩
    have sl := same_new hl (.lst ys)
    refine ⟨l, ys, rfl, .inl ⟨SqL.of upd_same, fun t ht => ?_⟩⟩
    have st := same_new ht (.tup ys)
    have all := sm.trans (sa.trans (sl.trans st))
    refine ⟨.ref x, rfl, x, C, dx, _, rfl, all _ _ hx, c, n, by show 0 < 1000; decide, ?_⟩
    have hx' := all _ _ hx
    have stp := Stay.put (mut_ins hx') (.ins C dx [(("_rules" : Str), .ref t)])
    refine q _ S (fun b u nb e => ?_) hS hSl ⟨x, dx, t, ys, rfl, upd_same, stp.seq (SqT.of upd_same), (Stay.same st |>.trans stp).dpAll _ _ (okDs_rd S) ((Stay.same sl).dpAll _ _ (okDs_rd S) hys)⟩
    rw [upd_ne nb]
    exact all _ _ e
/-- a program made: where the class is called with the rules L -/
theorem made_ok {C : Addr} {H : Hp} {xs : List V} {L : List Rl} {Q : VK} {E : XK} (hx : DpAll K H xs (L.map rd)) (hL : ∀ r ∈ L, IsR r) (few : L.length < 76) (q : ∀ H' v S, Same H H' → Srt S L → S.length < 76 → PgAt K C H' v S → Q v H') :
    ∀ x dx, H x = none → H dx = none → dx ≠ x → spInit K C (.ref x :: xs) (upd (upd H dx (.own x)) x (.ins C dx [])) (fun v H2 => v = .non ∧ Q (.ref x) H2) E := fun x dx hx0 hd0 ne => by
  have s1 := same_new hd0 (.own x)
  have hx1 : (upd H dx (.own x)) x = none := by
    rw [upd_ne ne.symm]
    exact hx0
  have s2 := s1.trans (same_new hx1 (.ins C dx []))
  refine ⟨x, dx, xs, L, rfl, upd_same, (Stay.same s2).dpAll _ _ (okDs_rd L) hx, hL, few, fun H' S hb hS hl hg => ⟨rfl, q H' _ S (fun b u e => ?_) hS hl hg⟩⟩
  exact hb b u (ne_of_none e hx0) (s2 _ _ e)
/-- Program.of(cls, rules) -/
def spOf (K : PySem.W.Frag) (C : Addr) : Sp := fun vs H Q _ => ∃ (l : Addr) (xs : List V) (L : List Rl), vs = [.ref C, .ref l] ∧ (SqT K H l xs ∨ SqL K H l xs) ∧ DpAll K H xs (L.map rd) ∧ (∀ r ∈ L, IsR r) ∧ L.length < 76 ∧ ∀ H' v S, Same H H' → Srt S L → S.length < 76 → PgAt K C H' v S → Q v H'
theorem ok_of {C f1 : Addr} (F : Fun K "of" "Program.of" sOf f fd) (M : Mk K C f1) (G : FnR P w K mg base CX0 k f1 (spInit K C)) : FnOk P w K mg base CX0 (k + 2) f fd ["cls", "rules"] (spOf K C) := by
  refine F.ok scOf (fun vs H Q E h => ?_) (fun cdv A outer s H vs Q E hr h => ?_)
  · obtain ⟨l, xs, L, rfl, _⟩ := h
    rfl
  obtain ⟨l, xs, L, rfl, hS, hx, hL, few, q⟩ := h
  refine ⟨_, pss_one (ps_ret (pe_makeSL (i := 0) M G hr rfl (.inl rfl) pass0 (pv 1))), ?_⟩
  exact ⟨rfl, .ref l, rfl, l, xs, rfl, hS, made_ok hx hL few q⟩
/-- program.rules -/
def spRules (K : PySem.W.Frag) (C : Addr) : Sp := fun vs H Q _ => ∃ (v : V) (S : List Rl), vs = [v] ∧ PgAt K C H v S ∧ ∀ t ys, SqT K H t ys → DpAll K H ys (S.map rd) → Q (.ref t) H
theorem ok_rules {C : Addr} (F : Fun K "rules" "Program.rules" sRules f fd) (c : Cls K C) (n : NoAttr K C "_rules") : FnOk P w K mg base CX0 (k + 1) f fd ["self"] (spRules K C) := by
  refine F.ok scRules (fun vs H Q E h => ?_) (fun cdv A outer s H vs Q E hr h => ?_)
  · obtain ⟨v, S, rfl, _⟩ := h
    rfl
  obtain ⟨v, S, rfl, ⟨a, dx, t, ys, rfl, h1, h2, h3⟩, q⟩ := h
  refine ⟨_, pss_one (ps_ret (pe_fld (pv 0) rfl)), ?_⟩
  exact ⟨.ref a, rfl, a, C, dx, _, .ref t, rfl, h1, c, n, rfl, q t ys h2 h3⟩
end
end Rw
namespace Rw
open PySem PySem.Spec PyProof.Rows L2 PySem.Froz
/-! ### comprehensions of any depth: one level of their loops -/
def turnOf (tg : Expr) (ifs : List Expr) (pos : Pos) (it : Value) (env : Env) (bk : Sem PySem.Fin) (c : Code) : Sem PySem.Fin := do
  standAt pos
  let r ← pyNext it
  match r with
  | none => pure (PySem.Fin.done Flow.next)
  | some v => do
    letOwnedTupleGo tg it v
    assign tg env v
    let ok ← forIn ifs true fun c r => if r = true then do let ok ← PySem.isTrue c env (eval c env); pure (ForInStep.yield ok) else pure (ForInStep.yield r)
    if ok = true then bk else again c
def Le (σ σ' : L2.St) : Prop := σ.length = σ'.length ∧ ∀ (i : Nat) (v : V), σ[i]? = some (some v) → σ'[i]? = some (some v)
theorem Le.refl (σ : L2.St) : Le σ σ := ⟨rfl, fun _ _ e => e⟩
theorem Le.trans {a b c : L2.St} (h : Le a b) (g : Le b c) : Le a c := ⟨h.1.trans g.1, fun i v e => g.2 i v (h.2 i v e)⟩
theorem Le.wipe (σ : L2.St) (vs : List Nat) : Le (wipe σ vs) σ := ⟨wipe_length σ vs, fun i v e => (wipe_some e).1⟩
theorem Le.wipes {σ : L2.St} {vs vs1 : List Nat} (h : ∀ i ∈ vs1, i ∈ vs) : Le (L2.wipe σ vs) (L2.wipe σ vs1) := ⟨(wipe_length σ vs).trans (wipe_length σ vs1).symm, fun i v e => by
  obtain ⟨h1, h2⟩ := wipe_some e
  rw [wipe_out fun z => h2 (h i z)]
  exact h1⟩
theorem loop_lvl {Y : Cx} {elt : Expr} {gens : List Comprehension} {scope : Scope} {ep : Pos} {d : Nat} {tg : Expr} {ifs : List Expr} {pos : Pos} {it : Addr} {acc : Value} {bk : Sem PySem.Fin} {fp : List Addr} {tn : Nat → Heap → Prop} {J : It} {pins : List (Addr × Obj)} {σ0 : L2.St} {g : TG} {tt : TT} {B : L2.St → Hp → (Hp → Prop) → Prop} {C : L2.St → Prop} {R : Result → Shared → Prop} {N : Hp → Prop} {W : Nat → Nat → Hp → Prop}
    (hc : Y.calm = true) (hxe : ∀ e s, ¬ Y.xe e s) (hT : compTurn (.SetComp elt gens scope ep) d (.ref it) acc Y.env = turnOf tg ifs pos (.ref it) Y.env bk (.compLoop (.SetComp elt gens scope ep) d (.ref it) acc Y.env)) (T : Turn Y.prog Y.w Y.K tg J fp it tn) (hg : PG Y tg g) (ht : PTs Y ifs tt)
    (hb : ∀ pl s σ H (Nx : Hp → Prop) (Q : PySem.Fin → Shared → Prop) (E : Value → Shared → Prop), L2.Inv Y (pins ++ pl) σ H s → C σ → B σ H Nx → (∀ σ' H' s', L2.Inv Y (pins ++ pl) σ' H' s' → Le σ0 σ' → Nx H' → Q (.again (.compLoop (.SetComp elt gens scope ep) d (.ref it) acc Y.env)) s') → wpAny (model Y.prog Y.w) Y.A bk Q E s)
    (hC : ∀ σ, C σ → Le σ0 σ)
    (turn : ∀ i m H, W i m H → (J.stop i H ∧ N H) ∨ (J.go i H ∧ ∃ Nx : Hp → Prop, (∀ H', Nx H' → ∃ m', m' < m ∧ W (i + 1) m' H') ∧ ∀ x H', J.yld i H x H' → g x σ0 H' fun σ2 H2 => C σ2 ∧ tt σ2 H2 fun b H3 => if b = true then B σ2 H3 Nx else Nx H3))
    (hR : ∀ s' H', L2.Inv Y pins σ0 H' s' → N H' → R (.ok .next) s') :
    ∀ (n i : Nat) (H : Hp) (s : Shared), L2.Inv Y pins σ0 H s → tn i s.heap → (∀ b ∈ fp, FpOk Y pins H b) → W i n H → codeAny (model Y.prog Y.w) Y.A (.compLoop (.SetComp elt gens scope ep) d (.ref it) acc Y.env) R s := by
  intro n i H s I0 t0 f0 w0
  refine codeAny_loop (c := .compLoop (.SetComp elt gens scope ep) d (.ref it) acc Y.env) rfl (fun n s' => ∃ i H', L2.Inv Y pins σ0 H' s' ∧ tn i s'.heap ∧ (∀ b ∈ fp, FpOk Y pins H' b) ∧ W i n H') (fun n s5 ⟨i, H5, I5, st5, n5, w5⟩ => ?_) n ⟨i, H, I0, t0, f0, w0⟩
  show wpAny (model Y.prog Y.w) Y.A (Sem.onRaise (compTurn (.SetComp elt gens scope ep) d (.ref it) acc Y.env) fun x => do noteFrame x Y.env; theTreesLotGoes x) _ _ s5
  refine wpAny_noted ?_
  rw [hT]
  unfold turnOf
  refine wpAny_bind (wpAny_standAt (wpAny_bind ?_))
  rcases turn i n H5 w5 with ⟨stop, qq⟩ | ⟨go, Nx, hNx, step⟩
  · refine thnF (T.done Y rfl rfl rfl hc i pins s5 σ0 H5 (fun _ _ => False) I5 n5 st5 stop) fun r s6 ⟨hr, I6⟩ => ?_
    subst hr
    exact wpAny_pure (hR s6 H5 I6 qq)
  · refine thnF (T.item Y rfl rfl rfl hc i pins s5 σ0 H5 (fun _ _ => False) I5 n5 st5 go) fun r s6 ⟨u, hr, h6⟩ => ?_
    subst hr
    refine wpAny_bind (thnF h6 fun _ s7 ⟨x, H7, I7, r7, y7, st7, n7⟩ => ?_)
    have fp7 : ∀ b ∈ fp, FpOk Y pins H7 b := fun b hb => ⟨n7 b hb, (n5 b hb).2⟩
    have I7' := Inv.pinned I7 fp7 (T.obj (i + 1) s7.heap st7)
    refine wpAny_bind (wpAny_mono (hg.run (pins ++ pinsAt fp s7.heap) s7 σ0 H7 x u _ I7' r7 (step x H7 y7)) (fun _ s8 ⟨σ8, H8, I8, hw8, q8⟩ => ?_) fun e s z => (hxe e s z).elim)
    have fin : ∀ {s' : Shared} {H' : Hp} {σ' : L2.St}, L2.Inv Y (pins ++ pinsAt fp s7.heap) σ' H' s' → Le σ0 σ' → Nx H' → ∃ m, m < n ∧ ∃ i H', L2.Inv Y pins σ0 H' s' ∧ tn i s'.heap ∧ (∀ b ∈ fp, FpOk Y pins H' b) ∧ W i m H' := fun {s' H' σ'} I' le nx => by
      obtain ⟨m', hm, w'⟩ := hNx H' nx
      have pin' : ∀ b ∈ fp, ∀ o, s7.heap.get? b = some o → s'.heap.get? b = some o ∧ H' b = none := fun b hb o e => by
        have z := I'.pin (b, o) (List.mem_append_right Y.pn (List.mem_append_right pins (mem_pinsAt hb e)))
        exact ⟨z.1, z.2.1⟩
      refine ⟨m', hm, i + 1, H', Inv.weak (Inv.unpinned I') le.1 le.2, T.keep (i + 1) s7.heap s'.heap st7 fun b hb o e => (pin' b hb o e).1, fun b hb => ?_, w'⟩
      obtain ⟨o, e, _⟩ := T.obj (i + 1) s7.heap st7 b hb
      exact ⟨(pin' b hb o e).2, (n5 b hb).2⟩
    refine wpAny_bind (wpAny_mono (ht.run _ s8 σ8 H8 _ I8 q8) (fun b s9 ⟨H9, I9, q9⟩ => ?_) fun e s z => (hxe e s z).elim)
    cases b with
    | false =>
      have q9' : Nx H9 := q9
      exact wpAny_pure ⟨rfl, fin I9 (hC σ8 hw8) q9'⟩
    | true =>
      have q9' : B σ8 H9 Nx := q9
      exact hb (pinsAt fp s7.heap) s9 σ8 H9 Nx _ _ I9 hw8 q9' fun σ' H' s' I' le nx => ⟨rfl, fin I' le nx⟩
/-- the start of a level -/
theorem start_lvl {P : Program} {w : World} {A : Around} {R : Result → Shared → Prop} {s : Shared} {elt : Expr} {gens : List Comprehension} {scope : Scope} {ep : Pos} {d : Nat} {t i : Expr} {ifs : List Expr} {it acc : Value} {env : Env} (hcl : gens[d]? = some ⟨t, i, ifs, 0⟩)
    (h0 : codeAny (model P w) A (.compLoop (.SetComp elt gens scope ep) d it acc env) R s) (h : wpAny (model P w) A (pyIter it) (fun it' s' => codeAny (model P w) A (.compLoop (.SetComp elt gens scope ep) d it' acc env) R s') (notedBy (model P w) A env fun x s' => R (.error x) s') s) :
    codeAny (model P w) A (.compStart (.SetComp elt gens scope ep) d it acc env) R s := by
  refine codeAny_of_tree ?_
  show wpAny (model P w) A (Sem.onRaise (compStart (.SetComp elt gens scope ep) d it acc env) fun x => do noteFrame x env; standAt theWindowsPlace) _ _ s
  refine wpAny_notedAt ?_
  unfold compStart
  rw [show (clausesOf (.SetComp elt gens scope ep))[d]? = some ⟨t, i, ifs, 0⟩ from hcl]
  show wpAny (model P w) A (ask >>= _) _ _ s
  refine wpAny_bind (wpAny_askSetting ?_)
  split
  · exact wpAny_pure ⟨rfl, h0⟩
  · refine wpAny_bind (wpAny_rule ?_)
    refine wpAny_bind (wpAny_standAt (wpAny_bind (wpAny_mono h (fun it' s' h' => wpAny_pure ⟨rfl, h'⟩) fun _ _ z => z)))
/-! ### a set of texts, one more put in -/
theorem addX_ok {X : Cx} {pins : List (Addr × Obj)} {σ : L2.St} {H : Hp} {s : Shared} {E : Value → Shared → Prop} {D : Addr} {ms : List Str} {z : Str} {u : Tok} {Q : Value → Shared → Prop} (I : L2.Inv X pins σ H s) (hD : H D = some (XSetO X.prog X.w D ms)) (room : ms.length + 1 < scanBound)
    (h : ∀ s' ms', ms'.Nodup → (∀ y, y ∈ ms' ↔ y = z ∨ y ∈ ms) → ms'.length ≤ ms.length + 1 → L2.Inv X pins σ (upd H D (XSetO X.prog X.w D ms')) s' → Q .none s') : wpAny (model X.prog X.w) X.A (call (.builtin "set.add") [.ref D, .str z u]) Q E s := by
  obtain ⟨es, ep, t, R⟩ := (I.hok D _ hD).1
  refine wpAny_call_entry PySem.F.slot_set_add ⟨_, R.ob, rfl⟩ PySem.F.entry_set_add ?_ (PySem.F.args_set_add_2 _ _)
  unfold Builtin.«set.add»
  show wpAny _ _ (Builtin.Frozenset.oneOther "add" _ >>= _) _ _ _
  unfold Builtin.Frozenset.oneOther
  refine wpAny_bind (wpAny_bind (wpAny_pure (wpAny_bind (wpAny_pure (wpAny_pure ?_)))))
  unfold setAdd
  refine wpAny_bind (wpAny_holding (wpAny_bind ((strKind X.prog X.w).pyHash (k := z) (is_str _ _) ?_)))
  refine put_text (s := { s with toks := s.toks + 1 }) R room fun b h' ms' es' ep' t' sb R' hm hl' => ?_
  refine wpAny_pure ⟨.none, rfl, h _ ms' R'.nd hm hl' ?_⟩
  exact Inv.write (I.tok (s.toks + 1)) (by rw [hD]; exact True.intro) (Or.inl rfl) (fun b u hb hu => (sb.2 b hb).trans hu) ⟨_, R'.ob⟩ ⟨⟨es', ep', t', R'⟩, ⟨_, R'.ob⟩, fun h1 h2 ⟨a1, a2, a3, a4⟩ kk => ⟨a1, a2, a3, a4.moved kk⟩⟩
/-! ### {e for x in a for y in b for z in c}, of texts -/
def lvlR (wi : TI) (g : TG) (vs : List Nat) (B : L2.St → Hp → (Hp → Prop) → Prop) : L2.St → Hp → (Hp → Prop) → Prop := fun σ H N => wi σ H fun J H1 => ∃ W : Nat → Nat → Hp → Prop, (∃ m, W 0 m H1) ∧
  ∀ i m H, W i m H → (J.stop i H ∧ N H) ∨ (J.go i H ∧ ∃ Nx : Hp → Prop, (∀ H', Nx H' → ∃ m', m' < m ∧ W (i + 1) m' H') ∧ ∀ x H', J.yld i H x H' → g x (wipe σ vs) H' fun σ2 H2 => wipe σ2 vs = wipe σ vs ∧ B σ2 H2 Nx)
def lastR (P : Program) (w : World) (D : Addr) (te : TE) : L2.St → Hp → (Hp → Prop) → Prop := fun σ H N => te σ H fun y H1 => ∃ z ms, y = .str z ∧ H1 D = some (XSetO P w D ms) ∧ ms.length + 1 < scanBound ∧ ∀ ms', ms'.Nodup → (∀ u, u ∈ ms' ↔ u = z ∨ u ∈ ms) → ms'.length ≤ ms.length + 1 → N (upd H1 D (XSetO P w D ms'))
def tSc3 (P : Program) (w : World) (wi0 wi1 wi2 : TI) (g0 g1 g2 : TG) (te : TE) (vs vs1 vs2 : List Nat) : TE := fun σ H Q => wi0 σ H fun J H1 => ∀ D, H1 D = none → ∃ W : Nat → Nat → Hp → Prop, (∃ m, W 0 m (upd H1 D (XSetO P w D []))) ∧
  ∀ i m H, W i m H → (J.stop i H ∧ Q (.ref D) H) ∨ (J.go i H ∧ ∃ Nx : Hp → Prop, (∀ H', Nx H' → ∃ m', m' < m ∧ W (i + 1) m' H') ∧ ∀ x H', J.yld i H x H' → g0 x (wipe σ vs) H' fun σ2 H2 => wipe σ2 vs = wipe σ vs ∧ lvlR wi1 g1 vs1 (lvlR wi2 g2 vs2 (lastR P w D te)) σ2 H2 Nx)
section
variable {elt t0 i0 t1 i1 t2 i2 : Expr} {scope : Scope} {ep : Pos}
abbrev gens3 (t0 i0 t1 i1 t2 i2 : Expr) : List Comprehension := [⟨t0, i0, [], 0⟩, ⟨t1, i1, [], 0⟩, ⟨t2, i2, [], 0⟩]
def bkIn (i1 : Expr) (e : Expr) (d : Nat) (acc : Value) (env : Env) (c : Code) : Sem PySem.Fin := do
  let x ← eval i1 env
  standAt i1.pos
  let x ← foldedSetIterable i1 env x
  let it ← holding [x] (pyIter x)
  let _ ← runOwn (.compStart e (d + 1) it acc env) env
  again c
def bkLast (elt : Expr) (acc : Value) (env : Env) (c : Code) : Sem PySem.Fin := do
  let _ ← (do let v ← eval elt env; standAt elt.pos; let _ ← call (.builtin "set.add") [acc, v]; pure () : Sem Unit)
  again c
theorem turn3_0 (it acc : Value) (env : Env) : compTurn (.SetComp elt (gens3 t0 i0 t1 i1 t2 i2) scope ep) 0 it acc env = turnOf t0 [] i0.pos it env (bkIn i1 (.SetComp elt (gens3 t0 i0 t1 i1 t2 i2) scope ep) 0 acc env (.compLoop (.SetComp elt (gens3 t0 i0 t1 i1 t2 i2) scope ep) 0 it acc env)) (.compLoop (.SetComp elt (gens3 t0 i0 t1 i1 t2 i2) scope ep) 0 it acc env) := rfl
theorem turn3_1 (it acc : Value) (env : Env) : compTurn (.SetComp elt (gens3 t0 i0 t1 i1 t2 i2) scope ep) 1 it acc env = turnOf t1 [] i1.pos it env (bkIn i2 (.SetComp elt (gens3 t0 i0 t1 i1 t2 i2) scope ep) 1 acc env (.compLoop (.SetComp elt (gens3 t0 i0 t1 i1 t2 i2) scope ep) 1 it acc env)) (.compLoop (.SetComp elt (gens3 t0 i0 t1 i1 t2 i2) scope ep) 1 it acc env) := rfl
theorem turn3_2 (it acc : Value) (env : Env) : compTurn (.SetComp elt (gens3 t0 i0 t1 i1 t2 i2) scope ep) 2 it acc env = turnOf t2 [] i2.pos it env (bkLast elt acc env (.compLoop (.SetComp elt (gens3 t0 i0 t1 i1 t2 i2) scope ep) 2 it acc env)) (.compLoop (.SetComp elt (gens3 t0 i0 t1 i1 t2 i2) scope ep) 2 it acc env) := rfl
theorem bk_step {Y : Cx} {elt : Expr} {gens : List Comprehension} {scope : Scope} {ep : Pos} {d : Nat} {tg iter : Expr} {acc : Value} {wi : TI} {g : TG} {vs : List Nat} {B : L2.St → Hp → (Hp → Prop) → Prop} {bkf : Value → Sem PySem.Fin} {D : L2.St → L2.St → Prop}
    (hc : Y.calm = true) (hxe : ∀ e s, ¬ Y.xe e s) (hgen : gens[d + 1]? = some ⟨tg, iter, [], 0⟩) (hs : ∀ x, foldedSetIterable iter Y.env x = pure x) (hi : PI Y tg iter wi) (hg : PG Y tg g)
    (hT : ∀ it, compTurn (.SetComp elt gens scope ep) (d + 1) it acc Y.env = turnOf tg [] iter.pos it Y.env (bkf it) (.compLoop (.SetComp elt gens scope ep) (d + 1) it acc Y.env))
    (hb : ∀ it pl s σ H (Nx : Hp → Prop) (Q : PySem.Fin → Shared → Prop) (E : Value → Shared → Prop), L2.Inv Y pl σ H s → B σ H Nx → (∀ σ' H' s', L2.Inv Y pl σ' H' s' → D σ σ' → Nx H' → Q (.again (.compLoop (.SetComp elt gens scope ep) (d + 1) it acc Y.env)) s') → wpAny (model Y.prog Y.w) Y.A (bkf it) Q E s)
    (hD : ∀ σ σ2 σ', wipe σ2 vs = wipe σ vs → D σ2 σ' → Le (wipe σ vs) σ') :
    ∀ pl s σ H (Nx : Hp → Prop) (Q : PySem.Fin → Shared → Prop) (E : Value → Shared → Prop) (c : Code), L2.Inv Y pl σ H s → lvlR wi g vs B σ H Nx → (∀ H' s', L2.Inv Y pl (wipe σ vs) H' s' → Nx H' → Q (.again c) s') → wpAny (model Y.prog Y.w) Y.A (bkIn iter (.SetComp elt gens scope ep) d acc Y.env c) Q E s := by
  intro pl s σ H Nx Q E c I hL hQ
  unfold bkIn
  refine wpAny_bind (wpAny_mono (hi.run pl s σ H _ I hL) (fun v s1 h1 => ?_) (fun e s z => (hxe e s z).elim))
  refine wpAny_bind (wpAny_standAt ?_)
  rw [hs v]
  refine wpAny_bind (wpAny_pure ?_)
  refine wpAny_bind (wpAny_holding (wpAny_mono h1 (fun itv s2 ⟨it, fp, tn, J, H2, e, I2, T, st2, f2, W, ⟨m, w0⟩, turn⟩ => ?_) (fun e s z => (hxe e s z).elim)))
  subst e
  have I2' : L2.Inv Y pl (wipe σ vs) H2 s2 := Inv.weak I2 (Le.wipe σ vs).1 (Le.wipe σ vs).2
  have loop : ∀ R : Result → Shared → Prop, (∀ s' H', L2.Inv Y pl (wipe σ vs) H' s' → Nx H' → R (.ok .next) s') → codeAny (model Y.prog Y.w) Y.A (.compLoop (.SetComp elt gens scope ep) (d + 1) (.ref it) acc Y.env) R s2 := fun R hR =>
    loop_lvl (Y := Y) (σ0 := wipe σ vs) (C := fun σ2 => wipe σ2 vs = wipe σ vs) (B := B) (tt := tYes) (W := W) (N := Nx) hc hxe (hT (.ref it)) T hg pts_nil
      (fun pl2 s σ2 H Nx2 Q E I hC hB hq => hb (.ref it) (pl ++ pl2) s σ2 H Nx2 Q E I hB fun σ' H' s' I' hd nx => hq σ' H' s' I' (hD σ σ2 σ' hC hd) nx)
      (fun σ2 hC => by have z := Le.wipe σ2 vs; rw [hC] at z; exact z) turn hR m 0 H2 s2 I2' st2 f2 w0
  refine wpAny_bind (wpAny_runOwn (h := none) (start_lvl hgen ?_ ?_))
  · exact loop _ fun s' H' I' nx => wpAny_pure (hQ H' s' I' nx)
  · exact T.self _ 0 s2 _ _ st2 (loop _ fun s' H' I' nx => wpAny_pure (hQ H' s' I' nx))
theorem last_step {Y : Cx} {elt : Expr} {D : Addr} {te : TE} (hxe : ∀ e s, ¬ Y.xe e s) (he : PE Y elt te) :
    ∀ pl s σ H (Nx : Hp → Prop) (Q : PySem.Fin → Shared → Prop) (E : Value → Shared → Prop) (c : Code), L2.Inv Y pl σ H s → lastR Y.prog Y.w D te σ H Nx → (∀ H' s', L2.Inv Y pl σ H' s' → Nx H' → Q (.again c) s') → wpAny (model Y.prog Y.w) Y.A (bkLast elt (.ref D) Y.env c) Q E s := by
  intro pl s σ H Nx Q E c I hL hQ
  unfold bkLast
  refine wpAny_bind (wpAny_bind (wpAny_mono (he.run pl s σ H _ I hL) (fun v s1 ⟨y, H1, I1, ry, z, ms, ey, hD, room, next⟩ => ?_) (fun e s z => (hxe e s z).elim)))
  subst ey
  obtain ⟨u, rfl⟩ := ry
  exact wpAny_bind (wpAny_standAt (wpAny_bind (addX_ok I1 hD room fun s' ms' nd hm hl I' => wpAny_pure (wpAny_pure (hQ _ s' I' (next ms' nd hm hl))))))
/-- a set comprehension of three clauses, of texts -/
theorem pe_sc3 {X : Cx} {own : List (Str × Nat)} {wi0 wi1 wi2 : TI} {g0 g1 g2 : TG} {te : TE} {vs1 vs2 : List Nat} (hc : X.calm = true) (hN : X.N.Nodup) (hi : PI X t0 i0 wi0) (ok : BlkOk X.N X.env.scope scope own) (hv1 : ∀ i ∈ vs1, i ∈ own.map (·.2)) (hv2 : ∀ i ∈ vs2, i ∈ vs1)
    (hg0 : ∀ s H C cl fp, PG (X.blk s H scope (compEnvC scope cl C X.env) fp) t0 g0) (hi1 : ∀ s H C cl fp, PI (X.blk s H scope (compEnvC scope cl C X.env) fp) t1 i1 wi1) (hg1 : ∀ s H C cl fp, PG (X.blk s H scope (compEnvC scope cl C X.env) fp) t1 g1)
    (hi2 : ∀ s H C cl fp, PI (X.blk s H scope (compEnvC scope cl C X.env) fp) t2 i2 wi2) (hg2 : ∀ s H C cl fp, PG (X.blk s H scope (compEnvC scope cl C X.env) fp) t2 g2) (he : ∀ s H C cl fp, PE (X.blk s H scope (compEnvC scope cl C X.env) fp) elt te)
    (hs : ∀ x, foldedSetIterable i0 X.env x = pure x := by intro x; rfl) (hs1 : ∀ env x, foldedSetIterable i1 env x = pure x := by intro env x; rfl) (hs2 : ∀ env x, foldedSetIterable i2 env x = pure x := by intro env x; rfl) :
    PE X (.SetComp elt (gens3 t0 i0 t1 i1 t2 i2) scope ep) (tSc3 X.prog X.w wi0 wi1 wi2 g0 g1 g2 te (own.map (·.2)) vs1 vs2) := by
  refine ⟨fun pins s σ H Q I h => ?_⟩
  rw [PpSet.eval_SetComp]
  have hfree : ∀ y ∈ scope.names, y.2 = NameKind.free → ∃ c, X.env.cells.lookup y.1 = some c := fun y hy e => (ok.free y hy e).elim (fun k => I.ok.has y.1 (.inl k)) fun k => I.ok.has y.1 (.inr k)
  refine wpAny_comprehension_free (g := ⟨t0, i0, [], 0⟩) (gs := [⟨t1, i1, [], 0⟩, ⟨t2, i2, [], 0⟩]) rfl hs (closure_ok hfree) ok.kind (fun y hy e => by rw [ok.uniq y hy, e]) ?_
  refine thn (hi.run pins s σ H _ I h) fun xv s1 hx => thn hx fun itv s2 ⟨it, fp, tn, J, H2, e, I2, T, st2, f2, q⟩ => ?_
  subst e
  refine PpSet.newSet_ok ?_
  refine newEnv_comp ?_
  have hDn := I2.hok.fresh (Nat.le_refl _)
  obtain ⟨W, ⟨m0, w0⟩, turn⟩ := q s2.heap.objs.size hDn
  have ho : (s2.heap.push (newSetObj X.w)).get? s2.heap.objs.size = some (newSetObj X.w) := Heap.get?_push_size s2.heap rfl
  have R0 : XSet X.prog X.w (s2.heap.push (newSetObj X.w)) s2.heap.objs.size [] #[] 0 (.fresh 0 0 (!X.w.params.followText "set-order")) := ⟨ho, TxOk.nil rfl, List.nodup_nil, List.Pairwise.nil, led_new X.w⟩
  have new : ObjOk X.prog X.w (upd H2 s2.heap.objs.size (XSetO X.prog X.w s2.heap.objs.size [])) (s2.heap.push (newSetObj X.w)) s2.heap.objs.size (XSetO X.prog X.w s2.heap.objs.size []) :=
    ⟨⟨_, _, _, R0⟩, ⟨_, ho⟩, fun h1 h2 ⟨a1, a2, a3, a4⟩ kk => ⟨a1, a2, a3, a4.moved kk⟩⟩
  have I3 : L2.Inv X pins σ (upd H2 s2.heap.objs.size (XSetO X.prog X.w s2.heap.objs.size [])) { s2 with heap := s2.heap.push (newSetObj X.w) } := I2.laid (t' := s2.toks) (fun b o e => Heap.get?_push_of_some _ e) (Nat.le_refl _) new
  have sz : ∀ b ∈ fp, b < s2.heap.objs.size := fun b hb => by
    obtain ⟨o, e, _⟩ := T.obj 0 s2.heap st2 b hb
    exact Heap.lt_size e
  have f3 : ∀ b ∈ fp, FpOk X pins (upd H2 s2.heap.objs.size (XSetO X.prog X.w s2.heap.objs.size [])) b ∧ b < (s2.heap.push (newSetObj X.w)).objs.size := fun b hb => by
    have hlt := sz b hb
    refine ⟨⟨?_, (f2 b hb).2⟩, ?_⟩
    · rw [upd_ne (Nat.ne_of_lt hlt)]
      exact (f2 b hb).1
    · rw [Heap.size_push]
      exact Nat.lt_succ_of_lt hlt
  have I4 := block_start I3 ok hN f3
  have st4 : tn 0 (pushCells ((s2.heap.push (newSetObj X.w)).push { cls := .type "dict", data := .dict #[] }) scope.names) := T.keep 0 s2.heap _ st2 fun b hb o e => pushCells_keeps scope.names _ b o (Heap.get?_push_of_some _ (Heap.get?_push_of_some _ e))
  let s3 : Shared := { s2 with heap := s2.heap.push (newSetObj X.w) }
  let H3 : Hp := upd H2 s2.heap.objs.size (XSetO X.prog X.w s2.heap.objs.size [])
  let cl := cellsFrom (s3.heap.objs.size + 1) scope.names (cloFrom X.env.cells scope.names [])
  let Y : Cx := X.blk s3 H3 scope (compEnvC scope cl s3.heap.objs.size X.env) fp
  have hxe : ∀ e s, ¬ Y.xe e s := fun _ _ z => z
  have stat : ∀ {σ' H' s'}, L2.Inv Y [] σ' H' s' → (∀ b ∈ fp, H' b = none) → ∀ b ∈ fp, FpOk Y [] H' b := fun {σ' H' s'} I' hn b hb => ⟨hn b hb, (I'.ok.exf b hb).1, I'.ok.exfs b hb, .inl hb, fun x c e => (I'.ok.exf b hb).2 x c e, fun p hp => by
    have z : p ∈ ([] : List (Addr × Obj)) := hp
    exact nomatch z⟩
  have last := last_step (Y := Y) (D := s2.heap.objs.size) hxe (he s3 H3 s3.heap.objs.size cl fp)
  have mid := bk_step (Y := Y) (scope := scope) (ep := ep) (d := 1) (acc := .ref s2.heap.objs.size) (vs := vs2) (D := fun σ σ' => σ' = σ) hc hxe (gens := gens3 t0 i0 t1 i1 t2 i2) rfl (hs2 _) (hi2 s3 H3 s3.heap.objs.size cl fp) (hg2 s3 H3 s3.heap.objs.size cl fp) (fun it => turn3_2 it _ _)
    (fun it pl s σ H Nx Q E I hB hq => last pl s σ H Nx Q E _ I hB fun H' s' I' nx => hq σ H' s' I' rfl nx) (fun σ σ2 σ' hw hd => by subst hd; rw [← hw]; exact Le.wipe _ _)
  have top := bk_step (Y := Y) (scope := scope) (ep := ep) (d := 0) (acc := .ref s2.heap.objs.size) (vs := vs1) (D := fun σ σ' => σ' = wipe σ vs2) hc hxe (gens := gens3 t0 i0 t1 i1 t2 i2) rfl (hs1 _) (hi1 s3 H3 s3.heap.objs.size cl fp) (hg1 s3 H3 s3.heap.objs.size cl fp) (fun it => turn3_1 it _ _)
    (fun it pl s σ H Nx Q E I hB hq => mid pl s σ H Nx Q E _ I hB fun H' s' I' nx => hq _ H' s' I' rfl nx) (fun σ σ2 σ' hw hd => by subst hd; rw [← hw]; exact Le.wipes hv2)
  have loop : ∀ R : Result → Shared → Prop, (∀ s' H', L2.Inv Y [] (wipe σ (own.map (·.2))) H' s' → Q (.ref s2.heap.objs.size) H' → R (.ok .next) s') → codeAny (model Y.prog Y.w) Y.A (.compLoop (.SetComp elt (gens3 t0 i0 t1 i1 t2 i2) scope ep) 0 (.ref it) (.ref s2.heap.objs.size) Y.env) R _ := fun R hR =>
    loop_lvl (Y := Y) (σ0 := wipe σ (own.map (·.2))) (pins := []) (C := fun σ2 => wipe σ2 (own.map (·.2)) = wipe σ (own.map (·.2))) (B := lvlR wi1 g1 vs1 (lvlR wi2 g2 vs2 (lastR Y.prog Y.w s2.heap.objs.size te))) (tt := tYes) (W := W) (N := fun H' => Q (.ref s2.heap.objs.size) H') hc hxe (turn3_0 _ _ _) T (hg0 s3 H3 s3.heap.objs.size cl fp) pts_nil
      (fun pl2 s σ2 H Nx2 Q E I hC hB hq => top pl2 s σ2 H Nx2 Q E _ I hB fun H' s' I' nx => hq _ H' s' I' (by rw [← hC]; exact Le.wipes hv1) nx)
      (fun σ2 hC => by have z := Le.wipe σ2 (own.map (·.2)); rw [hC] at z; exact z) turn hR m0 0 H3 _ I4 st4 (stat I4 fun b hb => (f3 b hb).1.1) w0
  have fin : ∀ s6 H5, L2.Inv Y [] (wipe σ (own.map (·.2))) H5 s6 → Q (.ref s2.heap.objs.size) H5 → compPost (model X.prog X.w) X.A X.xe none (EP X pins σ Q) (.ref s2.heap.objs.size) s3.heap.objs.size (.ok .next) s6 := fun s6 H5 I6 qq => by
    have I7 : L2.Inv X pins σ H5 s6 := Inv.call' I3 I6.os I6.base I6.hok I6.bare fun b hb => ⟨(f3 b hb).1.2.2.2.1, (f3 b hb).1.2.1, (f3 b hb).1.2.2.2.2.1, (f3 b hb).1.2.2.2.2.2⟩
    have nC : H5 s3.heap.objs.size = none := I6.free
    obtain ⟨m, hn, _⟩ := I6.loc
    obtain ⟨k0, k1, k2, k3, k4, k5⟩ := Inv.fpOk I3 (Nat.le_refl _) nC
    exact ⟨m, hn, fun h'' sb => ⟨.ref s2.heap.objs.size, H5, Inv.turned I7 (fun b o hb e => (sb.2 b hb).trans e) k0 k1 k3 k4 k5, rfl, qq⟩⟩
  refine start_lvl (d := 0) (t := t0) (i := i0) (ifs := []) rfl ?_ ?_
  · exact loop _ fin
  · exact T.self _ 0 _ _ _ st4 (loop _ fin)
end
end Rw
namespace Rw
open PySem PySem.Spec PyProof.Rows L2
/-! ### Program.names -/
theorem scNames : FnScope ["self", "row", "part", "name"] ["self"] (defScope sNames) := ⟨rfl, rfl, rfl, by decide +kernel, rfl, by decide +kernel, by decide +kernel⟩
/-- a walk over a tuple, the heap followed, as one level of a comprehension reads it -/
theorem lvl_tup {K : PySem.W.Frag} {a : Addr} {xs : List V} {H0 : Hp} {Qd : Hp → Prop} {B : V → Hp → (Hp → Prop) → Prop} (Pv : Nat → Hp → Prop) (h0 : Pv 0 H0) (hl : ∀ i H, i ≤ xs.length → Pv i H → SqT K H a xs) (hs : ∀ i x H, xs[i]? = some x → Pv i H → B x H (Pv (i + 1))) (hd : ∀ H, Pv xs.length H → Qd H) :
    ∃ W : Nat → Nat → Hp → Prop, (∃ m, W 0 m H0) ∧ ∀ i m H, W i m H → ((Itt K a).stop i H ∧ Qd H) ∨ ((Itt K a).go i H ∧ ∃ Nx : Hp → Prop, (∀ H', Nx H' → ∃ m', m' < m ∧ W (i + 1) m' H') ∧ ∀ x H', (Itt K a).yld i H x H' → B x H' Nx) := by
  refine ⟨fun i m H => m = xs.length - i ∧ i ≤ xs.length ∧ Pv i H, ⟨xs.length, by simp, Nat.zero_le _, h0⟩, ?_⟩
  rintro i m H ⟨rfl, hi, p⟩
  have hS := hl i H hi p
  by_cases hlt : i < xs.length
  · refine .inr ⟨⟨xs, xs[i], hS, List.getElem?_eq_getElem hlt⟩, Pv (i + 1), fun H' p' => ⟨xs.length - (i + 1), by omega, rfl, hlt, p'⟩, fun y H' yy => ?_⟩
    obtain ⟨rfl, fv⟩ := yy
    exact hs i y _ (fv xs hS) p
  · have e : i = xs.length := by omega
    subst e
    exact .inl ⟨⟨xs, hS, Nat.le_refl _⟩, hd H p⟩
/-- the names of a rule, of rules -/
def ownN (r : Rl) : W := (parts r).flatMap id
def namesL (S : List Rl) : W := S.flatMap ownN
theorem ownN_len {r : Rl} (h : IsR r) : (ownN r).length ≤ 160 := by
  unfold ownN parts
  simp only [List.flatMap_cons, List.flatMap_nil, List.length_append, List.length_nil, id]
  have := h.h.few
  have := h.d.few
  have := h.n.few
  have := h.b.few
  omega
section
variable {P : Program} {w : World} {K : PySem.W.Frag} {mg : Str → Option Value} {base : Heap} {f : Addr} {fd : FuncData} {k : Nat}
/-- the sorted names of a program whose names are among few -/
def spNames (K : PySem.W.Frag) (C : Addr) : Sp := fun vs H Q _ => ∃ (v : V) (S : List Rl) (bd : W), vs = [v] ∧ PgAt K C H v S ∧ (∀ r ∈ S, IsR r) ∧ (∀ z ∈ namesL S, z ∈ bd) ∧ bd.length ≤ 40 ∧ ∀ H' t (ns : W), Same H H' → SqT K H' t (ns.map V.str) → IsW ns → (∀ z, z ∈ ns ↔ z ∈ namesL S) → Q (.ref t) H'
theorem ok_names {C : Addr} (F : Fun K "names" "Program.names" sNames f fd) (T : Bl mg) (c : Cls K C) (n : NoAttr K C "_rules") : FnOk P w K mg base CX0 (k + 1) f fd ["self"] (spNames K C) := by
  refine F.ok scNames (fun vs H Q E h => ?_) (fun cdv A outer s H vs Q E hr h => ?_)
  · obtain ⟨v, S, bd, rfl, _⟩ := h
    rfl
  obtain ⟨v, S, bd, rfl, ⟨a, dx, t, ys, rfl, h1, h2, h3⟩, hI, hbd, b40, q⟩ := h
  refine ⟨_, pss_one (ps_ret (pe_callTy call_tuple_of (by rfl) T.tuple (by decide +kernel) (pa_cons (pe_callB (cr_sortX rfl hr.units) (by rfl) T.sorted (by decide +kernel) (pa_cons
    (pe_sc3 (own := [("row", 1), ("part", 2), ("name", 3)]) (vs1 := [2, 3]) (vs2 := [3]) (g0 := gName 1) (g1 := gName 2) (g2 := gName 3) (wi1 := iTup K (tVar 1)) (wi2 := iTup K (tVar 2)) (te := tVar 3) rfl scNames.nd (pi_tup (pe_fld (pv 0) rfl)) (blkOk_by (N := ["self", "row", "part", "name"]) (sc := defScope sNames) (by decide +kernel)) (by decide) (by decide)
      (fun _ _ _ _ _ => pg_name (i := 1) scNames.nd rfl (Or.inl rfl)) (fun _ _ _ _ _ => pi_tup (pv 1)) (fun _ _ _ _ _ => pg_name (i := 2) scNames.nd rfl (Or.inl rfl)) (fun _ _ _ _ _ => pi_tup (pv 2)) (fun _ _ _ _ _ => pg_name (i := 3) scNames.nd rfl (Or.inl rfl)) (fun _ _ _ _ _ => pv 3)) pa_nil)) pa_nil))), ?_⟩
  have yl : ys.length = S.length := by rw [dpAll_len h3, List.length_map]
  have few : ∀ ms : W, ms.Nodup → (∀ z ∈ ms, z ∈ bd) → ms.length ≤ 40 := fun ms nd h => Nat.le_trans (nodup_len_le nd h) b40
  have sb : scanBound = 4096 := rfl
  refine ⟨.ref a, rfl, a, C, dx, _, .ref t, rfl, h1, c, n, rfl, t, rfl, ⟨_, h2⟩, fun D hD => ?_⟩
  refine lvl_tup (xs := ys) (fun i H1 => Same H H1 ∧ ∃ ms : W, H1 D = some (XSetO P w D ms) ∧ ms.Nodup ∧ ∀ z, z ∈ ms ↔ z ∈ namesL (S.take i)) ⟨same_new hD _, [], upd_same, List.nodup_nil, fun z => Iff.rfl⟩ (fun i H1 _ hI => same_tup hI.1 h2) (fun i x H1 hx hI1 => ?_) (fun H1 hI1 => ?_)
  · obtain ⟨sm, ms, hm, nd, mem⟩ := hI1
    obtain ⟨dd, hdd, hxd⟩ := dpAll_at' h3 hx
    obtain ⟨r, hr0, rfl⟩ := map_at hdd
    have hrS := List.mem_of_getElem? hr0
    have hr' := hI r hrS
    have own_bd : ∀ z ∈ ownN r, z ∈ bd := fun z hz => hbd z (List.mem_flatMap.mpr ⟨r, hrS, hz⟩)
    have top_bd : ∀ z ∈ namesL (S.take i), z ∈ bd := fun z hz => by
      obtain ⟨q, hq, hz⟩ := List.mem_flatMap.mp hz
      exact hbd z (List.mem_flatMap.mpr ⟨q, List.mem_of_mem_take hq, hz⟩)
    have step : namesL (S.take (i + 1)) = namesL (S.take i) ++ ownN r := by
      unfold namesL
      rw [take_snoc hr0, List.flatMap_append]
      simp
    unfold rd at hxd
    cases hxd with
    | @tup b xs _ hT hxs =>
      have xl : xs.length = (parts r).length := by rw [dpAll_len hxs, List.length_map]
      refine ⟨rfl, .ref b, rfl, b, rfl, ⟨_, same_tup sm hT⟩, ?_⟩
      refine lvl_tup (xs := xs) (fun j H2 => Same H H2 ∧ ∃ ms : W, H2 D = some (XSetO P w D ms) ∧ ms.Nodup ∧ ∀ z, z ∈ ms ↔ z ∈ namesL (S.take i) ∨ z ∈ ((parts r).take j).flatMap id) ⟨sm, ms, hm, nd, fun z => by rw [mem z]; simp⟩ (fun j H2 _ hI => same_tup hI.1 hT) (fun j y H2 hy hI2 => ?_) (fun H2 hI2 => ?_)
      · obtain ⟨sm2, ms2, hm2, nd2, mem2⟩ := hI2
        obtain ⟨d, hdi, hyd⟩ := dpAll_at' hxs hy
        obtain ⟨p, hp, rfl⟩ := map_at hdi
        obtain ⟨u, rfl, hU⟩ := of_wd hyd
        have in_own : ∀ z ∈ ((parts r).take j).flatMap id, z ∈ ownN r := fun z hz => by
          obtain ⟨q, hq, hz⟩ := List.mem_flatMap.mp hz
          exact List.mem_flatMap.mpr ⟨q, List.mem_of_mem_take hq, hz⟩
        have p_own : ∀ z ∈ p, z ∈ ownN r := fun z hz => List.mem_flatMap.mpr ⟨p, List.mem_of_getElem? hp, hz⟩
        refine ⟨rfl, .ref u, rfl, u, rfl, ⟨_, same_tup sm2 hU⟩, ?_⟩
        refine lvl_tup (xs := p.map V.str) (fun l H3 => Same H H3 ∧ ∃ ms : W, H3 D = some (XSetO P w D ms) ∧ ms.Nodup ∧ ∀ z, z ∈ ms ↔ (z ∈ namesL (S.take i) ∨ z ∈ ((parts r).take j).flatMap id) ∨ z ∈ p.take l) ⟨sm2, ms2, hm2, nd2, fun z => by rw [mem2 z]; simp⟩ (fun l H3 _ hI => same_tup hI.1 hU) (fun l v H3 hv hI3 => ?_) (fun H3 hI3 => ?_)
        · obtain ⟨sm3, ms3, hm3, nd3, mem3⟩ := hI3
          obtain ⟨z, hz, rfl⟩ := map_at hv
          have f3 := few ms3 nd3 fun z hz => by
            rcases (mem3 z).mp hz with (h | h) | h
            · exact top_bd z h
            · exact own_bd z (in_own z h)
            · exact own_bd z (p_own z (List.mem_of_mem_take h))
          refine ⟨rfl, .str z, rfl, z, ms3, rfl, hm3, by omega, fun ms' nd' hm' _ => ⟨same_put sm3 hD, ms', upd_same, nd', fun u => ?_⟩⟩
          rw [hm' u, mem3 u, take_snoc hz, List.mem_append, List.mem_singleton]
          exact ⟨fun h => h.elim (fun e => .inr (.inr e)) fun h => h.elim .inl fun h => .inr (.inl h), fun h => h.elim (fun h => .inr (.inl h)) fun h => h.elim (fun h => .inr (.inr h)) .inl⟩
        · obtain ⟨sm3, ms3, hm3, nd3, mem3⟩ := hI3
          rw [List.length_map, List.take_length] at mem3
          refine ⟨sm3, ms3, hm3, nd3, fun z => ?_⟩
          rw [mem3 z, take_snoc hp, List.flatMap_append, List.mem_append]
          simp [or_assoc]
      · obtain ⟨sm2, ms2, hm2, nd2, mem2⟩ := hI2
        rw [xl, List.take_length] at mem2
        refine ⟨sm2, ms2, hm2, nd2, fun z => ?_⟩
        rw [mem2 z, step, List.mem_append]
        exact Iff.rfl
  · obtain ⟨sm, ms, hm, nd, mem⟩ := hI1
    rw [yl, List.take_length] at mem
    have f1 := few ms nd fun z hz => hbd z ((mem z).mp hz)
    refine ⟨D, ms, rfl, hm, by omega, fun zs L hz nz hlz rz hL => ?_⟩
    have sL := same_new hL (.lst (zs.map V.str))
    refine ⟨L, _, rfl, .inl ⟨SqL.of upd_same, fun t2 ht2 => ?_⟩⟩
    have s2 := same_new ht2 (.tup (zs.map V.str))
    have nam : ∀ z ∈ namesL S, nameB z = true := fun z hz => by
      obtain ⟨r, hr, hz⟩ := List.mem_flatMap.mp hz
      obtain ⟨p, hp, hz⟩ := List.mem_flatMap.mp hz
      exact ((hI r hr).all p hp).names z hz
    have memz : ∀ z, z ∈ zs ↔ z ∈ namesL S := fun z => (hz z).trans (mem z)
    exact q _ t2 zs (sm.trans (sL.trans s2)) (SqT.of upd_same) ⟨fun z hz => nam z ((memz z).mp hz), upX_of rz nz, by omega⟩ memz
end
end Rw
namespace Rw
open PySem PySem.Spec PyProof.Rows L2
/-! ### names in and out -/
theorem scHasAll : FnScope ["names", "wanted", "name"] ["names", "wanted"] (defScope sHasAll) := ⟨rfl, rfl, rfl, by decide +kernel, rfl, by decide +kernel, by decide +kernel⟩
/-- a list or a tuple of names -/
def Ws (K : PySem.W.Frag) (H : Hp) (v : V) (ns : W) : Prop := ∃ a, v = .ref a ∧ (SqL K H a (ns.map V.str) ∨ SqT K H a (ns.map V.str))
theorem Ws.same {K : PySem.W.Frag} {H H' : Hp} {v : V} {ns : W} (h : Ws K H v ns) (e : Same H H') : Ws K H' v ns := by
  obtain ⟨a, rfl, h⟩ := h
  exact ⟨a, rfl, h.elim (fun z => .inl (e.seq z)) (fun z => .inr (same_tup e z))⟩
theorem Ws.wd {K : PySem.W.Frag} {H : Hp} {v : V} {ns : W} (h : Dp K H v (Rw.wd ns)) : Ws K H v ns := by
  obtain ⟨a, rfl, h'⟩ := of_wd h
  exact ⟨a, rfl, .inr h'⟩
def meets (ns ms : W) : Bool := ns.any fun z => decide (z ∈ ms)
def minus (ns ms : W) : W := ns.filter fun z => !decide (z ∈ ms)
def hasK (kvs : List (Key × V)) (z : Str) : Bool := (valV kvs (.inr z)).isSome
section
variable {P : Program} {w : World} {K : PySem.W.Frag} {mg : Str → Option Value} {base : Heap} {f : Addr} {fd : FuncData} {k : Nat}
def spHasAll (K : PySem.W.Frag) : Sp := fun vs H Q _ => ∃ (x y : V) (ns ms : W), vs = [x, y] ∧ Ws K H x ns ∧ Ws K H y ms ∧ ms.length ≤ 1000 ∧ ∀ H', Same H H' → Q (.bl (sub ms ns)) H'
theorem ok_hasAll (F : Fun K "has_all" "has_all" sHasAll f fd) (T : Bl mg) : FnOk P w K mg base CX0 (k + 1) f fd ["names", "wanted"] (spHasAll K) := by
  refine F.ok scHasAll (fun vs H Q E h => ?_) (fun cdv A outer s H vs Q E hr h => ?_)
  · obtain ⟨x, y, ns, ms, rfl, _⟩ := h
    rfl
  obtain ⟨x, y, ns, ms, rfl, ⟨a, rfl, hS⟩, ⟨b, rfl, hT⟩, few, q⟩ := h
  have turn : ∀ (D : Addr) (i : Nat) (z : Str) (H1 : Hp), ms[i]? = some z → H D = none → Same H H1 ∧ H1 D = some (.lst ((ms.take i).map fun z => V.bl (decide (z ∈ ns)))) → SqL K H1 a (ns.map V.str) ∨ SqT K H1 a (ns.map V.str) := fun D i z H1 _ _ ⟨sm, _⟩ => hS.elim (fun z => .inl (sm.seq z)) (fun z => .inr (same_tup sm z))
  have step : ∀ (D : Addr) (i : Nat) (z : Str) (H1 : Hp), ms[i]? = some z → H D = none → Same H H1 ∧ H1 D = some (.lst ((ms.take i).map fun z => V.bl (decide (z ∈ ns)))) → ∃ acc, H1 D = some (.lst acc) ∧ acc.length < sizeLine ∧ (Same H (upd H1 D (.lst (acc ++ [V.bl (inV (.str z) (ns.map V.str))]))) ∧ (upd H1 D (.lst (acc ++ [V.bl (inV (.str z) (ns.map V.str))]))) D = some (.lst ((ms.take (i + 1)).map fun z => V.bl (decide (z ∈ ns))))) := fun D i z H1 hz hD ⟨sm, hd⟩ => by
    refine ⟨_, hd, small_line' (by rw [List.length_map, List.length_take]; omega), same_put sm hD, ?_⟩
    rw [upd_same, take_snoc hz, List.map_append, inV_str]
    rfl
  have fin : ∀ (D : Addr) (H1 : Hp), Same H H1 → H1 D = some (.lst ((ms.take ms.length).map fun z => V.bl (decide (z ∈ ns)))) → ∃ (a : Addr) (bs : List Bool), [V.ref D] = [V.ref a] ∧ SqL K H1 a (bs.map V.bl) ∧ Q (.bl (bs.all id)) H1 := fun D H1 sm hd => by
    rw [List.take_length] at hd
    refine ⟨D, ms.map fun z => decide (z ∈ ns), rfl, SqL.of (by rw [List.map_map]; exact hd), ?_⟩
    have z : (ms.map fun z => decide (z ∈ ns)).all id = sub ms ns := by
      unfold sub
      rw [List.all_map]
      rfl
    rw [z]
    exact q H1 sm
  rcases hT with hT | hT
  · refine ⟨_, pss_one (ps_ret (pe_callB (cr_all rfl) (by rfl) T.all (by decide +kernel) (pa_cons (pe_lc (own := [("name", 2)]) (g := gName 2) (by rfl) scHasAll.nd (pi_list (pv 1)) (blkOk_by (N := ["names", "wanted", "name"]) (sc := defScope sHasAll) (by decide +kernel))
        (fun _ _ _ _ _ => pg_name (i := 2) scHasAll.nd rfl (Or.inl rfl)) (fun _ _ _ _ _ => pts_nil) (fun _ _ _ _ _ => pe_cmpR (r := rIn K false) op_in_seq (pv 2) (pv 0) (by rfl))) pa_nil))), ?_⟩
    refine ⟨.ref b, rfl, b, rfl, ⟨_, hT⟩, fun D hD => ?_⟩
    refine lc_list (xs := ms.map V.str) (fun i H1 => Same H H1 ∧ H1 D = some (.lst ((ms.take i).map fun z => V.bl (decide (z ∈ ns))))) ⟨same_new hD _, upd_same⟩ (fun i H1 _ hI => hI.1.seq hT) (fun i x H1 hx hI => ?_) (fun H1 hI => ?_)
    · obtain ⟨z, hz, rfl⟩ := map_at hx
      exact ⟨rfl, .str z, rfl, .ref a, rfl, a, ns.map V.str, rfl, turn D i z H1 hz hD hI, rfl, flat_strs ns, step D i z H1 hz hD hI⟩
    · obtain ⟨sm, hd⟩ := hI
      rw [List.length_map] at hd
      exact fin D H1 sm hd
  · refine ⟨_, pss_one (ps_ret (pe_callB (cr_all rfl) (by rfl) T.all (by decide +kernel) (pa_cons (pe_lc (own := [("name", 2)]) (g := gName 2) (by rfl) scHasAll.nd (pi_tup (pv 1)) (blkOk_by (N := ["names", "wanted", "name"]) (sc := defScope sHasAll) (by decide +kernel))
        (fun _ _ _ _ _ => pg_name (i := 2) scHasAll.nd rfl (Or.inl rfl)) (fun _ _ _ _ _ => pts_nil) (fun _ _ _ _ _ => pe_cmpR (r := rIn K false) op_in_seq (pv 2) (pv 0) (by rfl))) pa_nil))), ?_⟩
    refine ⟨.ref b, rfl, b, rfl, ⟨_, hT⟩, fun D hD => ?_⟩
    refine lc_tup (xs := ms.map V.str) (fun i H1 => Same H H1 ∧ H1 D = some (.lst ((ms.take i).map fun z => V.bl (decide (z ∈ ns))))) ⟨same_new hD _, upd_same⟩ (fun i H1 _ hI => same_tup hI.1 hT) (fun i x H1 hx hI => ?_) (fun H1 hI => ?_)
    · obtain ⟨z, hz, rfl⟩ := map_at hx
      exact ⟨rfl, .str z, rfl, .ref a, rfl, a, ns.map V.str, rfl, turn D i z H1 hz hD hI, rfl, flat_strs ns, step D i z H1 hz hD hI⟩
    · obtain ⟨sm, hd⟩ := hI
      rw [List.length_map] at hd
      exact fin D H1 sm hd
end
theorem scENotProg : FnScope ["self", "thing"] ["self", "thing"] (defScope sENotProg) := ⟨rfl, rfl, rfl, by decide +kernel, rfl, by decide +kernel, by decide +kernel⟩
theorem scEWorld : FnScope ["self", "thing"] ["self", "thing"] (defScope sEWorld) := ⟨rfl, rfl, rfl, by decide +kernel, rfl, by decide +kernel, by decide +kernel⟩
section
variable {P : Program} {w : World} {K : PySem.W.Frag} {mg : Str → Option Value} {base : Heap} {f : Addr} {fd : FuncData} {k : Nat}
theorem ok_eNotProg {C : Addr} (F : FunD K "__init__" "NotAProgram.__init__" (defArgs sENotProg) (defBody sENotProg) (defScope sENotProg) [.non] [] f fd) (O : OexC K C) (no : PySem.W.findIn K (.ref C) "thing" = some none) : FnOk P w K mg base CX0 (k + 1) f fd ["self", "thing"] (spErr C "thing") := by
  refine F.ok scENotProg (fun vs H Q E h => ?_) (fun cdv A outer s H vs Q E hr h => ?_)
  · obtain ⟨a, v, rfl, _⟩ := h
    rfl
  obtain ⟨a, v, rfl, ha, q⟩ := h
  exact ⟨_, PSs.nox (pss_one (ps_ost (pv 0) (pv 1))), v, rfl, .ref a, rfl, a, C, rfl, O, no, .inl ⟨ha, fun dx h1 h2 => q dx h1 h2⟩⟩
theorem ok_eWorld {C : Addr} (F : FunD K "__init__" "InvalidWorld.__init__" (defArgs sEWorld) (defBody sEWorld) (defScope sEWorld) [.non] [] f fd) (O : OexC K C) (no : PySem.W.findIn K (.ref C) "thing" = some none) : FnOk P w K mg base CX0 (k + 1) f fd ["self", "thing"] (spErr C "thing") := by
  refine F.ok scEWorld (fun vs H Q E h => ?_) (fun cdv A outer s H vs Q E hr h => ?_)
  · obtain ⟨a, v, rfl, _⟩ := h
    rfl
  obtain ⟨a, v, rfl, ha, q⟩ := h
  exact ⟨_, PSs.nox (pss_one (ps_ost (pv 0) (pv 1))), v, rfl, .ref a, rfl, a, C, rfl, O, no, .inl ⟨ha, fun dx h1 h2 => q dx h1 h2⟩⟩
end
/-! ### refusals -/
theorem scCheckProgram : FnScope ["thing"] ["thing"] (defScope sCheckProgram) := ⟨rfl, rfl, rfl, by decide +kernel, rfl, by decide +kernel, by decide +kernel⟩
theorem scCheckWorld : FnScope ["thing"] ["thing"] (defScope sCheckWorld) := ⟨rfl, rfl, rfl, by decide +kernel, rfl, by decide +kernel, by decide +kernel⟩
/-- what the text's own error class with one field is -/
structure ErrT (P : Program) (w : World) (K : PySem.W.Frag) (mg : Str → Option Value) (base : Heap) (k : Nat) (x : Str) (n : Str) (C : Addr) : Prop where
  oex : OexC K C
  ex : ∃ (fI : Addr) (fd : FuncData), PySem.W.findIn K (.ref C) "__init__" = some (some (.ref fI)) ∧ PySem.W.typeIn K (.ref fI) = some (.type "function") ∧ FnOk P w K mg base CX0 k fI fd ["self", n] (spErr C n) ∧ Binds K fd ["self", n] []
  m : mg x = some (.ref C)
/-- what a program's class says of what is no program -/
structure PgC (K : PySem.W.Frag) (mg : Str → Option Value) (C : Addr) : Prop where
  yes : PySem.W.kitOne K (.ref C) (.ref C) = some true
  non : PySem.W.kitOne K (.type "NoneType") (.ref C) = some false
  bool : PySem.W.kitOne K (.type "bool") (.ref C) = some false
  int : PySem.W.kitOne K (.type "int") (.ref C) = some false
  str : PySem.W.kitOne K (.type "str") (.ref C) = some false
  list : PySem.W.kitOne K (.type "list") (.ref C) = some false
  tuple : PySem.W.kitOne K (.type "tuple") (.ref C) = some false
  dict : PySem.W.kitOne K (.type "dict") (.ref C) = some false
  m : mg "Program" = some (.ref C)
  cls : Cls K C
  cg : PySem.W.findIn K (.ref C) "__class__" = some (some (.builtin "object.__class__"))
  sp : PySem.W.specialIn K (.builtin "object.__class__") "__get__" = some (some (.builtin "getset_descriptor.__get__"))
  tk : PySem.W.takesIn K (.builtin "object.__class__") = some true
  mro : PySem.W.mroIn K C (.type "object") = some true
section
variable {P : Program} {w : World} {K : PySem.W.Frag} {mg : Str → Option Value} {base : Heap} {f : Addr} {fd : FuncData} {k : Nat}
theorem PgC.odd {C : Addr} (T : PgC K mg C) : ∀ d : PyData, PySem.W.kitOne K (.type (tyName d)) (.ref C) = some false
  | .none => T.non
  | .bool _ => T.bool
  | .int _ => T.int
  | .str _ => T.str
  | .list _ => T.list
  | .tuple _ => T.tuple
  | .dict _ => T.dict
def spCheckProgram (K : PySem.W.Frag) (C CE : Addr) : Sp := fun vs H Q E => ∃ v : V, vs = [v] ∧ ((∃ S, PgAt K C H v S ∧ Q .non H) ∨ (∃ d, Dp K H v d ∧ ∀ dx, H dx = none → E (.ref CE) (some dx) (upd H dx (.xd [(("thing" : Str), v)]))))
theorem ok_checkProgram {C CE : Addr} (F : Fun K "check_program" "check_program" sCheckProgram f fd) (T : Bl mg) (G : PgC K mg C) (X : ErrT P w K mg base k "NotAProgram" "thing" CE) : FnOk P w K mg base (L2.CX P w) (k + 2) f fd ["thing"] (spCheckProgram K C CE) := by
  obtain ⟨fI, fdI, i1, i2, i3, i4⟩ := X.ex
  refine F.okX scCheckProgram (fun vs H Q E h => ?_) (fun cdv A outer s H vs Q E hr h => ?_)
  · obtain ⟨v, rfl, _⟩ := h
    rfl
  obtain ⟨v, rfl, h⟩ := h
  refine ⟨_, pss_one (ps_if (pt_not (pt_val (pe_callB call_isi (by rfl) T.isi PyProof.Rows.boot_isinstance (pa_cons (pv 0) (pa_cons (pe_glob (v := .ref C) (by rfl) G.m rfl) pa_nil)))))
    (pss_one (ps_raise rfl (takes_of rfl rfl rfl rfl) (pmk_oex X.oex i1 i2 i3 hr i4 .nil pass0 (by rfl) X.m (pa_cons (pv 0) pa_nil)))) pss_nil), ?_⟩
  rcases h with ⟨S, hS, q⟩ | ⟨d, hd, q⟩
  · obtain ⟨a, dx, t, ys, rfl, h1, h2, h3⟩ := hS
    exact ⟨.ref a, rfl, .ref a, .ref C, .ref C, .ref C, true, rfl, .own C, .base (.ins h1 G.cls G.cg G.sp G.tk G.mro), G.yes, true, rfl, iteF q⟩
  · exact ⟨v, rfl, v, .ref C, .type (tyName d), .ref C, false, rfl, .own C, tyx_dp hd, G.odd d, false, rfl, iteT ⟨v, rfl, err_made q⟩⟩
def spCheckWorld (K : PySem.W.Frag) (CE : Addr) : Sp := fun vs H Q E => ∃ (v : V) (d : PyData), vs = [v] ∧ Dp K H v d ∧ oddW d ∧ ∀ H', Same H H' → (worldD d = true → Q .non H') ∧ (worldD d = false → ∀ dx, H' dx = none → E (.ref CE) (some dx) (upd H' dx (.xd [(("thing" : Str), v)])))
theorem ok_checkWorld {f1 CE : Addr} {fd1 : FuncData} (F : Fun K "check_world" "check_world" sCheckWorld f fd) (G1 : FnOk P w K mg base CX0 (k + 1) f1 fd1 ["thing"] (spIsWorld K)) (b1 : Binds K fd1 ["thing"] []) (k1 : PySem.W.keepIn K (.ref f1) = true) (m1 : mg "is_world" = some (.ref f1)) (X : ErrT P w K mg base k "InvalidWorld" "thing" CE) :
    FnOk P w K mg base (L2.CX P w) (k + 2) f fd ["thing"] (spCheckWorld K CE) := by
  obtain ⟨fI, fdI, i1, i2, i3, i4⟩ := X.ex
  refine F.okX scCheckWorld (fun vs H Q E h => ?_) (fun cdv A outer s H vs Q E hr h => ?_)
  · obtain ⟨v, d, rfl, _⟩ := h
    rfl
  obtain ⟨v, d, rfl, hd, odd, q⟩ := h
  refine ⟨_, pss_one (ps_if (pt_not (pt_val (pe_call G1 hr (by rfl) m1 k1 b1 .nil pass0 (pa_cons (pv 0) pa_nil))))
    (pss_one (ps_raise rfl (takes_of rfl rfl rfl rfl) (pmk_oex X.oex i1 i2 i3 hr i4 .nil pass0 (by rfl) X.m (pa_cons (pv 0) pa_nil)))) pss_nil), ?_⟩
  refine ⟨v, rfl, v, d, rfl, hd, odd, fun H1 s1 => ⟨_, rfl, ?_⟩⟩
  cases e : worldD d with
  | true => exact iteF ((q H1 s1).1 e)
  | false => exact iteT ⟨v, rfl, err_made ((q H1 s1).2 e)⟩
end
end Rw
namespace Rw
open PySem PySem.Spec PyProof.Rows L2
/-! ### sets of names as numbers -/
def num : W → W → Int
  | [], _ => 0
  | x :: own, w => (if x ∈ w then 1 else 0) + 2 * num own w
def bitOf : W → Str → Int
  | [], _ => 1
  | y :: own, x => if x = y then 1 else 2 * bitOf own x
theorem bitOf_cons (y : Str) (own : W) (x : Str) : bitOf (y :: own) x = if x = y then 1 else 2 * bitOf own x := rfl
theorem num_nn : ∀ own w : W, 0 ≤ num own w
  | [], _ => Int.le_refl 0
  | x :: own, w => by
    have h := num_nn own w
    unfold num
    split <;> omega
theorem num_lt : ∀ own w : W, num own w < 2 ^ own.length
  | [], _ => (by decide : (0 : Int) < 1)
  | x :: own, w => by
    have h := num_lt own w
    unfold num
    rw [List.length_cons, Int.pow_succ]
    split <;> omega
theorem num_cons (x : Str) (own w : W) : num (x :: own) w = (if x ∈ w then 1 else 0) + 2 * num own w := rfl
theorem bit_halves (c d x y : Int) (hc : c = 0 ∨ c = 1) (hd : d = 0 ∨ d = 1) : Builtin.bitAnd (c + 2 * x) (d + 2 * y) = (if c = 1 ∧ d = 1 then 1 else 0) + 2 * Builtin.bitAnd x y := by
  rw [PySem.W.kbt_halves]
  have e1 : (c + 2 * x) / 2 = x := by omega
  have e2 : (d + 2 * y) / 2 = y := by omega
  have e3 : (c + 2 * x) % 2 = c := by omega
  have e4 : (d + 2 * y) % 2 = d := by omega
  rw [e1, e2, e3, e4]
  omega
theorem one01 (p : Prop) [Decidable p] : (if p then (1 : Int) else 0) = 0 ∨ (if p then (1 : Int) else 0) = 1 := by
  split
  · exact .inr rfl
  · exact .inl rfl
theorem num_and : ∀ own a b : W, Builtin.bitAnd (num own a) (num own b) = num own (a.filter fun z => decide (z ∈ b))
  | [], _, _ => (by decide : Builtin.bitAnd 0 0 = 0)
  | x :: own, a, b => by
    rw [num_cons, num_cons, num_cons, bit_halves _ _ _ _ (one01 _) (one01 _), num_and own a b]
    congr 1
    by_cases h1 : x ∈ a <;> by_cases h2 : x ∈ b <;> simp [h1, h2]
theorem num_diff : ∀ own a b : W, Builtin.bitAnd (num own a) (Builtin.bitNot (num own b)) = num own (minus a b)
  | [], _, _ => (by decide : Builtin.bitAnd 0 (Builtin.bitNot 0) = 0)
  | x :: own, a, b => by
    have e : Builtin.bitNot (num (x :: own) b) = (if x ∈ b then (0 : Int) else 1) + 2 * Builtin.bitNot (num own b) := by
      rw [num_cons]
      unfold Builtin.bitNot
      split <;> omega
    rw [e, num_cons, num_cons, bit_halves _ _ _ _ (one01 _) (by split <;> simp), num_diff own a b]
    congr 1
    unfold minus
    by_cases h1 : x ∈ a <;> by_cases h2 : x ∈ b <;> simp [h1, h2]
theorem num_zero : ∀ {own w : W}, num own w = 0 ↔ ∀ x ∈ own, x ∉ w
  | [], w => by simp [num]
  | x :: own, w => by
    have h := num_nn own w
    have ih := @num_zero own w
    rw [num_cons, List.forall_mem_cons, ← ih]
    by_cases e : x ∈ w
    · rw [if_pos e]
      exact ⟨fun z => by omega, fun z => absurd e z.1⟩
    · rw [if_neg e]
      exact ⟨fun z => ⟨e, by omega⟩, fun z => by omega⟩
theorem num_same : ∀ {own a b : W}, num own a = num own b ↔ ∀ x ∈ own, (x ∈ a ↔ x ∈ b)
  | [], a, b => by simp [num]
  | x :: own, a, b => by
    have ih := @num_same own a b
    rw [num_cons, num_cons, List.forall_mem_cons, ← ih]
    by_cases e : x ∈ a <;> by_cases e' : x ∈ b <;> simp [e, e'] <;> omega
/-- the sum of the bits of a set without repetition -/
theorem num_more : ∀ {own : W} {y : Str} {w : W}, own.Nodup → y ∉ w → num own (y :: w) = (if y ∈ own then bitOf own y else 0) + num own w
  | [], y, w, _, _ => by simp [num]
  | x :: own, y, w, nd, hy => by
    obtain ⟨n1, n2⟩ := List.nodup_cons.mp nd
    have ih := num_more n2 hy
    rw [num_cons, num_cons, ih]
    rw [bitOf_cons]
    by_cases e : x = y
    · subst e
      rw [if_neg n1, if_pos List.mem_cons_self, if_pos List.mem_cons_self, if_pos rfl, if_neg hy]
      omega
    · have e1 : (x ∈ y :: w) ↔ x ∈ w := by
        rw [List.mem_cons]
        exact ⟨fun z => z.elim (fun z => absurd z e) id, .inr⟩
      have e2 : (y ∈ x :: own) ↔ y ∈ own := by
        rw [List.mem_cons]
        exact ⟨fun z => z.elim (fun z => absurd z.symm e) id, .inr⟩
      have e3 : ¬ y = x := fun z => e z.symm
      simp only [e1, e2, e3, if_false]
      split <;> split <;> omega
theorem num_nil : ∀ own : W, num own [] = 0
  | [] => rfl
  | x :: own => by
    rw [num_cons, num_nil own]
    simp
theorem num_sum {own : W} (nd : own.Nodup) : ∀ {w : W}, w.Nodup → ((w.filter fun z => decide (z ∈ own)).map (bitOf own)).sum = num own w
  | [], _ => by
    rw [num_nil]
    rfl
  | y :: w, h => by
    obtain ⟨n1, n2⟩ := List.nodup_cons.mp h
    rw [num_more nd n1, ← num_sum nd n2]
    by_cases e : y ∈ own
    · rw [List.filter_cons_of_pos (by simpa using e), List.map_cons, List.sum_cons, if_pos e]
    · rw [List.filter_cons_of_neg (by simpa using e), if_neg e, Int.zero_add]
theorem bit_nn : ∀ (own : W) (x : Str), 0 ≤ bitOf own x
  | [], _ => (by decide : (0 : Int) ≤ 1)
  | y :: own, x => by
    have h := bit_nn own x
    unfold bitOf
    split <;> omega
theorem bit_at' : ∀ {own : W} {i : Nat} {x : Str}, own.Nodup → own[i]? = some x → bitOf own x = 2 ^ i
  | [], i, x, _, h => by simp at h
  | y :: own, 0, x, _, h => by
    rw [List.getElem?_cons_zero, Option.some.injEq] at h
    subst h
    unfold bitOf
    rw [if_pos rfl]
    rfl
  | y :: own, i + 1, x, nd, h => by
    obtain ⟨n1, n2⟩ := List.nodup_cons.mp nd
    rw [List.getElem?_cons_succ] at h
    have ne : ¬ x = y := fun e => n1 (e ▸ List.mem_of_getElem? h)
    unfold bitOf
    rw [if_neg ne, bit_at' n2 h, Int.pow_succ]
    omega
/-! ### the numbers below a number, within it -/
theorem within_step : ∀ (n : Nat) (h t m : Int), h.toNat ≤ n → 0 < h → 0 ≤ m → Builtin.bitAnd h t = h → Builtin.bitAnd m t = m → m < h → m ≤ Builtin.bitAnd (h - 1) t
  | 0, h, t, m, e, h0, _, _, _, _ => by omega
  | n + 1, h, t, m, e, h0, m0, hh, hm, lt => by
    rw [PySem.W.kbt_halves] at hh hm ⊢
    have ih := within_step n (h / 2) (t / 2) (m / 2)
    by_cases odd : h % 2 = 1
    · have e1 : (h - 1) / 2 = h / 2 := by omega
      have e2 : (h - 1) % 2 = 0 := by omega
      rw [e1, e2]
      split at hh <;> split at hm <;> simp <;> omega
    · have e1 : (h - 1) / 2 = h / 2 - 1 := by omega
      have e2 : (h - 1) % 2 = 1 := by omega
      rw [e1, e2]
      have hh2 : Builtin.bitAnd (h / 2) (t / 2) = h / 2 := by
        split at hh
        · omega
        · omega
      have hm2 : Builtin.bitAnd (m / 2) (t / 2) = m / 2 := by
        split at hm <;> omega
      have z := ih (by omega) (by omega) (by omega) hh2 hm2 (by omega)
      split at hm <;> split <;> omega
theorem and_nn {x y : Int} (hx : 0 ≤ x) (hy : 0 ≤ y) : 0 ≤ Builtin.bitAnd x y ∧ Builtin.bitAnd x y ≤ x ∧ Builtin.bitAnd (Builtin.bitAnd x y) y = Builtin.bitAnd x y := by
  rw [bitAnd_pp hx hy]
  have e : (x.toNat &&& y.toNat) ≤ x.toNat := Nat.and_le_left
  refine ⟨Int.natCast_nonneg _, by omega, ?_⟩
  rw [bitAnd_pp (Int.natCast_nonneg _) hy, Int.toNat_natCast, Nat.and_assoc, Nat.and_self]
/-- every number within a set's number is the number of a part -/
theorem num_part : ∀ {own t : W} {m : Int}, own.Nodup → 0 ≤ m → Builtin.bitAnd m (num own t) = m → ∃ h : W, h.Sublist own ∧ (∀ x ∈ h, x ∈ t) ∧ num own h = m
  | [], t, m, _, m0, e => by
    refine ⟨[], List.Sublist.refl _, (fun x h => nomatch h), ?_⟩
    have z := (and_nn (show (0 : Int) ≤ 0 by decide) m0).2.1
    have z2 : Builtin.bitAnd m 0 = Builtin.bitAnd 0 m := bitAnd_comm _ _
    rw [show num [] t = 0 from rfl, z2] at e
    rw [show num [] [] = 0 from rfl]
    omega
  | x :: own, t, m, nd, m0, e => by
    obtain ⟨n1, n2⟩ := List.nodup_cons.mp nd
    rw [num_cons] at e
    have em : m = m % 2 + 2 * (m / 2) := by omega
    rw [em, bit_halves _ _ _ _ (by omega) (one01 _)] at e
    have q : Builtin.bitAnd (m / 2) (num own t) = m / 2 := by
      split at e <;> omega
    obtain ⟨h, s1, s2, s3⟩ := num_part n2 (by omega) q
    have hx : x ∉ h := fun z => n1 (s1.subset z)
    by_cases odd : m % 2 = 1
    · have hxt : x ∈ t := by
        by_cases z : x ∈ t
        · exact z
        · rw [if_neg z] at e
          rw [if_neg (fun z => by omega)] at e
          omega
      refine ⟨x :: h, List.cons_sublist_cons.mpr s1, fun z hz => (List.mem_cons.mp hz).elim (fun e => e ▸ hxt) (s2 z), ?_⟩
      rw [num_cons, if_pos List.mem_cons_self, (num_same (a := x :: h) (b := h)).mpr fun z hz => ?_, s3]
      · omega
      · rw [List.mem_cons]
        exact ⟨fun q => q.elim (fun q => absurd (q ▸ hz) n1) id, .inr⟩
    · refine ⟨h, s1.cons _, s2, ?_⟩
      rw [num_cons, if_neg hx, s3]
      omega
/-! ### all worlds of a row of names, ascending -/
def everyW : W → List W
  | [] => [[]]
  | x :: own => [] :: ((everyW own).map (fun t => x :: t) ++ (everyW own).tail)
theorem every_head : ∀ own : W, ∃ r, everyW own = [] :: r
  | [] => ⟨[], rfl⟩
  | x :: own => ⟨_, rfl⟩
theorem every_len : ∀ own : W, (everyW own).length = 2 ^ own.length
  | [] => rfl
  | x :: own => by
    obtain ⟨r, e⟩ := every_head own
    have ih := every_len own
    have p : 0 < 2 ^ own.length := Nat.pow_pos (by decide)
    unfold everyW
    rw [List.length_cons, List.length_append, List.length_map, List.length_tail, ih, List.length_cons, Nat.pow_succ]
    omega
theorem every_ne {own t : W} (h : t ∈ (everyW own).tail) : t ∈ everyW own := List.mem_of_mem_tail h
theorem mem_every : ∀ {own t : W}, t ∈ everyW own ↔ t.Sublist own
  | [], t => by
    unfold everyW
    rw [List.mem_singleton, List.sublist_nil]
  | x :: own, t => by
    obtain ⟨r, e⟩ := every_head own
    unfold everyW
    rw [List.mem_cons, List.mem_append, List.mem_map]
    constructor
    · rintro (rfl | ⟨s, hs, rfl⟩ | h)
      · exact List.nil_sublist _
      · exact List.cons_sublist_cons.mpr (mem_every.mp hs)
      · exact (mem_every.mp (every_ne h)).cons _
    · intro s
      cases s with
      | cons _ h =>
        have z := mem_every.mpr h
        rw [e, List.mem_cons] at z
        rcases z with z | z
        · exact .inl z
        · exact .inr (.inr (by rw [e]; exact z))
      | cons_cons _ h => exact .inr (.inl ⟨_, mem_every.mpr h, rfl⟩)
end Rw
namespace Rw
open PySem PySem.Spec PyProof.Rows L2
/-! ### a comprehension into a dict over any walk -/
theorem dc_it {J : It} {n : Nat} {G : Hp → Prop} {Y : Nat → Hp → V → Hp → Prop} (w : Walk J n G Y) {g : TG} {tt : L2.TT} {tk tv : TE} {vs : List Nat} {σ : L2.St} {H1 : Hp} {D : Addr} {Qd : Hp → Prop} (Pv : Nat → Hp → Prop) (h0 : Pv 0 (upd H1 D (.dK []))) (hG : ∀ i H, i ≤ n → Pv i H → G H)
    (hs : ∀ i x H H', i < n → Pv i H → Y i H x H' → g x (wipe σ vs) H' fun σ2 H2 => wipe σ2 vs = wipe σ vs ∧ tt σ2 H2 fun b H3 =>
      if b = true then tk σ2 H3 fun y H4 => tv σ2 H4 fun z H5 => ∃ kvs k, y = kV k ∧ H5 D = some (.dK kvs) ∧ kvs.length < sizeLine ∧ Pv (i + 1) (upd H5 D (.dK (putK kvs k z))) else Pv (i + 1) H3) (hd : ∀ H, Pv n H → Qd H) :
    ∃ W : Nat → Nat → Hp → Prop, (∃ m, W 0 m (upd H1 D (.dK []))) ∧ ∀ i m H, W i m H →
      (J.stop i H ∧ Qd H) ∨ (J.go i H ∧ ∃ Nx : Hp → Prop, (∀ H', Nx H' → ∃ m', m' < m ∧ W (i + 1) m' H') ∧ ∀ x H', J.yld i H x H' → g x (wipe σ vs) H' fun σ2 H2 => wipe σ2 vs = wipe σ vs ∧ tt σ2 H2 fun b H3 =>
        if b = true then tk σ2 H3 fun y H4 => tv σ2 H4 fun z H5 => ∃ kvs k, y = kV k ∧ H5 D = some (.dK kvs) ∧ kvs.length < sizeLine ∧ Nx (upd H5 D (.dK (putK kvs k z))) else Nx H3) := by
  refine ⟨fun i m H => m = n - i ∧ i ≤ n ∧ Pv i H, ⟨n, by simp, Nat.zero_le _, h0⟩, ?_⟩
  rintro i m H ⟨rfl, hi, p⟩
  have q := hG i H hi p
  by_cases hlt : i < n
  · refine .inr ⟨w.goes i H hlt q, Pv (i + 1), fun H' p' => ⟨n - (i + 1), by omega, rfl, hlt, p'⟩, fun x H' y => hs i x H H' hlt p (w.yields i H x H' hlt q y)⟩
  · have e : i = n := by omega
    subst e
    exact .inl ⟨w.stops H q, hd H p⟩
theorem walk_enumT {K : PySem.W.Frag} {a : Addr} {xs : List V} : Walk (Ietup K a) xs.length (fun H => SqT K H a xs) (YPair (fun i => some (.int (i : Nat))) (fun i => xs[i]?)) := by
  refine ⟨fun i _ hi q => ⟨xs, xs[i], q, by simp [hi]⟩, fun _ q => ⟨xs, q, rfl⟩, fun i H v H' _ q y => ?_⟩
  obtain ⟨T, x, h1, h2, h3, h4⟩ := y
  exact ⟨T, .int (i : Nat), x, h1, h2, h3, rfl, h4 xs q⟩
/-! ### _bits_of -/
/-- the dict of names and their bits, the first n of them -/
def BD (own : W) (ns : W) : HO := .dK (ns.map fun z => (.inr z, .int (bitOf own z)))
theorem valBD {own : W} : ∀ {ns : W} {z : Str}, valV (ns.map fun z => ((.inr z : Key), V.int (bitOf own z))) (.inr z) = if z ∈ ns then some (V.int (bitOf own z)) else none
  | [], z => rfl
  | y :: ns, z => by
    have ih := @valBD own ns z
    unfold valV at ih ⊢
    rw [List.map_cons, List.find?_cons]
    by_cases e : z = y
    · subst e
      simp
    · have e' : ¬ ((.inr y : Key) = .inr z) := fun q => e (Sum.inr.inj q).symm
      simp only [e', decide_false]
      rw [ih]
      simp [e]
theorem idx_new1 {ns : W} {i : Nat} {z : Str} (nd : ns.Nodup) (hz : ns[i]? = some z) : z ∉ ns.take i := fun h => by
  obtain ⟨j, hj, e⟩ := List.getElem_of_mem h
  rw [List.length_take] at hj
  rw [List.getElem_take] at e
  obtain ⟨hi, e2⟩ := List.getElem?_eq_some_iff.mp hz
  have z2 := (List.getElem_inj (h₀ := by omega) (h₁ := hi) nd).mp (e.trans e2.symm)
  omega
theorem scBitsOf : FnScope ["names", "place", "name"] ["names"] (defScope sBitsOf) := ⟨rfl, rfl, rfl, by decide +kernel, rfl, by decide +kernel, by decide +kernel⟩
section
variable {P : Program} {w : World} {K : PySem.W.Frag} {mg : Str → Option Value} {base : Heap} {f : Addr} {fd : FuncData} {k : Nat}
def spBitsOf (K : PySem.W.Frag) : Sp := fun vs H Q _ => ∃ (a : Addr) (own : W), vs = [.ref a] ∧ SqT K H a (own.map V.str) ∧ own.Nodup ∧ own.length ≤ 40 ∧ ∀ H' D, Same H H' → H D = none → H' D = some (BD own own) → Q (.ref D) H'
theorem ok_bitsOf (F : Fun K "_bits_of" "_bits_of" sBitsOf f fd) (T : Bl mg) : FnOk P w K mg base CX0 (k + 1) f fd ["names"] (spBitsOf K) := by
  refine F.ok scBitsOf (fun vs H Q E h => ?_) (fun cdv A outer s H vs Q E hr h => ?_)
  · obtain ⟨a, own, rfl, _⟩ := h
    rfl
  obtain ⟨a, own, rfl, hT, nd, few, q⟩ := h
  have nl := few
  refine ⟨_, pss_one (ps_ret (pe_dc (own := [("place", 1), ("name", 2)]) (g := gTup K 2 (gCons (gName 1) (gCons (gName 2) gNil))) (tk := tVar 2) (tv := tOp (rI CPow fun i j => .int (i * 2 ^ j.toNat)) (tC (.int 1)) (tVar 1)) (by rfl) scBitsOf.nd (pi_enumT (by rfl) T.enum (pa_cons (pv 0) pa_nil)) (blkOk_by (N := ["names", "place", "name"]) (sc := defScope sBitsOf) (by decide +kernel))
    (fun _ _ _ _ _ => pg_tup (by rfl) (pgs_cons (pg_name (i := 1) scBitsOf.nd rfl (.inl rfl)) (pgs_cons (pg_name (i := 2) scBitsOf.nd rfl (.inl rfl)) pgs_nil))) (fun _ _ _ _ _ => pts_nil) (fun _ _ _ _ _ => pv 2) (fun _ _ _ _ _ => pe_op op_shl pe_int (pv 1)))), ?_⟩
  refine ⟨.ref a, rfl, a, _, rfl, hT, fun D hD => ?_⟩
  refine dc_it walk_enumT (fun i H2 => Same H H2 ∧ H2 D = some (BD own (own.take i))) ⟨same_new hD _, upd_same⟩ (fun i H2 _ h => same_tup h.1 hT) (fun i x H2 H3 hi h hy => ?_) (fun H2 h => ?_)
  · obtain ⟨sm, hd⟩ := h
    obtain ⟨t, x1, x2, rfl, ht, rfl, e1, e2⟩ := hy
    obtain ⟨z, hz, rfl⟩ := map_at e2
    cases e1
    have tD : t ≠ D := fun e => by rw [e, hd] at ht; cases ht
    have hd3 : upd H2 t (.tup [.int (i : Nat), .str z]) D = some (BD own (own.take i)) := by rw [upd_ne (Ne.symm tD)]; exact hd
    rw [List.length_map] at hi
    refine ⟨t, [.int (i : Nat), .str z], rfl, SqT.of upd_same, rfl, .int (i : Nat), [.str z], rfl, .str z, [], rfl, rfl, rfl, .str z, rfl, .int (i : Nat), rfl, 1, (i : Int), rfl, rfl, ⟨by omega, by omega, by decide⟩, ?_⟩
    refine ⟨_, .inr z, rfl, hd3, small_line' (by rw [List.length_map, List.length_take]; omega), same_put (sm.trans (same_new ht _)) hD, ?_⟩
    rw [upd_same]
    have new : z ∉ own.take i := idx_new1 nd hz
    have e : ((own.take i).map fun y => ((.inr y : Key), V.int (bitOf own y))).any (fun kv => decide (kv.1 = .inr z)) = false := by
      rw [List.any_eq_false]
      intro p hp
      obtain ⟨y, hy, rfl⟩ := List.mem_map.mp hp
      simp only [decide_eq_true_eq]
      exact fun q => new (Sum.inr.inj q ▸ hy)
    unfold BD putK
    rw [if_neg (by rw [e]; exact Bool.false_ne_true), take_snoc hz, List.map_append]
    have e1 : ((1 : Int) * 2 ^ (i : Int).toNat) = bitOf own z := by
      rw [show (i : Int).toNat = i from rfl, Int.one_mul, ← bit_at' nd hz]
    show some (HO.dK (_ ++ [(Sum.inr z, V.int ((1 : Int) * 2 ^ (i : Int).toNat))])) = _
    rw [e1]
    rfl
  · obtain ⟨sm, hd⟩ := h
    rw [List.length_map, List.take_length] at hd
    exact q H2 D sm hD hd
end
/-! ### _number -/
theorem scNumber : FnScope ["world", "bits", "name"] ["world", "bits"] (defScope sNumber) := ⟨rfl, rfl, rfl, by decide +kernel, rfl, by decide +kernel, by decide +kernel⟩
theorem filt_take {α : Type} {p : α → Bool} {l : List α} {i : Nat} {x : α} (h : l[i]? = some x) : (l.take (i + 1)).filter p = (l.take i).filter p ++ (if p x then [x] else []) := by
  rw [take_snoc h, List.filter_append]
  cases e : p x with
  | true => simp [e]
  | false => simp [e]
section
variable {P : Program} {w : World} {K : PySem.W.Frag} {mg : Str → Option Value} {base : Heap} {f : Addr} {fd : FuncData} {k : Nat}
def spNumber (K : PySem.W.Frag) : Sp := fun vs H Q _ => ∃ (x : V) (b : Addr) (ns own : W), vs = [x, .ref b] ∧ Dp K H x (wd ns) ∧ H b = some (BD own own) ∧ own.Nodup ∧ ns.Nodup ∧ ns.length ≤ 1000 ∧ ∀ H', Same H H' → Q (.int (num own ns)) H'
theorem ok_number (F : Fun K "_number" "_number" sNumber f fd) (T : Bl mg) (ms : mg "sum" = none) : FnOk P w K mg base CX0 (k + 1) f fd ["world", "bits"] (spNumber K) := by
  refine F.ok scNumber (fun vs H Q E h => ?_) (fun cdv A outer s H vs Q E hr h => ?_)
  · obtain ⟨x, b, ns, own, rfl, _⟩ := h
    rfl
  obtain ⟨x, b, ns, own, rfl, hx, hb, nd, nn, few, q⟩ := h
  obtain ⟨a, rfl, hT⟩ := of_wd hx
  have hu := hu_of hr
  refine ⟨_, pss_one (ps_ret (pe_callB (cr_sum rfl) (by rfl) ms (by decide +kernel) (pa_cons (pe_lc (own := [("name", 2)]) (g := gName 2) (tt := tTest (tDIn (tVar 2) (tVar 1))) (te := tDGet (tVar 1) (tVar 2)) (by rfl) scNumber.nd (pi_tup (pv 0)) (blkOk_by (N := ["world", "bits", "name"]) (sc := defScope sNumber) (by decide +kernel))
        (fun _ _ _ _ _ => pg_name (i := 2) scNumber.nd rfl (Or.inl rfl)) (fun _ _ _ _ _ => pts_one (pt_cmp (pc_din hu (pv 2) (pv 1)) (by rfl))) (fun _ _ _ _ _ => pe_dget hu (pv 1) (pv 2) (fun _ _ => rfl))) pa_nil))), ?_⟩
  refine ⟨.ref a, rfl, a, rfl, ⟨_, hT⟩, fun D hD => ?_⟩
  refine lc_tup (xs := ns.map V.str) (fun i H1 => Same H H1 ∧ H1 D = some (.lst ((((ns.take i).filter fun z => decide (z ∈ own)).map (bitOf own)).map V.int))) ⟨same_new hD _, upd_same⟩ (fun i H1 _ hI => same_tup hI.1 hT) (fun i x H1 hx hI => ?_) (fun H1 hI => ?_)
  · obtain ⟨sm, hd⟩ := hI
    obtain ⟨z, hz, rfl⟩ := map_at hx
    have hb1 := sm _ _ hb
    by_cases e : z ∈ own
    · have hv : some (V.int (bitOf own z)) = valV (own.map fun z => ((.inr z : Key), V.int (bitOf own z))) (.inr z) := by rw [valBD, if_pos e]
      refine ⟨rfl, .str z, rfl, .ref b, rfl, b, some (.int (bitOf own z)), rfl, .inl ⟨_, .inr z, .inl hb1, rfl, hv⟩, true, rfl, iteT ?_⟩
      refine ⟨.ref b, rfl, .str z, rfl, b, .int (bitOf own z), rfl, .inl ⟨_, .inr z, .inl hb1, rfl, hv⟩, _, hd, small_line' ?_, same_put sm hD, ?_⟩
      · rw [List.length_map, List.length_map]
        have := List.length_filter_le (fun z => decide (z ∈ own)) (ns.take i)
        rw [List.length_take] at this
        omega
      · rw [upd_same, filt_take hz, if_pos (decide_eq_true e), List.map_append, List.map_append]
        rfl
    · have hv : none = valV (own.map fun z => ((.inr z : Key), V.int (bitOf own z))) (.inr z) := by rw [valBD, if_neg e]
      refine ⟨rfl, .str z, rfl, .ref b, rfl, b, none, rfl, .inl ⟨_, .inr z, .inl hb1, rfl, hv⟩, false, rfl, iteF ⟨sm, ?_⟩⟩
      rw [hd, filt_take hz, if_neg (by simpa using e), List.append_nil]
  · obtain ⟨sm, hd⟩ := hI
    rw [List.length_map, List.take_length] at hd
    refine ⟨D, ((ns.filter fun z => decide (z ∈ own)).map (bitOf own)), rfl, SqL.of hd, ?_⟩
    rw [num_sum nd nn]
    exact q H1 sm
end
end Rw
namespace Rw
open PySem PySem.Spec PyProof.Rows L2
/-! ### _numbered -/
abbrev nNumbered : List Str := ["program", "bits", "rows", "heads", "denied", "needs", "bars"]
theorem scNumbered : FnScope nNumbered ["program", "bits"] (defScope sNumbered) := ⟨rfl, rfl, rfl, by decide +kernel, rfl, by decide +kernel, by decide +kernel⟩
/-- a rule in numbers -/
abbrev N4 : Type := Int × Int × Int × Int
def numR (own : W) (r : Rl) : N4 := (num own r.1, num own r.2.1, num own r.2.2.1, num own r.2.2.2)
def d4 (n : N4) : PyData := .tuple [.int n.1, .int n.2.1, .int n.2.2.1, .int n.2.2.2]
theorem ok_d4 (n : N4) : okD (d4 n) = true := rfl
/-- a list of data -/
def L4 (K : PySem.W.Frag) (H : Hp) (l : Addr) (R : List N4) : Prop := ∃ ys, H l = some (.lst ys) ∧ DpAll K H ys (R.map d4)
theorem okDs_d4 (R : List N4) : okDs (R.map d4) = true := okDs_all fun d hd => by
  obtain ⟨n, _, rfl⟩ := List.mem_map.mp hd
  exact ok_d4 n
theorem L4.same {K : PySem.W.Frag} {H H' : Hp} {l : Addr} {R : List N4} (h : L4 K H l R) (e : Same H H') : L4 K H' l R := by
  obtain ⟨ys, h1, h2⟩ := h
  exact ⟨ys, e _ _ h1, (Stay.same e).dpAll _ _ (okDs_d4 R) h2⟩
theorem of_d4 {K : PySem.W.Frag} {H : Hp} {x : V} {n : N4} (h : Dp K H x (d4 n)) : ∃ a, x = .ref a ∧ SqT K H a [.int n.1, .int n.2.1, .int n.2.2.1, .int n.2.2.2] := by
  unfold d4 at h
  cases h with
  | @tup a xs _ hT hxs =>
    cases hxs with
    | cons h1 t =>
      cases t with
      | cons h2 t =>
        cases t with
        | cons h3 t =>
          cases t with
          | cons h4 t =>
            cases t
            cases h1
            cases h2
            cases h3
            cases h4
            exact ⟨a, rfl, hT⟩
theorem to_d4 {K : PySem.W.Frag} {H : Hp} {a : Addr} {n : N4} (h : SqT K H a [.int n.1, .int n.2.1, .int n.2.2.1, .int n.2.2.2]) : Dp K H (.ref a) (d4 n) := .tup h (.cons (.int _) (.cons (.int _) (.cons (.int _) (.cons (.int _) .nil))))
section
variable {P : Program} {w : World} {K : PySem.W.Frag} {mg : Str → Option Value} {base : Heap} {f : Addr} {fd : FuncData} {k : Nat}
def spNumbered (K : PySem.W.Frag) (C : Addr) : Sp := fun vs H Q _ => ∃ (v : V) (b : Addr) (S : List Rl) (own : W), vs = [v, .ref b] ∧ PgAt K C H v S ∧ (∀ r ∈ S, IsR r) ∧ S.length < 76 ∧ H b = some (BD own own) ∧ own.Nodup ∧ ∀ H' l, Same H H' → H l = none → L4 K H' l (S.map (numR own)) → Q (.ref l) H'
theorem ok_numbered {C pr f1 f2 : Addr} {fd1 fd2 : FuncData} (F : Fun K "_numbered" "_numbered" sNumbered f fd) (T : Bl mg) (c : Cls K C) (hp : PropOf K C "rules" pr f2)
    (G1 : FnOk P w K mg base CX0 (k + 1) f1 fd1 ["world", "bits"] (spNumber K)) (b1 : Binds K fd1 ["world", "bits"] []) (k1 : PySem.W.keepIn K (.ref f1) = true) (m1 : mg "_number" = some (.ref f1))
    (G2 : FnOk P w K mg base CX0 k f2 fd2 ["self"] (spRules K C)) (b2 : Binds K fd2 ["self"] []) : FnOk P w K mg base CX0 (k + 2) f fd ["program", "bits"] (spNumbered K C) := by
  refine F.ok scNumbered (fun vs H Q E h => ?_) (fun cdv A outer s H vs Q E hr h => ?_)
  · obtain ⟨v, b, S, own, rfl, _⟩ := h
    rfl
  obtain ⟨v, b, S, own, rfl, hS, hI, few, hb, nd, q⟩ := h
  refine ⟨_, pss_cons (ps_set (i := 2) scNumbered.nd rfl (.inl rfl) (pe_lst pa_nil))
    (pss_cons (ps_for PassesOwn.never rfl (pi_tup (pe_prop (pv 0) c hp G2 hr b2 .nil pass0 rfl)) (pg_tup (by rfl) (pgs_cons (pg_name (i := 3) scNumbered.nd rfl (.inl rfl)) (pgs_cons (pg_name (i := 4) scNumbered.nd rfl (.inl rfl)) (pgs_cons (pg_name (i := 5) scNumbered.nd rfl (.inl rfl)) (pgs_cons (pg_name (i := 6) scNumbered.nd rfl (.inl rfl)) pgs_nil)))))
      (pss_one (ps_expr (pe_bm PySem.F.plainAttrs_list PySem.F.slot_list_append PySem.F.type_list_append mt_append (pv 2) (pa_cons (pe_tup
        (pa_cons (pe_call G1 hr (by rfl) m1 k1 b1 .nil pass0 (pa_cons (pv 3) (pa_cons (pv 1) pa_nil)))
        (pa_cons (pe_call G1 hr (by rfl) m1 k1 b1 .nil pass0 (pa_cons (pv 4) (pa_cons (pv 1) pa_nil)))
        (pa_cons (pe_call G1 hr (by rfl) m1 k1 b1 .nil pass0 (pa_cons (pv 5) (pa_cons (pv 1) pa_nil)))
        (pa_cons (pe_call G1 hr (by rfl) m1 k1 b1 .nil pass0 (pa_cons (pv 6) (pa_cons (pv 1) pa_nil))) pa_nil))))) pa_nil)))))
    (pss_one (ps_ret (pv 2)))), ?_⟩
  refine ⟨by show 0 ≤ sizeLine; decide, fun d hd0 => ?_⟩
  have s0 := same_new hd0 (.lst [])
  have hdS : (upd H d (.lst [])) d = some (.lst []) := upd_same
  let H0 : Hp := upd H d (.lst [])
  have mutd : Mut (H0 d) := by
    show Mut ((upd H d (.lst [])) d)
    rw [hdS]
    exact True.intro
  have hS1 := hS.same s0
  obtain ⟨a, dx, t0, ys0, rfl, i1, i2, i3⟩ := id hS1
  refine ⟨.ref a, rfl, a, dx, _, rfl, i1, .ref a, S, rfl, hS1, fun t ys ht hys => ?_⟩
  have yl : ys.length = S.length := by rw [dpAll_len hys, List.length_map]
  refine ⟨t, rfl, ⟨_, ht⟩, ?_⟩
  refine for_tup (xs := ys) (fun i σ H2 => (∃ y3 y4 y5 y6, σ = [some (.ref a), some (.ref b), some (.ref d), y3, y4, y5, y6]) ∧ Same H H2 ∧ Bar d H0 H2 ∧ L4 K H2 d ((S.take i).map (numR own))) ⟨⟨_, _, _, _, rfl⟩, s0, fun _ _ _ e => e, [], hdS, .nil⟩ (fun i σ H2 _ hI2 => ?_) (fun i x σ H2 hx hI2 => ?_) (fun σ H2 hI2 => ?_)
  · exact (hI2.2.2.1.stay mutd).seq ht
  · obtain ⟨⟨y3, y4, y5, y6, rfl⟩, sm, bar, zs, hd2, hzs⟩ := hI2
    obtain ⟨dd, hdd, hxd⟩ := dpAll_at' hys hx
    obtain ⟨r, hr0, rfl⟩ := map_at hdd
    have hr' := hI r (List.mem_of_getElem? hr0)
    have st : Stay H0 H2 := bar.stay mutd
    obtain ⟨b0, v1, v2, v3, v4, rfl, hT, h1, h2, h3, h4⟩ := of_rd (st.rd hxd)
    have hb2 := sm _ _ hb
    refine ⟨b0, _, rfl, hT, rfl, _, _, rfl, _, _, rfl, _, _, rfl, _, [], rfl, rfl, ?_⟩
    refine ⟨.ref d, rfl, .inl ⟨rfl, zs, SqL.of hd2⟩, ?_⟩
    refine ⟨v1, rfl, .ref b, rfl, v1, b, r.1, own, rfl, h1, hb2, nd, upX_nodup hr'.h.up, by have := hr'.h.few; omega, fun H3 s3 => ?_⟩
    refine ⟨v2, rfl, .ref b, rfl, v2, b, r.2.1, own, rfl, (Stay.same s3).wd h2, s3 _ _ hb2, nd, upX_nodup hr'.d.up, by have := hr'.d.few; omega, fun H4 s4 => ?_⟩
    have s24 := s3.trans s4
    refine ⟨v3, rfl, .ref b, rfl, v3, b, r.2.2.1, own, rfl, (Stay.same s24).wd h3, s24 _ _ hb2, nd, upX_nodup hr'.n.up, by have := hr'.n.few; omega, fun H5 s5 => ?_⟩
    have s25 := s24.trans s5
    refine ⟨v4, rfl, .ref b, rfl, v4, b, r.2.2.2, own, rfl, (Stay.same s25).wd h4, s25 _ _ hb2, nd, upX_nodup hr'.b.up, by have := hr'.b.few; omega, fun H6 s6 => ?_⟩
    have s26 := s25.trans s6
    refine ⟨by show 4 ≤ sizeLine; decide, fun u hu => ?_⟩
    have s7 := same_new hu (.tup [.int (num own r.1), .int (num own r.2.1), .int (num own r.2.2.1), .int (num own r.2.2.2)])
    have s27 := s26.trans s7
    have hd7 := s27 _ _ hd2
    have il : i < S.length := (List.getElem?_eq_some_iff.mp hr0).1
    have m7 : Mut ((upd H6 u (.tup [.int (num own r.1), .int (num own r.2.1), .int (num own r.2.2.1), .int (num own r.2.2.2)])) d) := by
      rw [hd7]
      exact True.intro
    refine ⟨d, zs, _, rfl, rfl, hd7, small_line' (by rw [dpAll_len hzs, List.length_map, List.length_map, List.length_take]; omega), ?_⟩
    have st8 := Stay.put m7 (.lst (zs ++ [.ref u]))
    refine ⟨⟨_, _, _, _, rfl⟩, same_put (sm.trans s27) hd0, (bar.trans (.same s27)).trans .draw, zs ++ [.ref u], upd_same, ?_⟩
    rw [take_snoc hr0, List.map_append, List.map_append]
    refine dpAll_app (((Stay.same s27).trans st8).dpAll _ _ (okDs_d4 _) hzs) (.cons (st8.dp _ _ (ok_d4 _) (to_d4 (SqT.of upd_same))) .nil)
  · obtain ⟨⟨y3, y4, y5, y6, rfl⟩, sm, bar, hL⟩ := hI2
    rw [yl, List.take_length] at hL
    exact ⟨.ref d, rfl, q H2 d sm hd0 hL⟩
end
end Rw
namespace Rw
open PySem PySem.Spec PyProof.Rows L2
/-! ### _agree, _all_met -/
abbrev nAgree : List Str := ["rows", "here", "there", "heads", "denied", "needs", "bars"]
theorem scAgree : FnScope nAgree ["rows", "here", "there"] (defScope sAgree) := ⟨rfl, rfl, rfl, by decide +kernel, rfl, by decide +kernel, by decide +kernel⟩
def nz (i : Int) : Bool := i != 0
def passI (n : N4) (here there : Int) : Bool := nz (Builtin.bitAnd n.2.2.1 (Builtin.bitNot here)) || (nz (Builtin.bitAnd n.2.2.2 there) || (nz (Builtin.bitAnd n.1 here) || nz (Builtin.bitAnd n.2.1 (Builtin.bitNot there))))
def agreeI (R : List N4) (here there : Int) : Bool := R.all fun n => passI n here there
theorem all_take12 {α : Type} {p : α → Bool} {S : List α} {i : Nat} {r : α} (hr : S[i]? = some r) (h : (S.take i).all p = true) (b : p r = true) : (S.take (i + 1)).all p = true := by
  rw [take_snoc hr, List.all_append, h]
  simp [b]
theorem all_no12 {α : Type} {p : α → Bool} {S : List α} {i : Nat} {r : α} (hr : S[i]? = some r) (b : p r = false) : S.all p = false := by
  rw [List.all_eq_false]
  exact ⟨r, List.mem_of_getElem? hr, by simp [b]⟩
section
variable {P : Program} {w : World} {K : PySem.W.Frag} {mg : Str → Option Value} {base : Heap} {f : Addr} {fd : FuncData} {k : Nat}
def spAgree (K : PySem.W.Frag) : Sp := fun vs H Q _ => ∃ (l : Addr) (h t : Int) (R : List N4), vs = [.ref l, .int h, .int t] ∧ L4 K H l R ∧ Q (.bl (agreeI R h t)) H
theorem ok_agree (F : Fun K "_agree" "_agree" sAgree f fd) : FnOk P w K mg base CX0 (k + 1) f fd ["rows", "here", "there"] (spAgree K) := by
  refine F.ok scAgree (fun vs H Q E h => ?_) (fun cdv A outer s H vs Q E hr h => ?_)
  · obtain ⟨l, h, t, R, rfl, _⟩ := h
    rfl
  obtain ⟨l, h, t, R, rfl, ⟨ys, hl, hys⟩, q⟩ := h
  refine ⟨_, pss_cons (ps_for PassesOwn.never rfl (pi_list (pv 0)) (pg_tup (by rfl) (pgs_cons (pg_name (i := 3) scAgree.nd rfl (.inl rfl)) (pgs_cons (pg_name (i := 4) scAgree.nd rfl (.inl rfl)) (pgs_cons (pg_name (i := 5) scAgree.nd rfl (.inl rfl)) (pgs_cons (pg_name (i := 6) scAgree.nd rfl (.inl rfl)) pgs_nil)))))
      (pss_one (ps_if (pt_not (PW.pt
        (pw_or (pt_truth (pe_op op_and (pv 5) (pe_un un_inv (pv 1))) (by intro _; rfl))
        (pw_or (pt_truth (pe_op op_and (pv 6) (pv 2)) (by intro _; rfl))
        (pw_or (pt_truth (pe_op op_and (pv 3) (pv 1)) (by intro _; rfl))
        (pw_or1 (pt_truth (pe_op op_and (pv 4) (pe_un un_inv (pv 2))) (by intro _; rfl))))))))
        (pss_one (ps_ret pe_bl)) pss_nil)))
    (pss_one (ps_ret pe_bl)), ?_⟩
  have yl : ys.length = R.length := by rw [dpAll_len hys, List.length_map]
  refine ⟨.ref l, rfl, l, rfl, ⟨_, SqL.of hl⟩, ?_⟩
  refine for_list (xs := ys) (fun i σ H2 => (∃ y3 y4 y5 y6, σ = [some (.ref l), some (.int h), some (.int t), y3, y4, y5, y6]) ∧ H2 = H ∧ (R.take i).all (fun n => passI n h t) = true) ⟨⟨_, _, _, _, rfl⟩, rfl, rfl⟩ (fun i σ H2 _ hI2 => by rw [hI2.2.1]; exact SqL.of hl) (fun i x σ H2 hx hI2 => ?_) (fun σ H2 hI2 => ?_)
  · obtain ⟨⟨y3, y4, y5, y6, rfl⟩, rfl, ha⟩ := hI2
    obtain ⟨dd, hdd, hxd⟩ := dpAll_at' hys hx
    obtain ⟨n, hn, rfl⟩ := map_at hdd
    obtain ⟨u, rfl, hT⟩ := of_d4 hxd
    refine ⟨u, _, rfl, hT, rfl, _, _, rfl, _, _, rfl, _, _, rfl, _, [], rfl, rfl, ?_⟩
    have no : passI n h t = false → Q (.bl false) H2 := fun e => by
      rw [show agreeI R h t = false from all_no12 hn e] at q
      exact q
    have yes : passI n h t = true → (∃ y3 y4 y5 y6, [some (V.ref l), some (.int h), some (.int t), some (.int n.1), some (.int n.2.1), some (.int n.2.2.1), some (.int n.2.2.2)] = [some (.ref l), some (.int h), some (.int t), y3, y4, y5, y6]) ∧ H2 = H2 ∧ (R.take (i + 1)).all (fun n => passI n h t) = true := fun e => ⟨⟨_, _, _, _, rfl⟩, rfl, all_take12 hn ha e⟩
    refine ⟨.int n.2.2.1, rfl, .int h, rfl, h, rfl, _, _, rfl, rfl, nz (Builtin.bitAnd n.2.2.1 (Builtin.bitNot h)), rfl, ite2 (fun e => ?_) (fun e => ?_)⟩
    · exact iteF (yes (by unfold passI; rw [e]; rfl))
    refine ⟨.int n.2.2.2, rfl, .int t, rfl, _, _, rfl, rfl, nz (Builtin.bitAnd n.2.2.2 t), rfl, ite2 (fun e2 => ?_) (fun e2 => ?_)⟩
    · exact iteF (yes (by unfold passI; rw [e2]; simp))
    refine ⟨.int n.1, rfl, .int h, rfl, _, _, rfl, rfl, nz (Builtin.bitAnd n.1 h), rfl, ite2 (fun e3 => ?_) (fun e3 => ?_)⟩
    · exact iteF (yes (by unfold passI; rw [e3]; simp))
    refine ⟨.int n.2.1, rfl, .int t, rfl, t, rfl, _, _, rfl, rfl, nz (Builtin.bitAnd n.2.1 (Builtin.bitNot t)), rfl, ?_⟩
    have p4 : passI n h t = nz (Builtin.bitAnd n.2.1 (Builtin.bitNot t)) := by
      unfold passI
      simp [Bool.eq_false_iff.mpr e, Bool.eq_false_iff.mpr e2, Bool.eq_false_iff.mpr e3]
    cases e4 : nz (Builtin.bitAnd n.2.1 (Builtin.bitNot t)) with
    | true => exact iteF (yes (p4.trans e4))
    | false => exact iteT (no (p4.trans e4))
  · obtain ⟨⟨y3, y4, y5, y6, rfl⟩, rfl, ha⟩ := hI2
    rw [yl, List.take_length] at ha
    rw [show agreeI R h t = true from ha] at q
    exact q
/-- rules of heads and needs -/
abbrev N2 : Type := Int × Int
def d2 (n : N2) : PyData := .tuple [.int n.1, .int n.2]
theorem ok_d2 (n : N2) : okD (d2 n) = true := rfl
def L2' (K : PySem.W.Frag) (H : Hp) (l : Addr) (R : List N2) : Prop := ∃ ys, H l = some (.lst ys) ∧ DpAll K H ys (R.map d2)
theorem okDs_d2 (R : List N2) : okDs (R.map d2) = true := okDs_all fun d hd => by
  obtain ⟨n, _, rfl⟩ := List.mem_map.mp hd
  exact ok_d2 n
theorem of_d2 {K : PySem.W.Frag} {H : Hp} {x : V} {n : N2} (h : Dp K H x (d2 n)) : ∃ a, x = .ref a ∧ SqT K H a [.int n.1, .int n.2] := by
  unfold d2 at h
  cases h with
  | @tup a xs _ hT hxs =>
    cases hxs with
    | cons h1 t =>
      cases t with
      | cons h2 t =>
        cases t
        cases h1
        cases h2
        exact ⟨a, rfl, hT⟩
theorem to_d2 {K : PySem.W.Frag} {H : Hp} {a : Addr} {n : N2} (h : SqT K H a [.int n.1, .int n.2]) : Dp K H (.ref a) (d2 n) := .tup h (.cons (.int _) (.cons (.int _) .nil))
def metI (n : N2) (here : Int) : Bool := nz (Builtin.bitAnd n.2 (Builtin.bitNot here)) || nz (Builtin.bitAnd n.1 here)
def allMetI (R : List N2) (here : Int) : Bool := R.all fun n => metI n here
def spAllMet (K : PySem.W.Frag) : Sp := fun vs H Q _ => ∃ (l : Addr) (h : Int) (R : List N2), vs = [.ref l, .int h] ∧ L2' K H l R ∧ Q (.bl (allMetI R h)) H
end
end Rw
namespace Rw
open PySem PySem.Spec PyProof.Rows L2
/-! ### t[::-1], t a tuple: always a new one -/
section
variable {prog : Program} {w : World} {A : Around} {E : Value → Shared → Prop} {s : Shared}
theorem rev_adjust (n : Nat) : Builtin.Slice.sliceAdjust none none (-1) (n : Int) = ((n : Int) - 1, -1) := by
  unfold Builtin.Slice.sliceAdjust
  simp
theorem rev_places (n : Nat) : Builtin.Slice.slicePlaces ((n : Int) - 1) (-1) (-1) = n := by
  unfold Builtin.Slice.slicePlaces
  have h1 : ¬ ((-1 : Int) > 0) := by decide
  rw [if_neg h1]
  by_cases h : (n : Int) - 1 > -1
  · rw [if_pos h, show (-(-1) : Int) = 1 by decide, Int.ediv_one]
    omega
  · rw [if_neg h]
    omega
theorem fm_congr {α β : Type} {f g : α → Option β} : ∀ {l : List α}, (∀ k ∈ l, f k = g k) → l.filterMap f = l.filterMap g
  | [], _ => rfl
  | a :: l, h => by
    rw [List.filterMap_cons, List.filterMap_cons, h a List.mem_cons_self, fm_congr fun k hk => h k (List.mem_cons_of_mem _ hk)]
theorem rev_pick (xs : Array Value) : ((List.range xs.size).filterMap fun (k : Nat) => xs[(((xs.size : Int) - 1) + (k : Int) * (-1)).toNat]?).toArray = xs.toList.reverse.toArray := by
  have e : ∀ k ∈ List.range xs.size, xs[(((xs.size : Int) - 1) + (k : Int) * (-1)).toNat]? = xs[xs.size - 1 - k]? := fun k hk => by
    have := List.mem_range.mp hk
    congr 1
    omega
  rw [fm_congr e, show (fun k => xs[xs.size - 1 - k]?) = (fun x : Nat => xs[x]?) ∘ fun k => xs.size - 1 - k from rfl, ← List.filterMap_map, PySem.W.krv_range, List.filterMap_reverse, PySem.W.krv_all]
theorem sliceApplied_rev {sl : Addr} {vl vu vs : Value} {n : Nat} {Q : Int × Int × Nat → Shared → Prop} (hs : s.heap.IsSliceOf sl vl vu vs) (pl : IsPart vl none) (pu : IsPart vu none) (ps : IsPart vs (some (-1)))
    (h : Q ((n : Int) - 1, -1, n) s) : wpAny (model prog w) A (Builtin.Slice.sliceApplied (.ref sl) (pure (n : Int))) Q E s := by
  obtain ⟨os, hos, hcs, hds⟩ := id hs
  unfold Builtin.Slice.sliceApplied Builtin.Slice.sliceFields
  refine wpAny_bind (wpAny_bind (wpAny_field hos hds (x := vl) rfl (wpAny_bind (wpAny_field hos hds (x := vu) rfl (wpAny_bind (wpAny_field hos hds (x := vs) rfl (wpAny_pure ?_)))))))
  refine wpAny_bind (HT.slicePart_ ps ?_)
  show wpAny _ _ (if ((-1 : Int) == 0) = true then _ else _) _ _ s
  rw [if_neg (by decide)]
  refine wpAny_bind (HT.slicePart_ pl (wpAny_bind (HT.slicePart_ pu (wpAny_bind (wpAny_pure ?_)))))
  show wpAny _ _ (match Builtin.Slice.sliceAdjust none none (-1) (n : Int) with | (lo, hi) => pure (lo, (-1 : Int), Builtin.Slice.slicePlaces lo hi (-1))) _ _ s
  rw [rev_adjust n]
  show wpAny _ _ (pure ((n : Int) - 1, (-1 : Int), Builtin.Slice.slicePlaces ((n : Int) - 1) (-1) (-1))) _ _ s
  rw [rev_places]
  exact wpAny_pure h
theorem getItem_tuple_rev {t sl : Addr} {items : Array Value} {vl vu vs : Value} {Q : Value → Shared → Prop} (ht : IsTup s.heap t items) (hs : s.heap.IsSliceOf sl vl vu vs) (pl : IsPart vl none) (pu : IsPart vu none) (ps : IsPart vs (some (-1)))
    (h : Q (.ref s.heap.objs.size) { s with heap := s.heap.push { cls := .type "tuple", data := .seq items.toList.reverse.toArray } })
    (hsz : items.size ≤ sizeLine) : wpAny (model prog w) A (getItem (.ref t) (.ref sl)) Q E s := by
  have htake : sizeOk (.seq items.toList.reverse.toArray) := by
    show items.toList.reverse.toArray.size ≤ sizeLine
    rw [List.size_toArray, List.length_reverse, Array.length_toList]
    exact hsz
  obtain ⟨os, hos, hcs, hds⟩ := id hs
  have hTs : s.TypeIs (.ref sl) "slice" := ⟨os, hos, hcs⟩
  unfold getItem
  try with_reducible refine wpAny_holding ?_
  first | refine wpAny_bind (wpAny_pure ?_) | skip
  refine wpAny_bind (wpAny_sequenceKey ht.typeIs (by decide) ?_)
  refine wpAny_bind (wpAny_callSpecial?_slot (name := Str.ofString "__getitem__") ht.typeIs PyProof.Rows.slot_tuple_getitem
    (wpAny_call_entry PyProof.Rows.slot_tuple_getitem ht.typeIs PyProof.Rows.entry_tuple_getitem ?_ (PyProof.Rows.args_tuple_getitem _ _)))
  show wpAny _ _ (Builtin.Tuple.tupleItemsOf (.ref t) >>= _) _ _ s
  refine wpAny_bind (PyProof.Rows.tupleItemsOf_ ht ?_)
  refine wpAny_bind (wpAny_typeOf hTs ?_)
  rw [if_pos (by decide)]
  refine wpAny_bind (sliceApplied_rev hs pl pu ps ?_)
  have hno : ¬ ((((items.size : Int) - 1) == 0 && (-1 : Int) == 1 && items.size == items.size) = true) := by
    intro q
    rw [Bool.and_eq_true, Bool.and_eq_true] at q
    exact absurd q.1.2 (by decide)
  show wpAny _ _ (if (((items.size : Int) - 1) == 0 && (-1 : Int) == 1 && items.size == items.size) = true then _ else _) _ _ s
  rw [if_neg hno, rev_pick]
  first
    | exact wpAny_bind (m := Builtin.Tuple.tupleExact _) (wpAny_newObj_type (wpAny_pure ⟨_, rfl, wpAny_pure h⟩) htake)
    | exact wpAny_bind (m := Builtin.Tuple.tupleExact _) (wpAny_newObj_type (wpAny_bind (wpAny_pure (wpAny_pure ⟨_, rfl, wpAny_pure h⟩))) htake)
    | exact wpAny_bind (wpAny_bind (m := Builtin.Tuple.tupleExact _) (wpAny_newObj_type (wpAny_pure (wpAny_pure ⟨_, rfl, wpAny_pure h⟩)) htake))
    | exact wpAny_bind (wpAny_bind (m := Builtin.Tuple.tupleExact _) (wpAny_newObj_type (wpAny_pure ⟨_, rfl, wpAny_pure h⟩) htake))
end
section
variable {X : Cx}
def tRevT (K : PySem.W.Frag) (te : TE) : TE := fun σ H Q => te σ H fun x H1 => ∃ a xs, x = .ref a ∧ SqT K H1 a xs ∧ ∀ p, H1 p = none → Q (.ref p) (upd H1 p (.tup xs.reverse))
theorem pe_revT {e : Expr} {te : TE} {k : Nat} {p1 p2 p3 pos : Pos} (he : PE X e te) : PE X (.Subscript e (.Slice none none (some (.UnaryOp .USub (.Constant (.int 1) k p1) p2)) p3) pos) (tRevT X.K te) := by
  refine ⟨fun pins s σ H Q I h => ?_⟩
  refine Subscript_ (thn (he.run pins s σ H _ I h) fun v s1 ⟨x, H1, I1, r1, q1⟩ => ?_)
  obtain ⟨a, xs, ex, hx, q⟩ := q1
  subst ex
  cases r1
  have hst : PO X (some (.UnaryOp .USub (.Constant (.int 1) k p1) p2)) (tPart (tUn (rU fun i => .int (-i)) (tC (.int 1)))) := po_some (pe_un un_neg pe_int)
  refine wpAny_Slice (thn (po_none.run pins s1 σ H1 (fun o H2 => o = none ∧ H2 = H1) I1 ⟨rfl, rfl⟩) fun vl s2 ⟨l, H2, I2, pl, el, e2⟩ => ?_)
  subst el e2
  refine thn (po_none.run pins s2 σ H2 (fun o H3 => o = none ∧ H3 = H2) I2 ⟨rfl, rfl⟩) fun vu s3 ⟨u, H3, I3, pu, eu, e3⟩ => ?_
  subst eu e3
  refine thn (hst.run pins s3 σ H3 (fun o H4 => o = some (-1) ∧ H4 = H3) I3 ⟨1, rfl, -1, rfl, rfl, rfl⟩) fun vs s4 ⟨o, H4, I4, ps, eo, e4⟩ => ?_
  subst eo e4
  have I5 : Inv X pins σ H4 { s4 with heap := s4.heap.push { cls := .type "slice", data := .fields #[vl, vu, vs] } } := I4.kept (t' := s4.toks) fun b ob q => Heap.get?_push_of_some _ q
  obtain ⟨its, r, ht, hz⟩ := I5.tuple hx
  have hlen := r.length
  show wpAny (model X.prog X.w) X.A (subscriptTail e (.Slice none none (some (.UnaryOp .USub (.Constant (.int 1) k p1) p2)) p3) (.ref a) (.ref s4.heap.objs.size)) (EP X pins σ Q) X.xe { s4 with heap := s4.heap.push { cls := .type "slice", data := .fields #[vl, vu, vs] } }
  refine tail_any (ops := [.ref a, .ref s4.heap.objs.size]) ht.typeIs (PyProof.Rows.slot_tuple_getitem.lookup) ?_ (by with_unfolding_all rfl)
  refine getItem_tuple_rev ht (Heap.IsSliceOf.new _ vl vu vs) pl pu ps ?_ (by rw [List.size_toArray]; omega)
  refine ⟨.ref _, _, I5.laid (t' := s4.toks) (o := .tup xs.reverse) (fun b ob q => Heap.get?_push_of_some _ q) (Nat.le_refl _) ?_, rfl, q _ (I5.hok.fresh (Nat.le_refl _))⟩
  exact ⟨by rw [List.length_reverse]; exact hz, _, r.reverse, IsTup.new _ _⟩
end
end Rw
namespace Rw
open PySem PySem.Spec PyProof.Rows L2
/-! ### _every_world -/
abbrev nEvery : List Str := ["names", "found", "name", "begun", "world"]
theorem scEvery : FnScope nEvery ["names"] (defScope sEvery) := ⟨rfl, rfl, rfl, by decide +kernel, rfl, by decide +kernel, by decide +kernel⟩
/-- a list of worlds -/
def WLs (K : PySem.W.Frag) (H : Hp) (l : Addr) (S : List W) : Prop := ∃ ys, H l = some (.lst ys) ∧ DpAll K H ys (S.map wd)
theorem okDs_wds (S : List W) : okDs (S.map wd) = true := okDs_all fun d hd => by
  obtain ⟨n, _, rfl⟩ := List.mem_map.mp hd
  exact ok_wd n
theorem WLs.same {K : PySem.W.Frag} {H H' : Hp} {l : Addr} {S : List W} (h : WLs K H l S) (e : Same H H') : WLs K H' l S := by
  obtain ⟨ys, h1, h2⟩ := h
  exact ⟨ys, e _ _ h1, (Stay.same e).dpAll _ _ (okDs_wds S) h2⟩
theorem dps_app12 {K : PySem.W.Frag} {H : Hp} {ys : List V} {es : List PyData} (h2 : DpAll K H ys es) : ∀ {xs : List V} {ds : List PyData}, DpAll K H xs ds → DpAll K H (xs ++ ys) (ds ++ es)
  | [], [], .nil => h2
  | _ :: _, _ :: _, .cons h t => .cons h (dps_app12 h2 t)
theorem dps_tail {K : PySem.W.Frag} {H : Hp} : ∀ {xs : List V} {ds : List PyData}, DpAll K H xs ds → DpAll K H xs.tail ds.tail
  | [], [], .nil => .nil
  | _ :: _, _ :: _, .cons h t => t
theorem rev_at {own : W} {i : Nat} {x : V} (h : (own.map V.str).reverse[i]? = some x) : ∃ z, x = .str z ∧ i < own.length ∧ own.drop (own.length - (i + 1)) = z :: own.drop (own.length - i) := by
  obtain ⟨hi, e⟩ := List.getElem?_eq_some_iff.mp h
  have hi' : i < own.length := by simpa using hi
  rw [List.getElem_reverse, List.getElem_map] at e
  have e3 : (own.map V.str).length - 1 - i = own.length - (i + 1) := by
    rw [List.length_map]
    omega
  have lt : own.length - (i + 1) < own.length := by omega
  refine ⟨own[own.length - (i + 1)], ?_, hi', ?_⟩
  · rw [← e]
    congr 1
    simp only [e3]
  · rw [List.drop_eq_getElem_cons lt, show own.length - (i + 1) + 1 = own.length - i by omega]
theorem cut_tail (xs : List V) (h : 1 ≤ xs.length) : cutV xs (some 1) none = xs.tail := by
  cases xs with
  | nil => exact absurd h (by simp)
  | cons x xs =>
    unfold cutV
    have e1 : HT.sIx (x :: xs).length 0 (some 1) = 1 := by
      have z := HT.sIx_nat (x :: xs).length 0 1
      rw [show ((1 : Nat) : Int) = 1 from rfl] at z
      rw [z, List.length_cons]
      omega
    rw [e1, HT.sIx_none]
    simp
section
variable {P : Program} {w : World} {K : PySem.W.Frag} {mg : Str → Option Value} {base : Heap} {f : Addr} {fd : FuncData} {k : Nat}
def spEvery (K : PySem.W.Frag) : Sp := fun vs H Q _ => ∃ (a : Addr) (own : W), vs = [.ref a] ∧ SqT K H a (own.map V.str) ∧ own.length ≤ 10 ∧ ∀ H' l, Same H H' → H l = none → WLs K H' l (everyW own) → Q (.ref l) H'
theorem ok_every (F : Fun K "_every_world" "_every_world" sEvery f fd) : FnOk P w K mg base CX0 (k + 1) f fd ["names"] (spEvery K) := by
  refine F.ok scEvery (fun vs H Q E h => ?_) (fun cdv A outer s H vs Q E hr h => ?_)
  · obtain ⟨a, own, rfl, _⟩ := h
    rfl
  obtain ⟨a, own, rfl, hT, few, q⟩ := h
  refine ⟨_, pss_cons (ps_set (i := 1) scEvery.nd rfl (.inl rfl) (pe_lst (pa_cons (pe_tup pa_nil) pa_nil)))
    (pss_cons (ps_for PassesOwn.never rfl (pi_tup (pe_revT (pv 0))) (pg_name (i := 2) scEvery.nd rfl (.inr rfl))
      (pss_cons (ps_setLc (i := 3) (own := [("world", 4)]) (g := gName 4) (te := tTup (tCons (tVar 2) (StX.tStar K (tVar 4) tNil))) (by rfl) scEvery.nd rfl rfl (sw_true rfl rfl rfl (by decide +kernel)) (pi_list (pv 1)) (blkOk_by (N := nEvery) (sc := defScope sEvery) (by decide +kernel))
        (fun _ _ _ _ _ => pg_name (i := 4) scEvery.nd rfl (Or.inl rfl)) (fun _ _ _ _ _ => pts_nil) (fun _ _ _ _ _ => pe_tup (pa_cons (pv 2) (StX.pa_star (pv 4) pa_nil))))
      (pss_one (ps_set (i := 1) scEvery.nd rfl (.inl rfl) (pe_op op_cat (pe_op op_cat (pe_lst (pa_cons (pe_tup pa_nil) pa_nil)) (pv 3)) (pe_slice sl_list (pv 1) (po_some pe_int) po_none))))))
    (pss_one (ps_ret (pv 1)))), ?_⟩
  refine ⟨by show 0 ≤ sizeLine; decide, fun t0 ht0 => ?_⟩
  have s0 := same_new ht0 (.tup [])
  refine ⟨by show 1 ≤ sizeLine; decide, fun l0 hl0 => ?_⟩
  have s1 := same_new hl0 (.lst [.ref t0])
  have s01 := s0.trans s1
  refine ⟨.ref a, rfl, a, _, rfl, same_tup s01 hT, fun r hr0 => ?_⟩
  have s2 := same_new hr0 (.tup (own.map V.str).reverse)
  have s02 := s01.trans s2
  refine ⟨r, rfl, ⟨_, SqT.of upd_same⟩, ?_⟩
  let HR : Hp := upd (upd (upd H t0 (.tup [])) l0 (.lst [.ref t0])) r (.tup (own.map V.str).reverse)
  have hrT : SqT K HR r (own.map V.str).reverse := SqT.of upd_same
  refine for_tup (xs := (own.map V.str).reverse) (fun i σ H2 => (∃ l y2 y3, σ = [some (.ref a), some (.ref l), y2, y3, none] ∧ H l = none ∧ WLs K H2 l (everyW (own.drop (own.length - i)))) ∧ Same HR H2) ⟨⟨l0, _, _, rfl, none_back s0 hl0, ?_⟩, fun _ _ e => e⟩ (fun i σ H2 _ hI2 => same_tup hI2.2 hrT) (fun i x σ H2 hx hI2 => ?_) (fun σ H2 hI2 => ?_)
  · rw [Nat.sub_zero, List.drop_length]
    refine ⟨[.ref t0], s2 _ _ upd_same, .cons (to_wd (ns := []) ?_) .nil⟩
    exact same_tup (s1.trans s2) (SqT.of upd_same)
  · obtain ⟨⟨l, y2, y3, rfl, hln, ys, hl, hys⟩, sm⟩ := hI2
    obtain ⟨z, rfl, il, ed⟩ := rev_at hx
    rw [ed]
    generalize hS : everyW (own.drop (own.length - i)) = S at hys
    have Sl : S.length ≤ 1024 := by
      rw [← hS, every_len, List.length_drop]
      have : 2 ^ (own.length - (own.length - i)) ≤ 2 ^ 10 := Nat.pow_le_pow_right (by decide) (by omega)
      omega
    have S1 : 1 ≤ S.length := by
      rw [← hS, every_len]
      exact Nat.pow_pos (by decide)
    have yl : ys.length = S.length := by rw [dpAll_len hys, List.length_map]
    have en : everyW (z :: own.drop (own.length - i)) = [] :: (S.map (fun t => z :: t) ++ S.tail) := by
      show [] :: ((everyW (own.drop (own.length - i))).map (fun t => z :: t) ++ (everyW (own.drop (own.length - i))).tail) = _
      rw [hS]
    rw [en]
    refine ⟨.ref l, rfl, l, rfl, ⟨_, SqL.of hl⟩, fun D hD => ?_⟩
    refine lc_list (xs := ys) (fun j H3 => Same H2 H3 ∧ ∃ zs, H3 D = some (.lst zs) ∧ DpAll K H3 zs ((S.take j).map fun t => wd (z :: t))) ⟨same_new hD _, [], upd_same, .nil⟩ (fun j H3 _ h => SqL.of (h.1 _ _ hl)) (fun j y H3 hy h => ?_) (fun H3 h => ?_)
    · obtain ⟨s3, zs, hd, hzs⟩ := h
      obtain ⟨de, hde, hyd⟩ := dpAll_at' hys hy
      obtain ⟨t, ht, rfl⟩ := map_at hde
      obtain ⟨b, rfl, hB⟩ := of_wd ((Stay.same s3).wd hyd)
      have tl : t.length ≤ 10 := by
        have z2 : t ∈ S := List.mem_of_getElem? ht
        rw [← hS] at z2
        have := (mem_every.mp z2).length_le
        rw [List.length_drop] at this
        omega
      refine ⟨rfl, .str z, rfl, .ref b, rfl, b, _, rfl, .inl hB, ?_⟩
      refine ⟨by
        show (V.str z :: (t.map V.str ++ [])).length ≤ sizeLine
        rw [List.append_nil, List.length_cons, List.length_map]
        exact small_line (by omega), fun u hu => ?_⟩
      have eu : (V.str z :: (t.map V.str ++ [])) = (z :: t).map V.str := by
        rw [List.append_nil]
        rfl
      rw [eu]
      have s4 := same_new hu (.tup ((z :: t).map V.str))
      have hd4 := s4 _ _ hd
      have m4 : Mut ((upd H3 u (.tup ((z :: t).map V.str))) D) := by
        rw [hd4]
        exact True.intro
      have jl : j < S.length := (List.getElem?_eq_some_iff.mp ht).1
      have st5 := Stay.put m4 (.lst (zs ++ [.ref u]))
      refine ⟨zs, hd4, small_line' (by rw [dpAll_len hzs, List.length_map, List.length_take]; omega), same_put (s3.trans s4) hD, zs ++ [.ref u], upd_same, ?_⟩
      rw [take_snoc ht, List.map_append]
      refine dps_app12 (.cons (st5.wd (to_wd (SqT.of upd_same))) .nil) (((Stay.same s4).trans st5).dpAll _ _ (okDs_all fun d hd => ?_) hzs)
      obtain ⟨q, _, rfl⟩ := List.mem_map.mp hd
      exact ok_wd _
    · obtain ⟨s3, zs, hd, hzs⟩ := h
      rw [yl, List.take_length] at hzs
      have zl : zs.length = S.length := by rw [dpAll_len hzs, List.length_map]
      refine ⟨by show 0 ≤ sizeLine; decide, fun t1 ht1 => ?_⟩
      have s4 := same_new ht1 (.tup [])
      refine ⟨by show 1 ≤ sizeLine; decide, fun l1 hl1 => ?_⟩
      have s5 := same_new hl1 (.lst [.ref t1])
      have s45 := s4.trans s5
      refine ⟨.ref D, rfl, l1, D, [.ref t1], zs, rfl, rfl, upd_same, s45 _ _ hd, small_line (by rw [List.length_singleton, zl]; omega), fun p hp => ?_⟩
      have s6 := same_new hp (.lst ([.ref t1] ++ zs))
      have s46 := s45.trans s6
      refine ⟨.ref l, rfl, 1, rfl, l, ys, rfl, SqL.of ((s3.trans s46) _ _ hl), fun p2 hp2 => ?_⟩
      rw [cut_tail ys (by omega)]
      have s7 := same_new hp2 (.lst ys.tail)
      have s47 := s46.trans s7
      refine ⟨p, p2, [.ref t1] ++ zs, ys.tail, rfl, rfl, s7 _ _ upd_same, upd_same, small_line (by rw [List.length_append, List.length_singleton, List.length_tail]; omega), fun p3 hp3 => ?_⟩
      have s8 := same_new hp3 (.lst ([.ref t1] ++ zs ++ ys.tail))
      have s48 := s47.trans s8
      have sAll := sm.trans (s3.trans s48)
      refine ⟨⟨p3, _, _, rfl, none_back (s02.trans (sm.trans (s3.trans s47))) hp3, _, upd_same, ?_⟩, sAll⟩
      rw [List.map_cons, List.map_append, List.map_map, ← List.cons_append]
      have h1 := (Stay.same s48).dpAll _ _ (okDs_all fun d hd => by
        obtain ⟨q, _, rfl⟩ := List.mem_map.mp hd
        exact ok_wd _) hzs
      have h2 := (Stay.same (s3.trans s48)).dpAll _ _ (okDs_wds S) hys
      have h3 : DpAll K _ ys.tail (S.map wd).tail := dps_tail h2
      rw [← List.map_tail] at h3
      refine dps_app12 h3 (.cons ?_ h1)
      exact to_wd (ns := []) (same_tup (s5.trans (s6.trans (s7.trans s8))) (SqT.of upd_same))
  · obtain ⟨⟨l, y2, y3, rfl, hln, hW⟩, sm⟩ := hI2
    rw [List.length_reverse, List.length_map, Nat.sub_self, List.drop_zero] at hW
    exact ⟨.ref l, rfl, q H2 l (s02.trans sm) hln hW⟩
end
end Rw
namespace Rw
open PySem PySem.Spec PyProof.Rows L2 GenW
/-! ### for and if in a generator's body -/
section
variable {prog : Program} {w : World} {A : Around} {R : GenEnd} {Y : Protocol} {n : Nat} {s₀ : Shared} {fs : List Frame} {s : Shared} {env : Env}
def noted (env : Env) (x : Value) : Sem PySem.Fin := (do noteFrame x env; theTreesLotGoes x : Sem Unit).wrap (fun _ => .raise x) .raise id id
theorem seg_forLoop {target : Expr} {it : Value} {body : List Stmt}
    (h : wpAny (model prog w) (A.over (.forLoop target it body [] env) fs) (pyNext it) (fun r s' => match r with
        | none => Seg (model prog w) A R Y n s₀ (.block [] env) ((model prog w).den (.block [] env)) fs s'
        | some v => wpAny (model prog w) (A.over (.forLoop target it body [] env) fs) (letOwnedTupleGo target it v) (fun _ s1 =>
            wpAny (model prog w) (A.over (.forLoop target it body [] env) fs) (assign target env v) (fun _ s2 =>
              Seg (model prog w) A R Y n s₀ (.forLoop target it body [] env) ((execs body env).wrap (fun f => match f with
                | .next | .cont => .pure (.again (.forLoop target it body [] env))
                | .brk => .pure (.done .next)
                | .ret v => .pure (.done (.ret v))) (noted env) id id) fs s2)
              (fun x s' => Seg (model prog w) A R Y n s₀ (.forLoop target it body [] env) (noted env x) fs s') s1)
            (fun x s' => Seg (model prog w) A R Y n s₀ (.forLoop target it body [] env) (noted env x) fs s') s')
      (fun x s' => Seg (model prog w) A R Y n s₀ (.forLoop target it body [] env) (noted env x) fs s') s) :
    Seg (model prog w) A R Y n s₀ (.forLoop target it body [] env) ((model prog w).den (.forLoop target it body [] env)) fs s := by
  show Seg _ A R Y n s₀ _ ((forTurn target it body [] env).onRaise (fun x => do noteFrame x env; theTreesLotGoes x)) fs s
  rw [Sem.onRaise_eq_wrap]
  have eN : (fun e => (do noteFrame e env; theTreesLotGoes e : Sem Unit).bind fun _ => (.raise e : Sem PySem.Fin)) = noted env := by
    funext e
    unfold noted
    rw [Sem.bind_eq_wrap]
  have eN' : (fun e => ((fun x => do noteFrame x env; theTreesLotGoes x : Value → Sem Unit) e).bind fun _ => (.raise e : Sem PySem.Fin)) = noted env := eN
  rw [eN']
  unfold forTurn
  refine seg_bind_wrap (wpAny_standAt ?_)
  refine seg_bind_wrap (wpAny_onRaise (wpAny_mono h (fun r s1 h1 => ?_) fun x s1 hx => wpAny_standAt hx))
  cases r with
  | none =>
    show Seg _ A R Y n s₀ _ (.pure (.again (.block [] env))) fs s1
    exact seg_again rfl h1
  | some v =>
    refine seg_bind_wrap (wpAny_mono h1 (fun _ s2 h2 => ?_) fun x s2 hx => hx)
    refine seg_bind_wrap (wpAny_mono h2 (fun _ s3 h3 => ?_) fun x s3 hx => hx)
    rw [Sem.bind_eq_wrap', Sem.wrap_wrap]
    exact Eq.mpr (congrArg (fun t => Seg (model prog w) A R Y n s₀ (.forLoop target it body [] env) t fs s3) (Sem.wrap_congr (execs body env) _ _ (fun f => by cases f <;> rfl) (fun e => rfl))) h3
theorem seg_For {target iter : Expr} {body : List Stmt} {pos : Pos} {c : Code} {K : Flow → Sem PySem.Fin} {J : Value → Sem PySem.Fin} {gd : Bool → Bool} {lv : List Value → List Value}
    (h : wpAny (model prog w) (A.over c fs) (eval iter env) (fun x s1 => wpAny (model prog w) (A.over c fs) (pyIter x) (fun it s2 => ∀ p,
      Seg (model prog w) A R Y n s₀ (.forLoop target it body [] env) ((model prog w).den (.forLoop target it body [] env))
        (.ret (fun r => ((match r with | .ok f => (.pure f : Sem Flow) | .error e => .raise e).onRaise (cameBack env)).wrap K J gd lv) none (gd false) (lv []) c p [] :: fs) s2)
        (fun x s' => Seg (model prog w) A R Y n s₀ c (J x) fs s') s1) (fun x s' => Seg (model prog w) A R Y n s₀ c (J x) fs s') s)
    (hs : ∀ x, foldedSetIterable iter env x = pure x) :
    Seg (model prog w) A R Y n s₀ c ((exec (.For target iter body [] pos) env).wrap K J gd lv) fs s := by
  rw [exec_For]
  refine seg_bind_wrap (wpAny_standAt ?_)
  refine seg_bind_wrap (wpAny_mono h (fun x s1 h1 => ?_) fun x s1 hx => hx)
  refine seg_bind_wrap (wpAny_of_eq (hs x) ?_)
  refine seg_bind_wrap (wpAny_standAt ?_)
  refine seg_bind_wrap (wpAny_holding (wpAny_mono h1 (fun it s2 h2 => ?_) fun x s2 hx => hx))
  exact seg_call h2
end
section
variable {X : Cx}
def tGIf (c : TT) (t u : TGn) : TGn := fun D ys σ H => c σ H fun b H1 => if b = true then t D ys σ H1 else u D ys σ H1
theorem gs_if {test : Expr} {body orelse : List Stmt} {pos : Pos} {tc : TT} {t u : TGn} (hc : PT X test tc) (ha : GSs X body t) (hb : GSs X orelse u) : GS X (.If test body orelse pos) (tGIf tc t u) := by
  refine ⟨fun A S ip R n ys s₀ c fs K J gd lv s σ H D g hn k hI ht => ?_⟩
  rw [arm_exec_If]
  refine seg_bind_wrap (wpAny_standAt ?_)
  refine seg_bind_wrap ?_
  rw [g.over]
  obtain ⟨acc, cc, r, I⟩ := hI
  refine wpAny_mono (hc.run _ s σ H _ I ht) (fun b s' hb' => ?_) fun x s' hx => k.exc n s₀ x s' hx
  obtain ⟨H1, I1, q1⟩ := hb'
  cases b with
  | true =>
    rw [if_pos rfl] at q1
    exact ha.run A S ip R n ys s₀ c fs K J gd lv s' σ H1 D g hn k ⟨acc, cc, r, I1⟩ q1
  | false =>
    rw [if_neg Bool.false_ne_true] at q1
    exact hb.run A S ip R n ys s₀ c fs K J gd lv s' σ H1 D g hn k ⟨acc, cc, r, I1⟩ q1
def tGFor (wi : TI) (g : TG) (tb : TGn) : TGn := fun D ys σ H => wi σ H fun J H1 => ∃ W : Nat → Nat → List V → L2.St → Hp → Prop, (∃ m, W 0 m ys σ H1) ∧ ∀ i m ys σ H, W i m ys σ H →
  (J.stop i H ∧ D.nx ys σ H) ∨ (J.go i H ∧ ∃ N : List V → L2.St → Hp → Prop, (∀ ys' σ' H', N ys' σ' H' → ∃ m', m' < m ∧ W (i + 1) m' ys' σ' H') ∧
    ∀ x H', J.yld i H x H' → g x σ H' fun σ2 H2 => tb { D with nx := N, ct := N, bk := D.nx } ys σ2 H2)
theorem gs_for {tg iter : Expr} {body : List Stmt} {pos : Pos} {wi : TI} {g : TG} {tb : TGn} (hp : PassesOwn (model X.prog X.w) X.A X.env X.xe) (hc : X.calm = true) (hi : PI X tg iter wi) (hg : PG X tg g) (hb : GSs X body tb)
    (hs : ∀ x, foldedSetIterable iter X.env x = pure x := by intro _; rfl) : GS X (.For tg iter body [] pos) (tGFor wi g tb) := by
  refine ⟨fun A S ip R n ys s₀ c fs K J gd lv s σ H D gc hn k hI ht => ?_⟩
  refine seg_For ?_ hs
  rw [gc.over]
  obtain ⟨acc, cc, r, I⟩ := hI
  refine wpAny_mono (hi.run _ s σ H _ I ht) (fun v s1 h1 => ?_) fun x s' hx => k.exc n s₀ x s' hx
  refine wpAny_mono h1 (fun itv s2 h2 => ?_) fun x s' hx => k.exc n s₀ x s' hx
  obtain ⟨it, fp, tn, J0, H2, e, I2, T, st2, f2, W, ⟨m0, w0⟩, turn⟩ := h2
  subst e
  intro p
  have neS : ∀ b ∈ fp, b ≠ S := fun b hb z => (f2 b hb).2.2.2.2.2 (S, lstObj acc cc) (List.mem_append_right _ List.mem_cons_self) z.symm
  have statG : ∀ {acc' : Array Value} {c' : Nat} {H' : Hp}, (∀ b ∈ fp, H' b = none) → ∀ b ∈ fp, FpOk X ((S, lstObj acc' c') :: ip) H' b := fun {acc' c' H'} hn b hb => by
    obtain ⟨f0, fa, fb, fc, fd, fe⟩ := f2 b hb
    refine ⟨hn b hb, fa, fb, fc, fd, fun p hp => ?_⟩
    rcases List.mem_append.mp hp with hp | hp
    · exact fe p (List.mem_append_left _ hp)
    · rcases List.mem_cons.mp hp with rfl | hp
      · exact (neS b hb).symm
      · exact fe p (List.mem_append_right _ (List.mem_cons_of_mem _ hp))
  have gl := fun (kk : Result → Sem PySem.Fin) => gc_loop (k := kk) (c' := .forLoop tg (.ref it) body [] X.env) (l := lv []) (kp := []) (p := p) gc rfl rfl
  have loop : ∀ (m i n : Nat) (ys : List V) (s₀ s : Shared) (σ : L2.St) (H : Hp), n + ys.length = sizeLine → W i m ys σ H → GI X S ip ys σ H s → tn i s.heap → (∀ b ∈ fp, H b = none) →
      Seg (model X.prog X.w) A R (GY X S) n s₀ (.forLoop tg (.ref it) body [] X.env) ((model X.prog X.w).den (.forLoop tg (.ref it) body [] X.env))
        (.ret (fun r => ((match r with | .ok f => (.pure f : Sem Flow) | .error e => .raise e).onRaise (cameBack X.env)).wrap K J gd lv) none (gd false) (lv []) c p [] :: fs) s := by
    intro m
    induction m using Nat.strongRecOn with
    | ind m ih =>
      intro i n ys s₀ s σ H hn w hI st fr
      have ee : ∀ (n : Nat) (s₀ : Shared) (x : Value) (s' : Shared), X.xe x s' → Seg (model X.prog X.w) A R (GY X S) n s₀ (.forLoop tg (.ref it) body [] X.env) (noted X.env x)
          (.ret (fun r => ((match r with | .ok f => (.pure f : Sem Flow) | .error e => .raise e).onRaise (cameBack X.env)).wrap K J gd lv) none (gd false) (lv []) c p [] :: fs) s' := fun n s₀ x s' hx => by
        unfold noted
        refine seg_wrap ?_
        rw [(gl _).over]
        refine wpAny_bind (wpAny_mono (hp x s' hx) (fun _ s'' hcb => wpAny_theTreesLotGoes ?_) fun y s'' hcb => ?_)
        · exact seg_leaf (.error x) (seg_cameBack gc k hcb)
        · exact seg_leaf (.error y) (seg_cameBack gc k hcb)
      refine seg_forLoop ?_
      rw [(gl _).over]
      obtain ⟨acc1, c1, r1, I1⟩ := hI
      rcases turn i m ys σ H w with ⟨stop, qn⟩ | ⟨go, N, hN, step⟩
      · refine wpAny_mono (T.done X rfl rfl rfl hc i _ s σ H X.xe I1 (statG fr) st stop) (fun rr s4 h4 => ?_) fun x s' hx => ee n s₀ x s' hx
        obtain ⟨hr, I4⟩ := h4
        subst hr
        show Seg _ A R _ n s₀ _ ((execs [] X.env).onRaise _ >>= fun f => pure (Fin.done f)) _ s4
        exact seg_leaf (.ok .next) (k.ok n ys s₀ s4 .next hn ⟨σ, H, ⟨acc1, c1, r1, I4⟩, qn⟩)
      · refine wpAny_mono (T.item X rfl rfl rfl hc i _ s σ H X.xe I1 (statG fr) st go) (fun rr s4 h4 => ?_) fun x s' hx => ee n s₀ x s' hx
        obtain ⟨u, hr, h4⟩ := h4
        subst hr
        refine wpAny_mono h4 (fun _ s5 h5 => ?_) fun x s' hx => ee n s₀ x s' hx
        obtain ⟨x, H5, I5, r5, y5, st5, fr5⟩ := h5
        have I5' : Inv X ((S, lstObj acc1 c1) :: (ip ++ pinsAt fp s5.heap)) σ H5 s5 := I5.pinned (statG fr5) (T.obj _ _ st5)
        refine wpAny_mono (hg.run _ s5 σ H5 x u _ I5' r5 (step x H5 y5)) (fun _ s6 h6 => ?_) fun x s' hx => ee n s₀ x s' hx
        obtain ⟨σ6, H6, I6, q6⟩ := h6
        have gl2 := fun (kk : Result → Sem PySem.Fin) => (gl kk)
        have gcb : GC X S (ip ++ pinsAt fp s5.heap) A (.forLoop tg (.ref it) body [] X.env) (.ret (fun r => ((match r with | .ok f => (.pure f : Sem Flow) | .error e => .raise e).onRaise (cameBack X.env)).wrap K J gd lv) none (gd false) (lv []) c p [] :: fs) id := by
          obtain ⟨g1, g2, g3, g4, g5, g6, g7⟩ := gl (fun r => ((match r with | .ok f => (.pure f : Sem Flow) | .error e => .raise e).onRaise (cameBack X.env)).wrap K J gd lv)
          refine ⟨g1, fun p hp => ?_, g3, g4, g5, g6, g7⟩
          rcases List.mem_append.mp hp with hp | hp
          · exact g2 p hp
          · exact neS _ (of_pinsAt hp).1
        have out : ∀ {ys' : List V} {σ7 : L2.St} {H7 : Hp} {s7 : Shared}, GI X S (ip ++ pinsAt fp s5.heap) ys' σ7 H7 s7 → GI X S ip ys' σ7 H7 s7 := fun {ys' σ7 H7 s7} h => by
          obtain ⟨a7, c7, r7, I7⟩ := h
          exact ⟨a7, c7, r7, Inv.unpinned (pins := (S, lstObj a7 c7) :: ip) (pl := pinsAt fp s5.heap) I7⟩
        refine hb.run A S _ R n ys s₀ _ _ _ _ id id s6 σ6 H6 { D with nx := N, ct := N, bk := D.nx } gcb hn ⟨fun n' ys' s₀' s7 f hn' hq => ?_, fun n' s₀' x s7 hx => ee n' s₀' x s7 hx⟩ ⟨acc1, c1, r1, I6⟩ q6
        have again : ∀ {σ7 : L2.St} {H7 : Hp}, GI X S (ip ++ pinsAt fp s5.heap) ys' σ7 H7 s7 → N ys' σ7 H7 → Seg (model X.prog X.w) A R (GY X S) n' s₀' (.forLoop tg (.ref it) body [] X.env) (.pure (.again (.forLoop tg (.ref it) body [] X.env)))
            (.ret (fun r => ((match r with | .ok f => (.pure f : Sem Flow) | .error e => .raise e).onRaise (cameBack X.env)).wrap K J gd lv) none (gd false) (lv []) c p [] :: fs) s7 := fun {σ7 H7} I7 n7 => by
          obtain ⟨m', hm, w7⟩ := hN ys' σ7 H7 n7
          obtain ⟨a7, c7, r7, J7⟩ := id I7
          have pinned : ∀ b ∈ fp, ∀ o, s5.heap.get? b = some o → s7.heap.get? b = some o ∧ H7 b = none := fun b hb o e => by
            have := J7.pin (b, o) (List.mem_append_right _ (List.mem_cons_of_mem _ (List.mem_append_right _ (mem_pinsAt hb e))))
            exact ⟨this.1, this.2.1⟩
          refine seg_again rfl (ih m' hm (i + 1) n' ys' s₀' s7 σ7 H7 hn' w7 (out I7) (T.keep _ _ _ st5 fun b hb o e => (pinned b hb o e).1) fun b hb => ?_)
          obtain ⟨o, e, _⟩ := T.obj _ _ st5 b hb
          exact (pinned b hb o e).2
        cases f with
        | next => obtain ⟨σ7, H7, I7, n7⟩ := hq; exact again I7 n7
        | cont => obtain ⟨σ7, H7, I7, n7⟩ := hq; exact again I7 n7
        | brk => obtain ⟨σ7, H7, I7, q7⟩ := hq; exact seg_leaf (.ok .next) (k.ok n' ys' s₀' s7 .next hn' ⟨σ7, H7, out I7, q7⟩)
        | ret v => obtain ⟨x7, σ7, H7, I7, r7, q7⟩ := hq; exact seg_leaf (.ok (.ret v)) (k.ok n' ys' s₀' s7 (.ret v) hn' ⟨x7, σ7, H7, out I7, r7, q7⟩)
  exact loop m0 0 n ys s₀ s2 σ H2 hn w0 ⟨acc, cc, r, I2⟩ st2 fun b hb => (f2 b hb).1
end
/-- a walk over a list in a generator's body -/
theorem for_listG {K : PySem.W.Frag} {a : Addr} {xs : List V} {g : TG} {tb : TGn} {D : GEnds} {ys : List V} {σ : L2.St} {H : Hp} (Pv : Nat → List V → L2.St → Hp → Prop) (h0 : Pv 0 ys σ H) (hl : ∀ i ys σ H, i ≤ xs.length → Pv i ys σ H → SqL K H a xs)
    (hs : ∀ i x ys σ H, xs[i]? = some x → Pv i ys σ H → g x σ H fun σ2 H2 => tb { D with nx := Pv (i + 1), ct := Pv (i + 1), bk := D.nx } ys σ2 H2) (hd : ∀ ys σ H, Pv xs.length ys σ H → D.nx ys σ H) :
    ∃ W : Nat → Nat → List V → L2.St → Hp → Prop, (∃ m, W 0 m ys σ H) ∧ ∀ i m ys σ H, W i m ys σ H →
      ((Itl K a).stop i H ∧ D.nx ys σ H) ∨ ((Itl K a).go i H ∧ ∃ N : List V → L2.St → Hp → Prop, (∀ ys' σ' H', N ys' σ' H' → ∃ m', m' < m ∧ W (i + 1) m' ys' σ' H') ∧ ∀ x H', (Itl K a).yld i H x H' → g x σ H' fun σ2 H2 => tb { D with nx := N, ct := N, bk := D.nx } ys σ2 H2) := by
  refine ⟨fun i m ys σ H => m = xs.length - i ∧ i ≤ xs.length ∧ Pv i ys σ H, ⟨xs.length, by simp, Nat.zero_le _, h0⟩, ?_⟩
  rintro i m ys σ H ⟨rfl, hi, p⟩
  have q := hl i ys σ H hi p
  by_cases hlt : i < xs.length
  · refine .inr ⟨⟨xs, xs[i], q, by simp [hlt]⟩, Pv (i + 1), fun ys' σ' H' p' => ⟨xs.length - (i + 1), by omega, rfl, hlt, p'⟩, fun x H' y => ?_⟩
    obtain ⟨e, y⟩ := y
    subst e
    exact hs i x ys σ _ (y xs q) p
  · have e : i = xs.length := by omega
    subst e
    exact .inl ⟨⟨xs, q, Nat.le_refl _⟩, hd ys σ H p⟩
end Rw
namespace Rw
open PySem PySem.Spec PyProof.Rows L2
/-! ### a def without defaults, called by names; C() of a class whose __init__ takes *args -/
theorem kbn_fun {K : PySem.W.Frag} {x qual : Str} {st : Stmt} {f : Addr} {fd : FuncData} {ps : List Str} (F : Fun K x qual st f fd) (n : Nat) (ks : List Str) (g : List Value → List Value → List Value) (gV : List V → List V → List V)
    (h : ∀ (kV doc pm : Value) (an : Option Addr) (cdv ct : Value) (us ws : List Value), us.length = n → ws.length = ks.length → bindArgs (PySem.W.fnOf x qual (defArgs st) (defBody st) (defScope st) .none kV doc pm an cdv ct) { pos := us, kw := ks.zip ws } = pure (ps.zip (g us ws)))
    (rel : ∀ {vs : List V} {us : List Value} {zs : List V} {ws : List Value}, Vals vs us → Vals zs ws → Vals (gV vs zs) (g us ws)) : KBn K fd ps n ks g gV := by
  obtain ⟨oc, od, kV, doc, pm, an, cdv, ct, osl, rfl, lk, hcd⟩ := F.ex
  refine ⟨fun s us ws X l1 l2 => ?_, fun a b => rel a b⟩
  intro M A E Q q
  rw [h kV doc pm an cdv ct us ws l1 l2]
  exact wpAny_pure q
theorem pe_makeR0 {X : Cx} {CX : CXT} {k : Nat} {f C : Addr} {sp : Sp} {E : XK} {x : Str} {p pos : Pos} (M : Mk X.K C f) (F : FnR X.prog X.w X.K X.mg X.base CX k f sp) (hr : Room (k + 1) X.A) (hg : Gl X x) (hm : X.mg x = some (.ref C)) (hx : Passes CX X E)
    (hd : (x == ("__debug__" : Str)) = false := by rfl) : PE X (.Call (.Name x p) [] [] pos) (StX.tMakeR C sp E tNil) :=
  ⟨fun pins s σ H Q I h => wpAny_Call_Name_kw (ld_glob I hg hm (PySem.W.callWith_K0 I.kIn M.kp (StX.run_makeR M F hr hx I Paired.nil h)) hd)⟩
theorem passNo {P : Program} {w : World} {X : Cx} : Passes (L2.CX P w) X (fun _ _ _ => False) := fun pins σ H s e s' _ h => by
  obtain ⟨_, _, _, _, _, _, _, _, _, _, _, _, z⟩ := h
  exact z.elim
end Rw
namespace Rw
open PySem PySem.Spec PyProof.Rows L2
/-! ### the worlds of a program, walked -/
theorem scChosen : FnScope ["program", "names", "own"] ["program", "names"] (defScope sChosen) := ⟨rfl, rfl, rfl, by decide +kernel, rfl, by decide +kernel, by decide +kernel⟩
abbrev nWorlds : List Str := ["program", "names", "chosen", "bits", "rows", "world", "there"]
theorem scWorlds : GScope nWorlds ["program", "names"] (defScope sWorlds) := ⟨rfl, rfl, rfl, by decide +kernel, rfl, by decide +kernel, by decide +kernel⟩
section
variable {P : Program} {w : World} {K : PySem.W.Frag} {mg : Str → Option Value} {base : Heap} {f : Addr} {fd : FuncData} {k : Nat}
/-- the names whose worlds are wanted, rightly given -/
def spChosen (K : PySem.W.Frag) (C : Addr) : Sp := fun vs H Q _ => ∃ (v x : V) (S : List Rl) (bd : W), vs = [v, x] ∧ PgAt K C H v S ∧ (∀ r ∈ S, IsR r) ∧ (∀ z ∈ namesL S, z ∈ bd) ∧ bd.length ≤ 40 ∧
  ((x = .non ∧ ∀ H' t (ns : W), Same H H' → SqT K H' t (ns.map V.str) → IsW ns → (∀ z, z ∈ ns ↔ z ∈ namesL S) → Q (.ref t) H') ∨ ∃ ns : W, Dp K H x (wd ns) ∧ IsW ns ∧ (∀ z ∈ namesL S, z ∈ ns) ∧ ∀ H', Same H H' → Q x H')
theorem ok_chosen {C CP pN f1 f2 f3 f4 : Addr} {fd1 fd2 fd3 fd4 : FuncData} (F : Fun K "_chosen_names" "_chosen_names" sChosen f fd) (c : Cls K C) (hp : PropOf K C "names" pN f2)
    (G1 : FnOk P w K mg base (L2.CX P w) (k + 1) f1 fd1 ["thing"] (spCheckProgram K C CP)) (b1 : Binds K fd1 ["thing"] []) (k1 : PySem.W.keepIn K (.ref f1) = true) (m1 : mg "check_program" = some (.ref f1))
    (G2 : FnOk P w K mg base CX0 k f2 fd2 ["self"] (spNames K C)) (b2 : Binds K fd2 ["self"] [])
    (G3 : FnOk P w K mg base CX0 (k + 1) f3 fd3 ["thing"] (spIsWorld K)) (b3 : Binds K fd3 ["thing"] []) (k3 : PySem.W.keepIn K (.ref f3) = true) (m3 : mg "is_world" = some (.ref f3))
    (G4 : FnOk P w K mg base CX0 (k + 1) f4 fd4 ["names", "wanted"] (spHasAll K)) (b4 : Binds K fd4 ["names", "wanted"] []) (k4 : PySem.W.keepIn K (.ref f4) = true) (m4 : mg "has_all" = some (.ref f4)) :
    FnOk P w K mg base CX0 (k + 2) f fd ["program", "names"] (spChosen K C) := by
  refine F.ok scChosen (fun vs H Q E h => ?_) (fun cdv A outer s H vs Q E hr h => ?_)
  · obtain ⟨v, x, S, bd, rfl, _⟩ := h
    rfl
  obtain ⟨v, x, S, bd, rfl, hS, hI, hbd, lbd, h⟩ := h
  refine ⟨_, pss_cons (ps_expr (pe_call G1 hr (by rfl) m1 k1 b1 .nil passNo (pa_cons (pv 0) pa_nil)))
    (pss_cons (ps_set (i := 2) scChosen.nd rfl (.inl rfl) (pe_prop (pv 0) c hp G2 hr b2 .nil pass0 rfl))
    (pss_cons (ps_if (pt_cmpR op_isN (pv 1) pe_non (nomark _)) (pss_one (ps_ret (pv 2))) pss_nil)
    (pss_cons (ps_if (PW.pt (pw_or (pt_not (pt_val (pe_call G3 hr (by rfl) m3 k3 b3 .nil pass0 (pa_cons (pv 1) pa_nil)))) (pw_or1 (pt_not (pt_val (pe_call G4 hr (by rfl) m4 k4 b4 .nil pass0 (pa_cons (pv 1) (pa_cons (pv 2) pa_nil)))))))) pss_never pss_nil)
    (pss_one (ps_ret (pv 1)))))), ?_⟩
  obtain ⟨a, dx, t0, ys0, rfl, i1, i2, i3⟩ := id hS
  refine ⟨.ref a, rfl, .ref a, rfl, .inl ⟨S, hS, ?_⟩⟩
  refine ⟨.ref a, rfl, a, dx, _, rfl, i1, .ref a, S, bd, rfl, hS, hI, hbd, by omega, fun H1 t own s1 ht hown hmem => ?_⟩
  rcases h with ⟨rfl, q⟩ | ⟨ns, hx, hw, hsub, q⟩
  · exact ⟨.non, rfl, rfl, true, congrArg V.bl (decide_eq_true rfl), iteT ⟨.ref t, rfl, q H1 t own s1 ht hown hmem⟩⟩
  · have hx1 := dp_same s1 _ _ hx
    obtain ⟨b, rfl, hb⟩ := of_wd hx1
    refine ⟨.ref b, rfl, rfl, false, congrArg V.bl (decide_eq_false fun z => nomatch z), iteF ?_⟩
    refine ⟨.ref b, rfl, .ref b, wd ns, rfl, hx1, oddW_wd hw, fun H2 s2 => ⟨true, congrArg V.bl (worldD_wd hw), iteF ?_⟩⟩
    have e : sub own ns = true := by
      unfold sub
      rw [List.all_eq_true]
      intro z hz
      exact decide_eq_true (hsub z ((hmem z).mp hz))
    refine ⟨.ref b, rfl, .ref t, rfl, .ref b, .ref t, ns, own, rfl, .wd (dp_same s2 _ _ hx1), .wd (to_wd (same_tup s2 ht)), by have := hown.few; omega, fun H3 s3 => ⟨true, congrArg V.bl e, iteF ?_⟩⟩
    exact ⟨.ref b, rfl, q H3 (s1.trans (s2.trans s3))⟩
/-- worlds(program, names), all told: those in which the program agrees with itself -/
def okW (own : W) (S : List Rl) (t : W) : Bool := agreeI (S.map (numR own)) (num own t) (num own t)
def spWorlds (K : PySem.W.Frag) (C : Addr) : SpG := fun vs H Q _ => ∃ (v x : V) (S : List Rl) (ns : W), vs = [v, x] ∧ PgAt K C H v S ∧ (∀ r ∈ S, IsR r) ∧ S.length < 76 ∧ (∀ z ∈ namesL S, z ∈ ns) ∧ Dp K H x (wd ns) ∧ IsW ns ∧ ns.length ≤ 10 ∧
  ∀ H' xs, Same H H' → DpAll K H' xs (((everyW ns).filter (okW ns S)).map wd) → Q xs H'
theorem ok_worlds {C f1 f2 f3 f4 f5 f6 : Addr} {fd1 fd2 fd3 fd4 fd5 fd6 : FuncData} (F : FunD K "worlds" "worlds" (defArgs sWorlds) (defBody sWorlds) (defScope sWorlds) [.non] [] f fd)
    (G1 : FnOk P w K mg base CX0 k f1 fd1 ["program", "names"] (spChosen K C)) (b1 : Binds K fd1 ["program", "names"] []) (k1 : PySem.W.keepIn K (.ref f1) = true) (m1 : mg "_chosen_names" = some (.ref f1))
    (G2 : FnOk P w K mg base CX0 k f2 fd2 ["names"] (spBitsOf K)) (b2 : Binds K fd2 ["names"] []) (k2 : PySem.W.keepIn K (.ref f2) = true) (m2 : mg "_bits_of" = some (.ref f2))
    (G3 : FnOk P w K mg base CX0 k f3 fd3 ["program", "bits"] (spNumbered K C)) (b3 : Binds K fd3 ["program", "bits"] []) (k3 : PySem.W.keepIn K (.ref f3) = true) (m3 : mg "_numbered" = some (.ref f3))
    (G4 : FnOk P w K mg base CX0 k f4 fd4 ["names"] (spEvery K)) (b4 : Binds K fd4 ["names"] []) (k4 : PySem.W.keepIn K (.ref f4) = true) (m4 : mg "_every_world" = some (.ref f4))
    (G5 : FnOk P w K mg base CX0 k f5 fd5 ["world", "bits"] (spNumber K)) (b5 : Binds K fd5 ["world", "bits"] []) (k5 : PySem.W.keepIn K (.ref f5) = true) (m5 : mg "_number" = some (.ref f5))
    (G6 : FnOk P w K mg base CX0 k f6 fd6 ["rows", "here", "there"] (spAgree K)) (b6 : Binds K fd6 ["rows", "here", "there"] []) (k6 : PySem.W.keepIn K (.ref f6) = true) (m6 : mg "_agree" = some (.ref f6)) :
    GFn P w K mg base (k + 1) f fd ["program", "names"] (spWorlds K C) := by
  obtain ⟨oc, od, dV, kV, doc, pm, an, cdv, ct, osl, rfl, lk, hcd, _, _⟩ := F.ex
  refine gfn_of (N := nWorlds) lk hcd scWorlds (fun vs H Q E h => ?_) (fun A outer s H vs Q E pn hr h => ?_)
  · obtain ⟨v, x, S, ns, rfl, _⟩ := h
    rfl
  obtain ⟨v, x, S, ns, rfl, hS, hI, few, hsub, hx, hw, l10, q⟩ := h
  refine ⟨_, gss_cons (gs_ps (ps_set (i := 2) scWorlds.nd rfl (.inl rfl) (pe_call G1 hr (by rfl) m1 k1 b1 .nil pass0 (pa_cons (pv 0) (pa_cons (pv 1) pa_nil)))))
    (gss_cons (gs_ps (ps_set (i := 3) scWorlds.nd rfl (.inl rfl) (pe_call G2 hr (by rfl) m2 k2 b2 .nil pass0 (pa_cons (pv 2) pa_nil))))
    (gss_cons (gs_ps (ps_set (i := 4) scWorlds.nd rfl (.inl rfl) (pe_call G3 hr (by rfl) m3 k3 b3 .nil pass0 (pa_cons (pv 0) (pa_cons (pv 3) pa_nil)))))
    (gss_cons (gs_for owns_gcx rfl (pi_list (pe_call G4 hr (by rfl) m4 k4 b4 .nil pass0 (pa_cons (pv 2) pa_nil))) (pg_name (i := 5) scWorlds.nd rfl (.inl rfl))
      (gss_cons (gs_ps (ps_set (i := 6) scWorlds.nd rfl (.inl rfl) (pe_call G5 hr (by rfl) m5 k5 b5 .nil pass0 (pa_cons (pv 5) (pa_cons (pv 3) pa_nil)))))
      (gss_cons (gs_if (pt_val (pe_call G6 hr (by rfl) m6 k6 b6 .nil pass0 (pa_cons (pv 4) (pa_cons (pv 6) (pa_cons (pv 6) pa_nil))))) (gss_cons (gs_yield (pv 5)) gss_nil) gss_nil) gss_nil)))
    gss_nil))), ?_⟩
  obtain ⟨av, dx, t0, ys0, rfl, i1, i2, i3⟩ := id hS
  refine ⟨.ref av, rfl, x, rfl, ?_⟩
  dsimp only [tNil]
  refine ⟨.ref av, x, S, ns, rfl, hS, hI, hsub, by have := hw.few; omega, .inr ⟨ns, hx, hw, hsub, fun H1 s1 => ?_⟩⟩
  obtain ⟨tx, rfl, htx⟩ := of_wd (dp_same s1 _ _ hx)
  have nd := upX_nodup hw.up
  refine ⟨.ref tx, rfl, ?_⟩
  dsimp only [tNil]
  refine ⟨tx, ns, rfl, htx, nd, by omega, fun H2 D s2 hDn hD => ?_⟩
  refine ⟨.ref av, rfl, .ref D, rfl, ?_⟩
  dsimp only [tNil]
  have s12 := s1.trans s2
  refine ⟨.ref av, D, S, ns, rfl, hS.same s12, hI, few, hD, nd, fun H3 l s3 hln hl => ?_⟩
  have s13 := s12.trans s3
  have hD3 := s3 _ _ hD
  refine ⟨.ref tx, rfl, ?_⟩
  dsimp only [tNil]
  refine ⟨tx, ns, rfl, same_tup (s2.trans s3) htx, l10, fun H4 lw s4 hlwn hlw => ?_⟩
  obtain ⟨ys4, hl4, hys4⟩ := id hlw
  have s14 := s13.trans s4
  have y4 : ys4.length = (everyW ns).length := by rw [dpAll_len hys4, List.length_map]
  have el : (everyW ns).length ≤ 1024 := by
    rw [every_len]
    exact Nat.le_trans (Nat.pow_le_pow_right (by decide) l10) (by decide)
  refine ⟨lw, rfl, ⟨_, SqL.of hl4⟩, for_listG (xs := ys4) (fun i ys σ H5 => (∃ y5 y6, σ = [some (.ref av), some (.ref tx), some (.ref tx), some (.ref D), some (.ref l), y5, y6]) ∧ Same H4 H5 ∧ DpAll K H5 ys ((((everyW ns).take i).filter (okW ns S)).map wd)) ⟨⟨_, _, rfl⟩, fun _ _ e => e, .nil⟩ (fun i ys σ H5 _ hI5 => SqL.of (hI5.2.1 _ _ hl4)) (fun i u ys σ H5 hu hI5 => ?_) (fun ys σ H5 hI5 => ?_)⟩
  · obtain ⟨⟨y5, y6, rfl⟩, sm, hys⟩ := hI5
    obtain ⟨dd, hdd, hud⟩ := dpAll_at' hys4 hu
    obtain ⟨t, ht, rfl⟩ := map_at hdd
    have hu5 := dp_same sm _ _ hud
    have tsub := mem_every.mp (List.mem_of_getElem? ht)
    refine ⟨u, rfl, .ref D, rfl, ?_⟩
    dsimp only [tNil]
    refine ⟨u, D, t, ns, rfl, hu5, sm _ _ (s4 _ _ hD3), nd, nd.sublist tsub, by have := tsub.length_le; omega, fun H6 s6 => ?_⟩
    refine ⟨.ref l, rfl, .int (num ns t), rfl, .int (num ns t), rfl, ?_⟩
    dsimp only [tNil]
    refine ⟨l, num ns t, num ns t, S.map (numR ns), rfl, hl.same (s4.trans (sm.trans s6)), _, rfl, ?_⟩
    have ln : ys.length ≤ 1024 := by
      rw [dpAll_len hys, List.length_map]
      have := List.length_filter_le (okW ns S) ((everyW ns).take i)
      rw [List.length_take] at this
      omega
    have hys6 := dpAll_same s6 _ _ hys
    show if agreeI (S.map (numR ns)) (num ns t) (num ns t) = true then _ else _
    have et : ((everyW ns).take (i + 1)).filter (okW ns S) = ((everyW ns).take i).filter (okW ns S) ++ (if okW ns S t = true then [t] else []) := filt_take ht
    cases c : okW ns S t with
    | true =>
      rw [if_pos (show agreeI (S.map (numR ns)) (num ns t) (num ns t) = true from c)]
      refine ⟨Nat.lt_of_le_of_lt ln (by decide), u, rfl, ⟨_, _, rfl⟩, sm.trans s6, ?_⟩
      rw [et, c, if_pos rfl, List.map_append]
      exact dps_app12 (.cons (dp_same s6 _ _ hu5) .nil) hys6
    | false =>
      rw [if_neg (by rw [show agreeI (S.map (numR ns)) (num ns t) (num ns t) = false from c]; decide)]
      refine ⟨⟨_, _, rfl⟩, sm.trans s6, ?_⟩
      rw [et, c, if_neg (by decide), List.append_nil]
      exact hys6
  · obtain ⟨⟨y5, y6, rfl⟩, sm, hys⟩ := hI5
    rw [y4, List.take_length] at hys
    exact q H5 ys (s14.trans sm) hys
end
end Rw
namespace Rw
open PySem PySem.Spec PyProof.Rows L2
/-! ### worlds and names asked of as data -/
section
variable {P : Program} {w : World} {K : PySem.W.Frag} {mg : Str → Option Value} {base : Heap} {f : Addr} {fd : FuncData} {k : Nat}
def spHasAllD (K : PySem.W.Frag) : Sp := fun vs H Q _ => ∃ (x y : V) (ns ms : W), vs = [x, y] ∧ Dp K H x (wd ns) ∧ Dp K H y (wd ms) ∧ ms.length ≤ 1000 ∧ ∀ H', Same H H' → Q (.bl (sub ms ns)) H'
theorem ok_hasAllD (G : FnOk P w K mg base CX0 k f fd ["names", "wanted"] (spHasAll K)) : FnOk P w K mg base CX0 k f fd ["names", "wanted"] (spHasAllD K) :=
  G.imp fun vs H Q E ⟨x, y, ns, ms, e, h1, h2, l, q⟩ => ⟨x, y, ns, ms, e, .wd h1, .wd h2, l, q⟩
def spIsWorldD (K : PySem.W.Frag) : Sp := fun vs H Q _ => ∃ (x : V) (ns : W), vs = [x] ∧ Dp K H x (wd ns) ∧ IsW ns ∧ ∀ H', Same H H' → Q (.bl true) H'
theorem ok_isWorldD (G : FnOk P w K mg base CX0 k f fd ["thing"] (spIsWorld K)) : FnOk P w K mg base CX0 k f fd ["thing"] (spIsWorldD K) :=
  G.imp fun vs H Q E ⟨x, ns, e, h1, h2, q⟩ => ⟨x, wd ns, e, h1, oddW_wd h2, fun H' s => by rw [worldD_wd h2]; exact q H' s⟩
end
theorem of_pd {K : PySem.W.Frag} {H : Hp} {x : V} {p : Pr} (h : Dp K H x (pd p)) : ∃ a y z, x = .ref a ∧ SqT K H a [y, z] ∧ Dp K H y (wd p.1) ∧ Dp K H z (wd p.2) := by
  unfold pd at h
  cases h with
  | tup h1 h2 =>
    cases h2 with
    | cons a1 t =>
      cases t with
      | cons a2 t =>
        cases t
        exact ⟨_, _, _, rfl, h1, a1, a2⟩
theorem to_pd {K : PySem.W.Frag} {H : Hp} {a : Addr} {y z : V} {p : Pr} (h : SqT K H a [y, z]) (h1 : Dp K H y (wd p.1)) (h2 : Dp K H z (wd p.2)) : Dp K H (.ref a) (pd p) := .tup h (.cons h1 (.cons h2 .nil))
theorem Stay.pd {K : PySem.W.Frag} {H H' : Hp} {x : V} {p : Pr} (e : Stay H H') (h : Dp K H x (Rw.pd p)) : Dp K H' x (Rw.pd p) := e.dp _ _ (ok_pd p) h
/-! ### what barred tells -/
/-- the first that is told -/
def totalS : Str := ("total" : Str)
def upwardS : Str := ("upward" : Str)
def meetS : Str := ("meet" : Str)
def tops (R : List Pr) : List W := (R.filter fun p => decide (p.1 = p.2)).map (·.2)
def lows (R : List Pr) (t : W) : List W := (R.filter fun p => decide (p.2 = t)).map (·.1)
def totIn (R : List Pr) (p : Pr) : Option PyData := if (p.2, p.2) ∈ R then none else some (.tuple [.str totalS, pd p])
def upIn (R : List Pr) (p : Pr) (h : W) : Option PyData := if sub p.2 h = true ∧ (p.1, h) ∉ R then some (.tuple [.str upwardS, pd p, wd h]) else none
def meIn (R : List Pr) (p : Pr) (o : W) : Option PyData := if (meet p.1 o, p.2) ∈ R then none else some (.tuple [.str meetS, pd p, pd (o, p.2)])
def totO (R : List Pr) : Option PyData := R.findSome? (totIn R)
def upO (R : List Pr) : Option PyData := R.findSome? fun p => (tops R).findSome? (upIn R p)
def meO (R : List Pr) : Option PyData := R.findSome? fun p => (lows R p.2).findSome? (meIn R p)
def or2 (a b : Option PyData) : Option PyData := match a with | none => b | some d => some d
def whyO (R : List Pr) (z : Str) : Option PyData := or2 (or2 (totO R) (if z = anyS then none else upO R)) (if z = singleS then meO R else none)
/-- what is told, as a value -/
def Told (K : PySem.W.Frag) (H : Hp) (x : V) : Option PyData → Prop
  | none => x = .non
  | some d => (∃ a, x = .ref a) ∧ okD d = true ∧ Dp K H x d
theorem Told.stay {K : PySem.W.Frag} {H H' : Hp} {x : V} {o : Option PyData} (h : Told K H x o) (e : Stay H H') : Told K H' x o := by
  cases o with
  | none => exact h
  | some d => exact ⟨h.1, h.2.1, e.dp _ _ h.2.1 h.2.2⟩
theorem told_isN {K : PySem.W.Frag} {H : Hp} {x : V} {o : Option PyData} (h : Told K H x o) : decide (x = V.non) = o.isNone := by
  cases o with
  | none =>
    rw [show x = V.non from h]
    rfl
  | some d =>
    obtain ⟨⟨a, rfl⟩, _⟩ := h
    exact decide_eq_false (fun z => nomatch z)
/-- the list of pairs at l -/
structure PL (K : PySem.W.Frag) (H : Hp) (l : Addr) (R : List Pr) : Prop where
  ex : ∃ xs, SqL K H l xs ∧ DpAll K H xs (R.map pd)
theorem PL.same {K : PySem.W.Frag} {H H' : Hp} {l : Addr} {R : List Pr} (h : PL K H l R) (e : Same H H') : PL K H' l R := by
  obtain ⟨xs, h1, h2⟩ := h.ex
  exact ⟨xs, e.seq h1, (Stay.same e).dpAll _ _ (okDs_all fun d hd => by obtain ⟨p, _, rfl⟩ := List.mem_map.mp hd; exact ok_pd p) h2⟩
/-- the dict of the pairs at d -/
structure PD (K : PySem.W.Frag) (P : Program) (w : World) (H : Hp) (d : Addr) (R : List Pr) : Prop where
  ex : ∃ kvs, H d = some (NDO P w d kvs) ∧ KeysOk K H kvs ∧ kvs.map (·.1) = R.map pd
theorem PD.same {K : PySem.W.Frag} {P : Program} {w : World} {H H' : Hp} {d : Addr} {R : List Pr} (h : PD K P w H d R) (e : Same H H') : PD K P w H' d R := by
  obtain ⟨kvs, h1, h2, h3⟩ := h.ex
  exact ⟨kvs, e _ _ h1, h2.stay (.same e), h3⟩
theorem pd_mem {R : List Pr} {p : Pr} : pd p ∈ R.map pd ↔ p ∈ R :=
  ⟨fun h => by obtain ⟨q, hq, e⟩ := List.mem_map.mp h; rw [← pd_inj e]; exact hq, fun h => List.mem_map.mpr ⟨p, h, rfl⟩⟩
theorem mk_pd {K : PySem.W.Frag} {H H' : Hp} {u : Addr} {y z : V} {p : Pr} (e : Stay H H') (hu : H' u = some (.tup [y, z])) (hy : Dp K H y (wd p.1)) (hz : Dp K H z (wd p.2)) : Dp K H' (.ref u) (pd p) := to_pd (SqT.of hu) (e.wd hy) (e.wd hz)
theorem scBarred : FnScope ["pairs", "names", "kind"] ["pairs", "names", "kind"] (defScope sBarred) := ⟨rfl, rfl, rfl, by decide +kernel, rfl, by decide +kernel, by decide +kernel⟩
theorem scAsked : FnScope ["pairs", "names", "kind", "thing"] ["pairs", "names", "kind"] (defScope sAsked) := ⟨rfl, rfl, rfl, by decide +kernel, rfl, by decide +kernel, by decide +kernel⟩
theorem scWhyNot : FnScope ["chosen", "kind", "present", "why", "pair"] ["chosen", "kind"] (defScope sWhyNot) := ⟨rfl, rfl, rfl, by decide +kernel, rfl, by decide +kernel, by decide +kernel⟩
theorem scTotal : FnScope ["chosen", "present", "here", "there"] ["chosen", "present"] (defScope sTotal) := ⟨rfl, rfl, rfl, by decide +kernel, rfl, by decide +kernel, by decide +kernel⟩
theorem scUpward : FnScope ["chosen", "present", "here", "there", "tops", "high"] ["chosen", "present"] (defScope sUpward) := ⟨rfl, rfl, rfl, by decide +kernel, rfl, by decide +kernel, by decide +kernel⟩
theorem scMeeting : FnScope ["chosen", "present", "lows", "one", "there", "other"] ["chosen", "present"] (defScope sMeeting) := ⟨rfl, rfl, rfl, by decide +kernel, rfl, by decide +kernel, by decide +kernel⟩
theorem scBelow : FnScope ["chosen", "lows", "here", "there"] ["chosen"] (defScope sBelow) := ⟨rfl, rfl, rfl, by decide +kernel, rfl, by decide +kernel, by decide +kernel⟩
theorem scCommon : FnScope ["one", "other", "name"] ["one", "other"] (defScope sCommon) := ⟨rfl, rfl, rfl, by decide +kernel, rfl, by decide +kernel, by decide +kernel⟩
section
variable {P : Program} {w : World} {K : PySem.W.Frag} {mg : Str → Option Value} {base : Heap} {f : Addr} {fd : FuncData} {k : Nat}
/-! ### _common -/
def spCommon (K : PySem.W.Frag) : Sp := fun vs H Q _ => ∃ (x y : V) (ns ms : W), vs = [x, y] ∧ Dp K H x (wd ns) ∧ Dp K H y (wd ms) ∧ ns.length ≤ 1000 ∧ ∀ H' a, Same H H' → H' a = some (.tup ((meet ns ms).map V.str)) → Q (.ref a) H'
theorem ok_common (F : Fun K "_common" "_common" sCommon f fd) (T : Bl mg) : FnOk P w K mg base CX0 (k + 1) f fd ["one", "other"] (spCommon K) := by
  refine F.ok scCommon (fun vs H Q E h => ?_) (fun cdv A outer s H vs Q E hr h => ?_)
  · obtain ⟨x, y, ns, ms, rfl, _⟩ := h
    rfl
  obtain ⟨x, y, ns, ms, rfl, hx, hy, few, q⟩ := h
  obtain ⟨a, rfl, hS⟩ := of_wd hx
  obtain ⟨b, rfl, hT⟩ := of_wd hy
  refine ⟨_, pss_one (ps_ret (pe_callTy call_tuple_of (by rfl) T.tuple (by decide +kernel) (pa_cons (pe_lc (own := [("name", 2)]) (g := gName 2) (by rfl) scCommon.nd (pi_tup (pv 0)) (blkOk_by (N := ["one", "other", "name"]) (sc := defScope sCommon) (by decide +kernel))
        (fun _ _ _ _ _ => pg_name (i := 2) scCommon.nd rfl (Or.inl rfl)) (fun _ _ _ _ _ => pts_one (pt_cmpR (r := rIn K false) op_in_seq (pv 2) (pv 1) (by rfl))) (fun _ _ _ _ _ => pv 2)) pa_nil))), ?_⟩
  refine ⟨.ref a, rfl, a, rfl, ⟨_, hS⟩, fun D hD => ?_⟩
  have s1 : Same H (upd H D (.lst [])) := same_new hD _
  refine lc_tup (xs := ns.map V.str) (fun i H1 => Same H H1 ∧ H1 D = some (.lst (((ns.take i).filter fun z => decide (z ∈ ms)).map V.str))) ⟨s1, upd_same⟩ (fun i H1 _ hI => same_tup hI.1 hS) (fun i x H1 hx hI => ?_) (fun H1 hI => ?_)
  · obtain ⟨sm, hd⟩ := hI
    obtain ⟨z, hz, rfl⟩ := map_at hx
    refine ⟨rfl, .str z, rfl, .ref b, rfl, b, ms.map V.str, rfl, .inr (same_tup sm hT), rfl, flat_strs ms, _, rfl, ?_⟩
    rw [inV_str]
    refine ite2 (fun e => ?_) (fun e => ?_)
    · refine ⟨.str z, rfl, _, hd, small_line' ?_, same_put sm hD, ?_⟩
      · rw [List.length_map]
        have := List.length_filter_le (fun z => decide (z ∈ ms)) (ns.take i)
        rw [List.length_take] at this
        omega
      · rw [upd_same, filt_t hz (show decide (z ∈ ms) = true by simpa using e), List.map_append]
        rfl
    · refine ⟨sm, ?_⟩
      rw [filt_f hz (show decide (z ∈ ms) = false by simpa using e)]
      exact hd
  · obtain ⟨sm, hd⟩ := hI
    rw [List.length_map, List.take_length] at hd
    refine ⟨D, _, rfl, .inl ⟨SqL.of hd, fun l hl => ?_⟩⟩
    exact q _ l (sm.trans (same_new hl _)) upd_same
/-! ### _not_total -/
def spTotal (K : PySem.W.Frag) (P : Program) (w : World) : Sp := fun vs H Q _ => ∃ (l d : Addr) (R : List Pr), vs = [.ref l, .ref d] ∧ PL K H l R ∧ PD K P w H d R ∧ ∀ H' x, Same H H' → Told K H' x (totO R) → Q x H'
theorem ok_total (F : Fun K "_not_total" "_not_total" sTotal f fd) : FnOk P w K mg base CX0 (k + 1) f fd ["chosen", "present"] (spTotal K P w) := by
  refine F.ok scTotal (fun vs H Q E h => ?_) (fun cdv A outer s H vs Q E hr h => ?_)
  · obtain ⟨l, d, R, rfl, _⟩ := h
    rfl
  obtain ⟨l, d, R, rfl, hl, hd, q⟩ := h
  refine ⟨_, pss_cons (ps_for PassesOwn.never rfl (pi_list (pv 0)) (pg_tup (by rfl) (pgs_cons (pg_name (i := 2) scTotal.nd rfl (.inl rfl)) (pgs_cons (pg_name (i := 3) scTotal.nd rfl (.inl rfl)) pgs_nil)))
      (pss_one (ps_if (pt_cmpR (op_notInN hr.units) (pe_tup (pa_cons (pv 3) (pa_cons (pv 3) pa_nil))) (pv 1) (by rfl)) (pss_one (ps_ret (pe_tup (pa_cons pe_str (pa_cons (pe_tup (pa_cons (pv 2) (pa_cons (pv 3) pa_nil))) pa_nil))))) pss_nil)))
    (pss_one (ps_ret pe_non)), ?_⟩
  obtain ⟨xs, hS, hx⟩ := hl.ex
  refine ⟨.ref l, rfl, l, rfl, ⟨_, hS⟩, for_list (xs := xs) (fun i σ H1 => (∃ y2 y3, σ = [some (.ref l), some (.ref d), y2, y3]) ∧ Same H H1 ∧ ∀ p ∈ R.take i, totIn R p = none) ⟨⟨none, none, rfl⟩, fun _ _ e => e, by simp⟩ (fun i σ H1 _ hI => hI.2.1.seq hS) (fun i x σ H1 hxi hI => ?_) (fun σ H1 hI => ?_)⟩
  · obtain ⟨⟨y2, y3, rfl⟩, sm, h0⟩ := hI
    obtain ⟨dd, hdd, hxd⟩ := dpAll_at' hx hxi
    obtain ⟨p, hp, rfl⟩ := map_at hdd
    obtain ⟨a, y, z, rfl, hP, hy, hz⟩ := of_pd ((Stay.same sm).pd hxd)
    refine ⟨a, [y, z], rfl, hP, rfl, y, [z], rfl, z, [], rfl, rfl, ?_⟩
    refine ⟨z, rfl, z, rfl, by show 2 ≤ sizeLine; decide, fun t ht => ?_⟩
    have st : Same H1 (upd H1 t (.tup [z, z])) := same_new ht _
    have dt : Dp K (upd H1 t (.tup [z, z])) (.ref t) (pd (p.2, p.2)) := to_pd (SqT.of upd_same) ((Stay.same st).wd hz) ((Stay.same st).wd hz)
    obtain ⟨kvs, hd1, hd2, hd3⟩ := (hd.same (sm.trans st)).ex
    refine ⟨.ref d, rfl, t, d, kvs, pd (p.2, p.2), rfl, rfl, hd1, hd2, good_pd _, dt, fun b hb => ⟨_, rfl, ?_⟩⟩
    rw [hd3, pd_mem] at hb
    refine ite2 (fun e => ?_) (fun e => ?_)
    · have nb : (p.2, p.2) ∉ R := fun h => by
        rw [hb.mpr h] at e
        exact absurd e (by decide)
      refine ⟨y, rfl, z, rfl, by show 2 ≤ sizeLine; decide, fun u hu => ⟨by show 2 ≤ sizeLine; decide, fun v hv => ?_⟩⟩
      have su := same_new hu (.tup [y, z])
      have sv := same_new hv (.tup [.str totalS, .ref u])
      refine q _ _ (sm.trans (st.trans (su.trans sv))) ?_
      have e0 : totIn R p = some (.tuple [.str totalS, pd p]) := by
        unfold totIn
        rw [if_neg nb]
      have et : totO R = some (.tuple [.str totalS, pd p]) := first_at h0 hp e0
      rw [et]
      exact ⟨⟨v, rfl⟩, by simp [okD, okDs, ok_pd], .tup (SqT.of upd_same) (.cons (.str _) (.cons (mk_pd (.same (st.trans (su.trans sv))) (sv _ _ upd_same) hy hz) .nil))⟩
    · have nb : (p.2, p.2) ∈ R := hb.mp (by simpa using e)
      refine ⟨⟨_, _, rfl⟩, sm.trans st, none_snoc h0 hp ?_⟩
      unfold totIn
      rw [if_pos nb]
  · obtain ⟨⟨y2, y3, rfl⟩, sm, h0⟩ := hI
    refine q H1 _ sm ?_
    have xl : xs.length = R.length := by rw [dpAll_len hx, List.length_map]
    rw [xl, List.take_length] at h0
    have et : totO R = none := first_none h0
    rw [et]
    exact rfl
/-! ### _not_upward -/
def spUpward (K : PySem.W.Frag) (P : Program) (w : World) : Sp := fun vs H Q _ => ∃ (l d : Addr) (R : List Pr), vs = [.ref l, .ref d] ∧ PL K H l R ∧ PD K P w H d R ∧ R.length ≤ 1000 ∧ (∀ p ∈ R, IsW p.1 ∧ IsW p.2) ∧ ∀ H' x, Same H H' → Told K H' x (upO R) → Q x H'
theorem ok_upward {f1 : Addr} {fd1 : FuncData} (F : Fun K "_not_upward" "_not_upward" sUpward f fd) (G1 : FnOk P w K mg base CX0 k f1 fd1 ["names", "wanted"] (spHasAllD K)) (b1 : Binds K fd1 ["names", "wanted"] []) (k1 : PySem.W.keepIn K (.ref f1) = true) (m1 : mg "has_all" = some (.ref f1)) :
    FnOk P w K mg base CX0 (k + 1) f fd ["chosen", "present"] (spUpward K P w) := by
  refine F.ok scUpward (fun vs H Q E h => ?_) (fun cdv A outer s H vs Q E hr h => ?_)
  · obtain ⟨l, d, R, rfl, _⟩ := h
    rfl
  obtain ⟨l, d, R, rfl, hl, hd, few, hR, q⟩ := h
  refine ⟨_, pss_cons (ps_setLc (i := 4) (own := [("here", 2), ("there", 3)]) (g := gTup K 2 (gCons (gName 2) (gCons (gName 3) gNil))) (by rfl) scUpward.nd rfl rfl (sw_true rfl rfl rfl (by decide +kernel)) (pi_list (pv 0)) (blkOk_by (N := ["chosen", "present", "here", "there", "tops", "high"]) (sc := defScope sUpward) (by decide +kernel))
        (fun _ _ _ _ _ => pg_tup (by rfl) (pgs_cons (pg_name (i := 2) scUpward.nd rfl (.inl rfl)) (pgs_cons (pg_name (i := 3) scUpward.nd rfl (.inl rfl)) pgs_nil))) (fun _ _ _ _ _ => pts_one (pt_cmpR (r := rEqD K) (op_eqD hr.units) (pv 2) (pv 3) (nomark _))) (fun _ _ _ _ _ => pv 3))
    (pss_cons (ps_for PassesOwn.never rfl (pi_list (pv 0)) (pg_tup (by rfl) (pgs_cons (pg_name (i := 2) scUpward.nd rfl (.inl rfl)) (pgs_cons (pg_name (i := 3) scUpward.nd rfl (.inl rfl)) pgs_nil)))
      (pss_one (ps_for PassesOwn.never rfl (pi_list (pv 4)) (pg_name (i := 5) scUpward.nd rfl (.inl rfl))
        (pss_one (ps_if (PW.pt (pw_and (pt_val (pe_call G1 hr (by rfl) m1 k1 b1 .nil pass0 (pa_cons (pv 5) (pa_cons (pv 3) pa_nil)))) (pw_and1 (pt_cmpR (op_notInN hr.units) (pe_tup (pa_cons (pv 2) (pa_cons (pv 5) pa_nil))) (pv 1) (by rfl)))))
          (pss_one (ps_ret (pe_tup (pa_cons pe_str (pa_cons (pe_tup (pa_cons (pv 2) (pa_cons (pv 3) pa_nil))) (pa_cons (pv 5) pa_nil)))))) pss_nil)))))
    (pss_one (ps_ret pe_non))), ?_⟩
  obtain ⟨xs, hS, hx⟩ := hl.ex
  have xl : xs.length = R.length := by rw [dpAll_len hx, List.length_map]
  refine ⟨.ref l, rfl, l, rfl, ⟨_, hS⟩, fun D hD => ?_⟩
  refine lc_list (xs := xs) (fun i H1 => Same H H1 ∧ ∃ ys, H1 D = some (.lst ys) ∧ DpAll K H1 ys ((tops (R.take i)).map wd)) ⟨same_new hD _, [], upd_same, .nil⟩ (fun i H1 _ hI => hI.1.seq hS) (fun i x H1 hxi hI => ?_) (fun HB hI => ?_)
  · obtain ⟨sm, ys, hdd, hys⟩ := hI
    obtain ⟨dd, hd1, hxd⟩ := dpAll_at' hx hxi
    obtain ⟨p, hp, rfl⟩ := map_at hd1
    obtain ⟨a, y, z, rfl, hP, hy, hz⟩ := of_pd ((Stay.same sm).pd hxd)
    obtain ⟨w1, w2⟩ := hR p (List.mem_of_getElem? hp)
    have il : i < R.length := (List.getElem?_eq_some_iff.mp hp).1
    refine ⟨a, [y, z], rfl, hP, rfl, y, [z], rfl, z, [], rfl, rfl, rfl, y, rfl, z, rfl, wd p.1, wd p.2, hy, hz, shaped_wd w1, shaped_wd w2, _, rfl, ?_⟩
    rw [eqv_wd]
    refine ite2 (fun e => ?_) (fun e => ?_)
    · have st : Same H (upd H1 D (.lst (ys ++ [z]))) := same_put sm hD
      refine ⟨z, rfl, ys, hdd, small_line' ?_, st, _, upd_same, ?_⟩
      · rw [dpAll_len hys, List.length_map]
        unfold tops
        rw [List.length_map]
        have := List.length_filter_le (fun p : Pr => decide (p.1 = p.2)) (R.take i)
        rw [List.length_take] at this
        omega
      · unfold tops
        rw [filt_t hp e, List.map_append, List.map_append]
        have hm : Mut (H1 D) := by rw [hdd]; exact True.intro
        refine dpAll_app ((Stay.put hm _).dpAll _ _ (okDs_all ?_) hys) (.cons ((Stay.put hm _).wd hz) .nil)
        intro d hd
        obtain ⟨q, _, rfl⟩ := List.mem_map.mp hd
        exact ok_wd q
    · refine ⟨sm, ys, hdd, ?_⟩
      unfold tops
      rw [filt_f hp (by simpa using e)]
      exact hys
  obtain ⟨sB, ys, hDB, hys⟩ := hI
  rw [xl, List.take_length] at hys
  have yl : ys.length = (tops R).length := by rw [dpAll_len hys, List.length_map]
  have hxB : DpAll K HB xs (R.map pd) := by
    obtain ⟨xs', h1, h2⟩ := (hl.same sB).ex
    exact (Stay.same sB).dpAll _ _ (okDs_all fun d hd => by obtain ⟨p, _, rfl⟩ := List.mem_map.mp hd; exact ok_pd p) hx
  refine ⟨.ref l, rfl, l, rfl, ⟨_, sB.seq hS⟩, for_list (xs := xs) (fun i σ H1 => (∃ y2 y3 y5, σ = [some (.ref l), some (.ref d), y2, y3, some (.ref D), y5]) ∧ Same HB H1 ∧ ∀ p ∈ R.take i, (tops R).findSome? (upIn R p) = none) ⟨⟨none, none, none, rfl⟩, fun _ _ e => e, by simp⟩ (fun i σ H1 _ hI => (sB.trans hI.2.1).seq hS) (fun i x σ H1 hxi hI => ?_) (fun σ H1 hI => ?_)⟩
  · obtain ⟨⟨y2, y3, y5, rfl⟩, sm, h0⟩ := hI
    obtain ⟨dd, hdd, hxd⟩ := dpAll_at' hxB hxi
    obtain ⟨p, hp, rfl⟩ := map_at hdd
    obtain ⟨a, y, z, rfl, hP, hy, hz⟩ := of_pd hxd
    obtain ⟨w1, w2⟩ := hR p (List.mem_of_getElem? hp)
    refine ⟨a, [y, z], rfl, (Stay.same sm).seq hP, rfl, y, [z], rfl, z, [], rfl, rfl, ?_⟩
    refine ⟨.ref D, rfl, D, rfl, ⟨_, SqL.of (sm _ _ hDB)⟩, for_list (xs := ys) (fun j σ H2 => (∃ y5, σ = [some (.ref l), some (.ref d), some y, some z, some (.ref D), y5]) ∧ Same HB H2 ∧ ∀ h ∈ (tops R).take j, upIn R p h = none) ⟨⟨_, rfl⟩, sm, by simp⟩ (fun j σ H2 _ hI => SqL.of (hI.2.1 _ _ hDB)) (fun j u σ H2 hu hI => ?_) (fun σ H2 hI => ?_)⟩
    · obtain ⟨⟨y5, rfl⟩, sm2, g0⟩ := hI
      obtain ⟨du, hdu, hud⟩ := dpAll_at' hys hu
      obtain ⟨h, hh, rfl⟩ := map_at hdu
      have w2l := w2.few
      refine ⟨u, rfl, z, rfl, u, z, h, p.2, rfl, (Stay.same sm2).wd hud, (Stay.same sm2).wd hz, by omega, fun H3 s3 => ⟨_, rfl, ?_⟩⟩
      have sm3 := sm2.trans s3
      refine ite2 (fun e => ?_) (fun e => ?_)
      · refine ⟨y, rfl, u, rfl, by show 2 ≤ sizeLine; decide, fun t ht => ?_⟩
        have st := sm3.trans (same_new ht (.tup [y, u]))
        have dt : Dp K (upd H3 t (.tup [y, u])) (.ref t) (pd (p.1, h)) := to_pd (SqT.of upd_same) ((Stay.same st).wd hy) ((Stay.same st).wd hud)
        obtain ⟨kvs, hd1, hd2, hd3⟩ := (hd.same (sB.trans st)).ex
        refine ⟨.ref d, rfl, t, d, kvs, pd (p.1, h), rfl, rfl, hd1, hd2, good_pd _, dt, fun b hb => ⟨_, rfl, ?_⟩⟩
        rw [hd3, pd_mem] at hb
        refine ite2 (fun e2 => ?_) (fun e2 => ?_)
        · have nb : (p.1, h) ∉ R := fun h => by
            rw [hb.mpr h] at e2
            exact absurd e2 (by decide)
          refine ⟨y, rfl, z, rfl, by show 2 ≤ sizeLine; decide, fun c hc => ⟨u, rfl, by show 3 ≤ sizeLine; decide, fun v hv => ?_⟩⟩
          have su := same_new hc (.tup [y, z])
          have sv := same_new hv (.tup [.str upwardS, .ref c, u])
          have all := st.trans (su.trans sv)
          refine q _ _ (sB.trans all) ?_
          have e0 : upIn R p h = some (.tuple [.str upwardS, pd p, wd h]) := by
            unfold upIn
            rw [if_pos ⟨e, nb⟩]
          have et : upO R = some (.tuple [.str upwardS, pd p, wd h]) := first_at h0 hp (first_at g0 hh e0)
          rw [et]
          exact ⟨⟨v, rfl⟩, by simp [okD, okDs, ok_pd, ok_wd], .tup (SqT.of upd_same) (.cons (.str _) (.cons (mk_pd (.same all) (sv _ _ upd_same) hy hz) (.cons ((Stay.same all).wd hud) .nil)))⟩
        · have nb : (p.1, h) ∈ R := hb.mp (by simpa using e2)
          refine ⟨⟨_, rfl⟩, st, none_snoc g0 hh ?_⟩
          unfold upIn
          rw [if_neg fun z => z.2 nb]
      · refine ⟨⟨_, rfl⟩, sm3, none_snoc g0 hh ?_⟩
        unfold upIn
        rw [if_neg fun z => e z.1]
    · obtain ⟨⟨y5, rfl⟩, sm2, g0⟩ := hI
      rw [yl, List.take_length] at g0
      exact ⟨⟨_, _, _, rfl⟩, sm2, none_snoc h0 hp (first_none g0)⟩
  · obtain ⟨⟨y2, y3, y5, rfl⟩, sm, h0⟩ := hI
    refine q H1 _ (sB.trans sm) ?_
    rw [xl, List.take_length] at h0
    have et : upO R = none := first_none h0
    rw [et]
    exact rfl
end
/-! ### the worlds below -/
theorem lows_t {qs : List Pr} {p : Pr} : lows (qs ++ [p]) p.2 = lows qs p.2 ++ [p.1] := by
  unfold lows
  rw [List.filter_append, List.map_append]
  simp
theorem lows_f {qs : List Pr} {p : Pr} {t : W} (h : p.2 ≠ t) : lows (qs ++ [p]) t = lows qs t := by
  unfold lows
  rw [List.filter_append, List.map_append]
  simp [h]
theorem lows_none {qs : List Pr} {t : W} (h : ∀ p ∈ qs, p.2 ≠ t) : lows qs t = [] := by
  unfold lows
  rw [List.map_eq_nil_iff, List.filter_eq_nil_iff]
  intro p hp
  simpa using h p hp
abbrev LE : Type := W × Addr × Addr
def kv (e : LE) : Ent := (wd e.1, e.2.1, .ref e.2.2)
structure Lows (K : PySem.W.Frag) (P : Program) (w : World) (H0 H : Hp) (d : Addr) (qs : List Pr) (L : List LE) : Prop where
  di : H d = some (NDO P w d (L.map kv))
  ko : KeysOk K H (L.map kv)
  ls : ∀ e ∈ L, H0 e.2.2 = none ∧ ∃ ys, H e.2.2 = some (.lst ys) ∧ DpAll K H ys ((lows qs e.1).map wd)
  al : ∀ p ∈ qs, p.2 ∈ L.map (·.1)
  n1 : (L.map (·.1)).Nodup
  n2 : (L.map (·.2.2)).Nodup
  sm : Same H0 H
  dn : H0 d = none
  fe : L.length ≤ qs.length
  kn : ∀ e ∈ L, ∃ p ∈ qs, p.2 = e.1
section
variable {P : Program} {w : World} {K : PySem.W.Frag} {mg : Str → Option Value} {base : Heap} {f : Addr} {fd : FuncData} {k : Nat} {H0 H : Hp} {d : Addr} {qs : List Pr} {L : List LE}
theorem Lows.old (h : Lows K P w H0 H d qs L) {p : Pr} {e : LE} (he : e ∈ L) (et : e.1 = p.2) {y : V} (hy : Dp K H y (wd p.1)) {o : Addr} (no : H o = none) :
    ∃ ys, (upd H o (.lst [])) e.2.2 = some (.lst ys) ∧ ys.length ≤ qs.length ∧ Lows K P w H0 (upd (upd H o (.lst [])) e.2.2 (.lst (ys ++ [y]))) d (qs ++ [p]) L := by
  obtain ⟨l0, ys, hl, hys⟩ := h.ls e he
  have s1 : Same H (upd H o (.lst [])) := same_new no _
  have hl1 := s1 _ _ hl
  have hm : Mut ((upd H o (.lst [])) e.2.2) := by rw [hl1]; exact True.intro
  have st : Stay H (upd (upd H o (.lst [])) e.2.2 (.lst (ys ++ [y]))) := (Stay.same s1).trans (.put hm _)
  have yl : ys.length = (lows qs e.1).length := by rw [dpAll_len hys, List.length_map]
  have dl : d ≠ e.2.2 := fun z => by
    have := h.di
    rw [z, hl] at this
    cases this
  refine ⟨ys, hl1, ?_, ?_, h.ko.stay st, fun e' he' => ?_, fun q hq => ?_, h.n1, h.n2, ?_, h.dn, ?_, fun e' he' => by
    obtain ⟨p', h1, h2⟩ := h.kn e' he'
    exact ⟨p', List.mem_append_left _ h1, h2⟩⟩
  · rw [yl]
    unfold lows
    rw [List.length_map]
    exact List.length_filter_le _ _
  · rw [upd_ne dl]
    exact s1 _ _ h.di
  · obtain ⟨l0', ys', hl', hys'⟩ := h.ls e' he'
    refine ⟨l0', ?_⟩
    by_cases c : e' = e
    · subst c
      rw [hl] at hl'
      cases hl'
      refine ⟨ys ++ [y], upd_same, ?_⟩
      rw [et, lows_t, List.map_append]
      rw [et] at hys
      exact dpAll_app (st.dpAll _ _ (okDs_wd _) hys) (.cons (st.wd hy) .nil)
    · have nl : e'.2.2 ≠ e.2.2 := fun z => c (map_inj_nodup h.n2 e' he' e he z)
      have nt : p.2 ≠ e'.1 := fun z => c (map_inj_nodup h.n1 e' he' e he (by rw [← z, et]))
      refine ⟨ys', ?_, ?_⟩
      · rw [upd_ne nl]
        exact s1 _ _ hl'
      · rw [lows_f nt]
        exact st.dpAll _ _ (okDs_wd _) hys'
  · rcases List.mem_append.mp hq with hq | hq
    · exact h.al q hq
    · rw [List.mem_singleton.mp hq, ← et]
      exact List.mem_map.mpr ⟨e, he, rfl⟩
  · exact same_put (h.sm.trans s1) l0
  · rw [List.length_append, List.length_singleton]
    exact Nat.le_succ_of_le h.fe
theorem Lows.new (h : Lows K P w H0 H d qs L) {p : Pr} (hn : p.2 ∉ L.map (·.1)) {y z : V} (hy : Dp K H y (wd p.1)) {a : Addr} (ha : Dp K H (.ref a) (wd p.2)) {o : Addr} (no : H o = none) :
    (upd (upd H o (.lst [])) d (NDO P w d (L.map kv ++ [kv (p.2, a, o)]))) o = some (.lst []) ∧
    Lows K P w H0 (upd (upd (upd H o (.lst [])) d (NDO P w d (L.map kv ++ [kv (p.2, a, o)]))) o (.lst ([] ++ [y]))) d (qs ++ [p]) (L ++ [(p.2, a, o)]) := by
  have s1 : Same H (upd H o (.lst [])) := same_new no _
  have hod : o ≠ d := fun z => by
    have := h.di
    rw [← z, no] at this
    cases this
  have hm1 : Mut ((upd H o (.lst [])) d) := by rw [s1 _ _ h.di]; exact True.intro
  have ho : (upd (upd H o (.lst [])) d (NDO P w d (L.map kv ++ [kv (p.2, a, o)]))) o = some (.lst []) := by
    rw [upd_ne hod, upd_same]
  have hm2 : Mut ((upd (upd H o (.lst [])) d (NDO P w d (L.map kv ++ [kv (p.2, a, o)]))) o) := by rw [ho]; exact True.intro
  have st : Stay H (upd (upd (upd H o (.lst [])) d (NDO P w d (L.map kv ++ [kv (p.2, a, o)]))) o (.lst ([] ++ [y]))) := ((Stay.same s1).trans (.put hm1 _)).trans (.put hm2 _)
  refine ⟨ho, ?_, ?_, fun e he => ?_, fun q hq => ?_, ?_, ?_, ?_, h.dn, ?_, fun e he => by
    rcases List.mem_append.mp he with he | he
    · obtain ⟨p', h1, h2⟩ := h.kn e he
      exact ⟨p', List.mem_append_left _ h1, h2⟩
    · rw [List.mem_singleton.mp he]
      exact ⟨p, List.mem_append_right _ (List.mem_singleton.mpr rfl), rfl⟩⟩
  · rw [upd_ne hod.symm, upd_same, List.map_append]
    rfl
  · intro e he
    rw [List.map_append] at he
    rcases List.mem_append.mp he with he | he
    · exact h.ko.stay st e he
    · rw [List.map_singleton, List.mem_singleton] at he
      subst he
      exact ⟨good_wd _, st.wd ha⟩
  · rcases List.mem_append.mp he with he | he
    · obtain ⟨l0, ys, hl, hys⟩ := h.ls e he
      have nt : p.2 ≠ e.1 := fun z => hn (by rw [z]; exact List.mem_map.mpr ⟨e, he, rfl⟩)
      have n1 : e.2.2 ≠ o := fun z => by
        rw [z, no] at hl
        cases hl
      have n2 : e.2.2 ≠ d := fun z => by
        rw [z, h.di] at hl
        cases hl
      refine ⟨l0, ys, ?_, ?_⟩
      · rw [upd_ne n1, upd_ne n2, upd_ne n1]
        exact hl
      · rw [lows_f nt]
        exact st.dpAll _ _ (okDs_wd _) hys
    · rw [List.mem_singleton] at he
      subst he
      refine ⟨none_back h.sm no, [] ++ [y], upd_same, ?_⟩
      have e0 : lows qs p.2 = [] := lows_none fun q hq z => hn (by rw [← z]; exact h.al q hq)
      show DpAll K _ _ ((lows (qs ++ [p]) p.2).map wd)
      rw [lows_t, e0]
      exact .cons (st.wd hy) .nil
  · rw [List.map_append]
    rcases List.mem_append.mp hq with hq | hq
    · exact List.mem_append_left _ (h.al q hq)
    · rw [List.mem_singleton.mp hq]
      exact List.mem_append_right _ (List.mem_singleton.mpr rfl)
  · rw [List.map_append]
    exact List.nodup_append.mpr ⟨h.n1, by simp, fun x hx y hy z => hn (by rw [List.map_singleton, List.mem_singleton] at hy; rw [← show y = p.2 from hy, ← z]; exact hx)⟩
  · rw [List.map_append]
    refine List.nodup_append.mpr ⟨h.n2, by simp, fun x hx y hy z => ?_⟩
    rw [List.map_singleton, List.mem_singleton] at hy
    obtain ⟨e, he, rfl⟩ := List.mem_map.mp hx
    obtain ⟨_, ys, hl, _⟩ := h.ls e he
    rw [z, show y = o from hy, no] at hl
    cases hl
  · exact same_put (same_put (h.sm.trans s1) h.dn) (none_back h.sm no)
  · rw [List.length_append, List.length_append]
    exact Nat.add_le_add_right h.fe 1
/-! ### _worlds_below -/
def spBelow (K : PySem.W.Frag) (P : Program) (w : World) : Sp := fun vs H Q _ => ∃ (l : Addr) (R : List Pr), vs = [.ref l] ∧ PL K H l R ∧ R.length ≤ 1000 ∧ ∀ H' d L, Lows K P w H H' d R L → Q (.ref d) H'
theorem ok_below (F : Fun K "_worlds_below" "_worlds_below" sBelow f fd) : FnOk P w K mg base CX0 (k + 1) f fd ["chosen"] (spBelow K P w) := by
  refine F.ok scBelow (fun vs H Q E h => ?_) (fun cdv A outer s H vs Q E hr h => ?_)
  · obtain ⟨l, R, rfl, _⟩ := h
    rfl
  obtain ⟨l, R, rfl, hl, few, q⟩ := h
  refine ⟨_, pss_cons (ps_set (i := 1) scBelow.nd rfl (.inl rfl) pe_dnewN)
    (pss_cons (ps_for PassesOwn.never rfl (pi_list (pv 0)) (pg_tup (by rfl) (pgs_cons (pg_name (i := 2) scBelow.nd rfl (.inl rfl)) (pgs_cons (pg_name (i := 3) scBelow.nd rfl (.inl rfl)) pgs_nil)))
      (pss_one (ps_expr (pe_bm PySem.F.plainAttrs_list PySem.F.slot_list_append PySem.F.type_list_append mt_append (pe_setdN hr.units (pv 1) (pv 3) (pe_lst pa_nil) ⟨rfl, rfl, rfl, rfl⟩) (pa_cons (pv 2) pa_nil)))))
    (pss_one (ps_ret (pv 1)))), ?_⟩
  obtain ⟨xs, hS, hx⟩ := hl.ex
  have xl : xs.length = R.length := by rw [dpAll_len hx, List.length_map]
  refine fun d hd => ?_
  refine ⟨.ref l, rfl, l, rfl, ⟨_, (same_new hd _).seq hS⟩, for_list (xs := xs) (fun i σ H1 => (∃ y2 y3, σ = [some (.ref l), some (.ref d), y2, y3]) ∧ ∃ L, Lows K P w H H1 d (R.take i) L) ⟨⟨none, none, rfl⟩, [], ?_⟩ (fun i σ H1 _ hI => hI.2.elim fun L z => z.sm.seq hS) (fun i x σ H1 hxi hI => ?_) (fun σ H1 hI => ?_)⟩
  · exact ⟨upd_same, (fun _ z => nomatch z), (fun _ z => nomatch z), by simp, List.nodup_nil, List.nodup_nil, same_new hd _, hd, by simp, (fun _ z => nomatch z)⟩
  · obtain ⟨⟨y2, y3, rfl⟩, L, hL⟩ := hI
    obtain ⟨dd, hdd, hxd⟩ := dpAll_at' hx hxi
    obtain ⟨p, hp, rfl⟩ := map_at hdd
    obtain ⟨a, y, z, rfl, hP, hy, hz⟩ := of_pd ((Stay.same hL.sm).pd hxd)
    refine ⟨a, [y, z], rfl, hP, rfl, y, [z], rfl, z, [], rfl, rfl, ?_⟩
    obtain ⟨c, rfl, hc⟩ := of_wd hz
    have il : i < R.length := (List.getElem?_eq_some_iff.mp hp).1
    refine ⟨.ref d, rfl, d, _, rfl, hL.di, .ref c, rfl, Nat.zero_le _, fun o no => ?_⟩
    have s1 : Same H1 (upd H1 o (.lst [])) := same_new no _
    have hLl := hL.fe
    rw [List.length_take] at hLl
    refine ⟨c, L.map kv, wd p.2, rfl, s1 _ _ hL.di, hL.ko.stay (.same s1), good_wd _, (Stay.same s1).wd hz, by rw [List.length_map]; omega, fun e he ek => ?_, fun hn => ?_⟩
    · obtain ⟨e0, he0, rfl⟩ := List.mem_map.mp he
      obtain ⟨ys, h1, h2, h3⟩ := hL.old (p := p) he0 (wd_inj ek) hy no
      rw [List.length_take] at h2
      refine ⟨.inl ⟨rfl, _, SqL.of h1⟩, y, rfl, e0.2.2, ys, y, rfl, rfl, h1, small_line' (by omega), ⟨_, _, rfl⟩, L, ?_⟩
      rw [take_snoc hp]
      exact h3
    · have hn' : p.2 ∉ L.map (·.1) := fun hm => by
        obtain ⟨e, he, ee⟩ := List.mem_map.mp hm
        exact hn (List.mem_map.mpr ⟨kv e, List.mem_map.mpr ⟨e, he, rfl⟩, by show wd e.1 = wd p.2; rw [ee]⟩)
      obtain ⟨h1, h3⟩ := hL.new (p := p) (z := y) hn' hy hz no
      refine ⟨.inl ⟨rfl, _, SqL.of h1⟩, y, rfl, o, [], y, rfl, rfl, h1, small_line' (Nat.zero_le _), ⟨_, _, rfl⟩, L ++ [(p.2, c, o)], ?_⟩
      rw [take_snoc hp]
      exact h3
  · obtain ⟨⟨y2, y3, rfl⟩, L, hL⟩ := hI
    rw [xl, List.take_length] at hL
    exact ⟨_, rfl, q H1 d L hL⟩
/-! ### _not_meeting -/
def spMeeting (K : PySem.W.Frag) (P : Program) (w : World) : Sp := fun vs H Q _ => ∃ (l d : Addr) (R : List Pr), vs = [.ref l, .ref d] ∧ PL K H l R ∧ PD K P w H d R ∧ R.length ≤ 1000 ∧ (∀ p ∈ R, IsW p.1 ∧ IsW p.2) ∧ ∀ H' x, Same H H' → Told K H' x (meO R) → Q x H'
theorem ok_meeting {f1 f2 : Addr} {fd1 fd2 : FuncData} (F : Fun K "_not_meeting" "_not_meeting" sMeeting f fd) (G1 : FnOk P w K mg base CX0 k f1 fd1 ["chosen"] (spBelow K P w)) (b1 : Binds K fd1 ["chosen"] []) (k1 : PySem.W.keepIn K (.ref f1) = true) (m1 : mg "_worlds_below" = some (.ref f1))
    (G2 : FnOk P w K mg base CX0 k f2 fd2 ["one", "other"] (spCommon K)) (b2 : Binds K fd2 ["one", "other"] []) (k2 : PySem.W.keepIn K (.ref f2) = true) (m2 : mg "_common" = some (.ref f2)) :
    FnOk P w K mg base CX0 (k + 1) f fd ["chosen", "present"] (spMeeting K P w) := by
  refine F.ok scMeeting (fun vs H Q E h => ?_) (fun cdv A outer s H vs Q E hr h => ?_)
  · obtain ⟨l, d, R, rfl, _⟩ := h
    rfl
  obtain ⟨l, d, R, rfl, hl, hd, few, hR, q⟩ := h
  refine ⟨_, pss_cons (ps_set (i := 2) scMeeting.nd rfl (.inl rfl) (pe_call G1 hr (by rfl) m1 k1 b1 .nil pass0 (pa_cons (pv 0) pa_nil)))
    (pss_cons (ps_for PassesOwn.never rfl (pi_list (pv 0)) (pg_tup (by rfl) (pgs_cons (pg_name (i := 3) scMeeting.nd rfl (.inl rfl)) (pgs_cons (pg_name (i := 4) scMeeting.nd rfl (.inl rfl)) pgs_nil)))
      (pss_one (ps_for PassesOwn.never rfl (pi_list (pe_getN hr.units (pv 2) (pv 4) (fun _ _ => rfl))) (pg_name (i := 5) scMeeting.nd rfl (.inl rfl))
        (pss_one (ps_if (pt_cmpR (op_notInN hr.units) (pe_tup (pa_cons (pe_call G2 hr (by rfl) m2 k2 b2 .nil pass0 (pa_cons (pv 3) (pa_cons (pv 5) pa_nil))) (pa_cons (pv 4) pa_nil))) (pv 1) (by rfl))
          (pss_one (ps_ret (pe_tup (pa_cons pe_str (pa_cons (pe_tup (pa_cons (pv 3) (pa_cons (pv 4) pa_nil))) (pa_cons (pe_tup (pa_cons (pv 5) (pa_cons (pv 4) pa_nil))) pa_nil)))))) pss_nil)))))
    (pss_one (ps_ret pe_non))), ?_⟩
  obtain ⟨xs, hS, hx⟩ := hl.ex
  have xl : xs.length = R.length := by rw [dpAll_len hx, List.length_map]
  refine ⟨.ref l, rfl, l, R, rfl, hl, few, fun HB D L hL => ?_⟩
  have sB := hL.sm
  have hxB : DpAll K HB xs (R.map pd) := (Stay.same sB).dpAll _ _ (okDs_all fun d hd => by obtain ⟨p, _, rfl⟩ := List.mem_map.mp hd; exact ok_pd p) hx
  refine ⟨.ref l, rfl, l, rfl, ⟨_, sB.seq hS⟩, for_list (xs := xs) (fun i σ H1 => (∃ y3 y4 y5, σ = [some (.ref l), some (.ref d), some (.ref D), y3, y4, y5]) ∧ Same HB H1 ∧ ∀ p ∈ R.take i, (lows R p.2).findSome? (meIn R p) = none) ⟨⟨none, none, none, rfl⟩, fun _ _ e => e, by simp⟩ (fun i σ H1 _ hI => (sB.trans hI.2.1).seq hS) (fun i x σ H1 hxi hI => ?_) (fun σ H1 hI => ?_)⟩
  · obtain ⟨⟨y3, y4, y5, rfl⟩, sm, h0⟩ := hI
    obtain ⟨dd, hdd, hxd⟩ := dpAll_at' hxB hxi
    obtain ⟨p, hp, rfl⟩ := map_at hdd
    obtain ⟨a, y, z, rfl, hP, hy, hz⟩ := of_pd hxd
    have pm := List.mem_of_getElem? hp
    obtain ⟨w1, w2⟩ := hR p pm
    refine ⟨a, [y, z], rfl, (Stay.same sm).seq hP, rfl, y, [z], rfl, z, [], rfl, rfl, ?_⟩
    obtain ⟨c, rfl, hc⟩ := of_wd hz
    refine ⟨.ref D, rfl, .ref c, rfl, c, D, L.map kv, wd p.2, rfl, rfl, sm _ _ hL.di, hL.ko.stay (.same sm), good_wd _, (Stay.same sm).wd hz, ?_, fun e he ek => ?_⟩
    · obtain ⟨e, he, ee⟩ := List.mem_map.mp (hL.al p pm)
      exact List.mem_map.mpr ⟨kv e, List.mem_map.mpr ⟨e, he, rfl⟩, by show wd e.1 = wd p.2; rw [ee]⟩
    obtain ⟨e0, he0, rfl⟩ := List.mem_map.mp he
    have et : e0.1 = p.2 := wd_inj ek
    obtain ⟨_, ys, hDB, hys⟩ := hL.ls e0 he0
    rw [et] at hys
    have yl : ys.length = (lows R p.2).length := by rw [dpAll_len hys, List.length_map]
    refine ⟨e0.2.2, rfl, ⟨_, SqL.of (sm _ _ hDB)⟩, for_list (xs := ys) (fun j σ H2 => (∃ y5, σ = [some (.ref l), some (.ref d), some (.ref D), some y, some (.ref c), y5]) ∧ Same HB H2 ∧ ∀ h ∈ (lows R p.2).take j, meIn R p h = none) ⟨⟨_, rfl⟩, sm, by simp⟩ (fun j σ H2 _ hI => SqL.of (hI.2.1 _ _ hDB)) (fun j u σ H2 hu hI => ?_) (fun σ H2 hI => ?_)⟩
    · obtain ⟨⟨y5, rfl⟩, sm2, g0⟩ := hI
      obtain ⟨du, hdu, hud⟩ := dpAll_at' hys hu
      obtain ⟨h, hh, rfl⟩ := map_at hdu
      have w1l := w1.few
      refine ⟨y, rfl, u, rfl, y, u, p.1, h, rfl, (Stay.same sm2).wd hy, (Stay.same sm2).wd hud, by omega, fun H3 m s3 hm => ⟨.ref c, rfl, by show 2 ≤ sizeLine; decide, fun t ht => ?_⟩⟩
      have sm3 := sm2.trans s3
      have s4 := same_new ht (.tup [.ref m, .ref c])
      have st := sm3.trans s4
      have dt : Dp K (upd H3 t (.tup [.ref m, .ref c])) (.ref t) (pd (meet p.1 h, p.2)) := to_pd (SqT.of upd_same) (to_wd (SqT.of (s4 _ _ hm))) ((Stay.same st).wd hz)
      obtain ⟨kvs, hd1, hd2, hd3⟩ := (hd.same (sB.trans st)).ex
      refine ⟨.ref d, rfl, t, d, kvs, pd (meet p.1 h, p.2), rfl, rfl, hd1, hd2, good_pd _, dt, fun b hb => ⟨_, rfl, ?_⟩⟩
      rw [hd3, pd_mem] at hb
      refine ite2 (fun e2 => ?_) (fun e2 => ?_)
      · have nb : (meet p.1 h, p.2) ∉ R := fun h => by
          rw [hb.mpr h] at e2
          exact absurd e2 (by decide)
        refine ⟨y, rfl, .ref c, rfl, by show 2 ≤ sizeLine; decide, fun c1 hc1 => ⟨u, rfl, .ref c, rfl, by show 2 ≤ sizeLine; decide, fun c2 hc2 => ⟨by show 3 ≤ sizeLine; decide, fun v hv => ?_⟩⟩⟩
        have su := same_new hc1 (.tup [y, .ref c])
        have su2 := same_new hc2 (.tup [u, .ref c])
        have sv := same_new hv (.tup [.str meetS, .ref c1, .ref c2])
        have all := st.trans (su.trans (su2.trans sv))
        refine q _ _ (sB.trans all) ?_
        have e0 : meIn R p h = some (.tuple [.str meetS, pd p, pd (h, p.2)]) := by
          unfold meIn
          rw [if_neg nb]
        have et : meO R = some (.tuple [.str meetS, pd p, pd (h, p.2)]) := first_at h0 hp (first_at g0 hh e0)
        rw [et]
        exact ⟨⟨v, rfl⟩, by simp [okD, okDs, ok_pd], .tup (SqT.of upd_same) (.cons (.str _) (.cons (mk_pd (.same all) ((su2.trans sv) _ _ upd_same) hy hz) (.cons (mk_pd (p := (h, p.2)) (.same all) (sv _ _ upd_same) hud hz) .nil)))⟩
      · have nb : (meet p.1 h, p.2) ∈ R := hb.mp (by simpa using e2)
        refine ⟨⟨_, rfl⟩, st, none_snoc g0 hh ?_⟩
        unfold meIn
        rw [if_pos nb]
    · obtain ⟨⟨y5, rfl⟩, sm2, g0⟩ := hI
      rw [yl, List.take_length] at g0
      exact ⟨⟨_, _, _, rfl⟩, sm2, none_snoc h0 hp (first_none g0)⟩
  · obtain ⟨⟨y3, y4, y5, rfl⟩, sm, h0⟩ := hI
    refine q H1 _ (sB.trans sm) ?_
    rw [xl, List.take_length] at h0
    have et : meO R = none := first_none h0
    rw [et]
    exact rfl
end
theorem okDs_pd (R : List Pr) : okDs (R.map pd) = true := okDs_all fun d hd => by
  obtain ⟨p, _, rfl⟩ := List.mem_map.mp hd
  exact ok_pd p
theorem all_pd : ∀ {ds : List PyData}, (∀ d ∈ ds, ∃ p, d = pd p) → ∃ R : List Pr, ds = R.map pd
  | [], _ => ⟨[], rfl⟩
  | d :: ds, h => by
    obtain ⟨p, rfl⟩ := h d List.mem_cons_self
    obtain ⟨R, rfl⟩ := all_pd fun e he => h e (List.mem_cons_of_mem _ he)
    exact ⟨p :: R, rfl⟩
theorem pd_nodup {R : List Pr} (h : R.Nodup) : (R.map pd).Nodup := by
  induction R with
  | nil => exact List.nodup_nil
  | cons p R ih =>
    obtain ⟨h1, h2⟩ := List.nodup_cons.mp h
    exact List.nodup_cons.mpr ⟨fun z => h1 (pd_mem.mp z), ih h2⟩
/-- a pair of worlds of a pool -/
structure IsP (pool : W) (p : Pr) : Prop where
  w1 : IsW p.1
  w2 : IsW p.2
  le : sub p.1 p.2 = true
  up : sub p.2 pool = true
/-- the pairs, a list or a tuple -/
def PS2 (K : PySem.W.Frag) (H : Hp) (l : Addr) (R : List Pr) : Prop := ∃ xs, (SqL K H l xs ∨ SqT K H l xs) ∧ DpAll K H xs (R.map pd)
theorem PS2.same {K : PySem.W.Frag} {H H' : Hp} {l : Addr} {R : List Pr} (h : PS2 K H l R) (e : Same H H') : PS2 K H' l R := by
  obtain ⟨xs, h1, h2⟩ := h
  exact ⟨xs, h1.elim (fun z => .inl (e.seq z)) (fun z => .inr (same_tup e z)), (Stay.same e).dpAll _ _ (okDs_pd R) h2⟩
section
variable {P : Program} {w : World} {K : PySem.W.Frag} {mg : Str → Option Value} {base : Heap} {f : Addr} {fd : FuncData} {k : Nat}
/-! ### _why_not -/
def spWhyNot (K : PySem.W.Frag) : Sp := fun vs H Q _ => ∃ (l : Addr) (z : Str) (R : List Pr), vs = [.ref l, .str z] ∧ PL K H l R ∧ R.Nodup ∧ R.length ≤ 1000 ∧ (∀ p ∈ R, IsW p.1 ∧ IsW p.2) ∧ ∀ H' x, Same H H' → Told K H' x (whyO R z) → Q x H'
theorem ok_whyNot {f1 f2 f3 : Addr} {fd1 fd2 fd3 : FuncData} (F : Fun K "_why_not" "_why_not" sWhyNot f fd) (G1 : FnOk P w K mg base CX0 k f1 fd1 ["chosen", "present"] (spTotal K P w)) (b1 : Binds K fd1 ["chosen", "present"] []) (k1 : PySem.W.keepIn K (.ref f1) = true) (m1 : mg "_not_total" = some (.ref f1))
    (G2 : FnOk P w K mg base CX0 k f2 fd2 ["chosen", "present"] (spUpward K P w)) (b2 : Binds K fd2 ["chosen", "present"] []) (k2 : PySem.W.keepIn K (.ref f2) = true) (m2 : mg "_not_upward" = some (.ref f2))
    (G3 : FnOk P w K mg base CX0 k f3 fd3 ["chosen", "present"] (spMeeting K P w)) (b3 : Binds K fd3 ["chosen", "present"] []) (k3 : PySem.W.keepIn K (.ref f3) = true) (m3 : mg "_not_meeting" = some (.ref f3)) :
    FnOk P w K mg base CX0 (k + 1) f fd ["chosen", "kind"] (spWhyNot K) := by
  refine F.ok scWhyNot (fun vs H Q E h => ?_) (fun cdv A outer s H vs Q E hr h => ?_)
  · obtain ⟨l, z, R, rfl, _⟩ := h
    rfl
  obtain ⟨l, z, R, rfl, hl, hn, few, hR, q⟩ := h
  refine ⟨_, pss_cons (ps_setDictTrue (i := 2) (own := [("pair", 4)]) (by rfl) hr.units scWhyNot.nd rfl rfl (sw_trueD rfl rfl rfl (by decide +kernel)) (pv 0) (blkOk_by (N := ["chosen", "kind", "present", "why", "pair"]) (sc := defScope sWhyNot) (by decide +kernel)) rfl rfl (by decide +kernel))
    (pss_cons (ps_set (i := 3) scWhyNot.nd rfl (.inl rfl) (pe_call G1 hr (by rfl) m1 k1 b1 .nil pass0 (pa_cons (pv 0) (pa_cons (pv 2) pa_nil))))
    (pss_cons (ps_if (PW.pt (pw_and (pt_cmpR op_isN (pv 3) pe_non (nomark _)) (pw_and1 (pt_cmpR op_ne (pv 1) pe_str (nomark _))))) (pss_one (ps_set (i := 3) scWhyNot.nd rfl (.inl rfl) (pe_call G2 hr (by rfl) m2 k2 b2 .nil pass0 (pa_cons (pv 0) (pa_cons (pv 2) pa_nil))))) pss_nil)
    (pss_cons (ps_if (PW.pt (pw_and (pt_cmpR op_isN (pv 3) pe_non (nomark _)) (pw_and1 (pt_cmpR op_eq (pv 1) pe_str (nomark _))))) (pss_one (ps_set (i := 3) scWhyNot.nd rfl (.inl rfl) (pe_call G3 hr (by rfl) m3 k3 b3 .nil pass0 (pa_cons (pv 0) (pa_cons (pv 2) pa_nil))))) pss_nil)
    (pss_one (ps_ret (pv 3)))))), ?_⟩
  obtain ⟨xs, hS, hx⟩ := hl.ex
  refine ⟨.ref l, rfl, l, xs, R.map pd, rfl, hS, hx, (fun d hd => by obtain ⟨p, _, rfl⟩ := List.mem_map.mp hd; exact good_pd p), pd_nodup hn, by rw [List.length_map]; exact few, fun D kvs hD e ko => ?_⟩
  have sD : Same H (upd H D (NDO P w D kvs)) := same_new hD _
  have hd : PD K P w (upd H D (NDO P w D kvs)) D R := ⟨kvs, upd_same, ko.stay (.same sD), e⟩
  refine ⟨.ref l, rfl, .ref D, rfl, l, D, R, rfl, hl.same sD, hd, fun H1 x s1 tx => ?_⟩
  have a1 := sD.trans s1
  refine ⟨x, rfl, rfl, _, rfl, ?_⟩
  rw [told_isN tx]
  have fin : ∀ H' x' o, Same H H' → Told K H' x' o → whyO R z = o → Q x' H' := fun H' x' o sm t e => q H' x' sm (by rw [e]; exact t)
  cases e1 : totO R with
  | some d1 =>
    rw [e1] at tx
    refine iteF ⟨x, rfl, rfl, _, rfl, ?_⟩
    rw [told_isN tx]
    refine iteF ⟨x, rfl, fin H1 x _ a1 tx ?_⟩
    unfold whyO
    rw [e1]
    rfl
  | none =>
    rw [e1] at tx
    refine iteT ⟨.str z, rfl, rfl, _, rfl, ?_⟩
    refine ite2 (fun c => ?_) (fun c => ?_)
    · have nz : z ≠ anyS := fun e => by
        rw [e] at c
        exact absurd c (by decide)
      refine ⟨.ref l, rfl, .ref D, rfl, l, D, R, rfl, hl.same a1, hd.same s1, few, hR, fun H2 x2 s2 tx2 => ?_⟩
      have a2 := a1.trans s2
      refine ⟨x2, rfl, rfl, _, rfl, ?_⟩
      rw [told_isN tx2]
      cases e2 : upO R with
      | some d2 =>
        rw [e2] at tx2
        refine iteF ⟨x2, rfl, fin H2 x2 _ a2 tx2 ?_⟩
        unfold whyO
        rw [e1, if_neg nz, e2]
        rfl
      | none =>
        rw [e2] at tx2
        refine iteT ⟨.str z, rfl, rfl, _, rfl, ?_⟩
        refine ite2 (fun c2 => ?_) (fun c2 => ?_)
        · have ez : z = singleS := V.str.inj (of_decide_eq_true c2)
          refine ⟨.ref l, rfl, .ref D, rfl, l, D, R, rfl, hl.same a2, hd.same (s1.trans s2), few, hR, fun H3 x3 s3 tx3 => ?_⟩
          refine ⟨x3, rfl, fin H3 x3 _ (a2.trans s3) tx3 ?_⟩
          unfold whyO
          rw [e1, if_neg nz, e2, if_pos ez]
          rfl
        · have ez : z ≠ singleS := fun e => c2 (by rw [e]; exact decide_eq_true rfl)
          refine ⟨x2, rfl, fin H2 x2 _ a2 tx2 ?_⟩
          unfold whyO
          rw [e1, if_neg nz, e2, if_neg ez]
          rfl
    · have ez : z = anyS := by
        have c' : decide (V.str z = V.str ("any" : Str)) = true := by simpa using c
        exact V.str.inj (of_decide_eq_true c')
      refine ⟨x, rfl, rfl, _, rfl, ?_⟩
      rw [told_isN tx]
      refine iteT ⟨.str z, rfl, rfl, _, rfl, ?_⟩
      have ns : decide (V.str z = V.str ("single" : Str)) = false := decide_eq_false fun e => by
        rw [ez] at e
        exact absurd (V.str.inj e) (by decide)
      refine ite2 (fun c2 => by rw [ns] at c2; exact absurd c2 (by decide)) (fun _ => ?_)
      refine ⟨x, rfl, fin H1 x _ a1 tx ?_⟩
      unfold whyO
      rw [e1, if_pos ez, if_neg fun e => absurd (ez.symm.trans e) (by decide)]
      rfl
end
theorem scIsPair : FnScope ["thing", "here", "there"] ["thing"] (defScope sIsPair) := ⟨rfl, rfl, rfl, by decide +kernel, rfl, by decide +kernel, by decide +kernel⟩
theorem scCheckKind : FnScope ["thing", "kinds"] ["thing", "kinds"] (defScope sCheckKind) := ⟨rfl, rfl, rfl, by decide +kernel, rfl, by decide +kernel, by decide +kernel⟩
section
variable {P : Program} {w : World} {K : PySem.W.Frag} {mg : Str → Option Value} {base : Heap} {f : Addr} {fd : FuncData} {k : Nat}
/-! ### is_pair -/
def spIsPair (K : PySem.W.Frag) : Sp := fun vs H Q _ => ∃ (x : V) (p : Pr), vs = [x] ∧ Dp K H x (pd p) ∧ IsW p.1 ∧ IsW p.2 ∧ sub p.1 p.2 = true ∧ ∀ H', Same H H' → Q (.bl true) H'
theorem ok_isPair {f1 f2 : Addr} {fd1 fd2 : FuncData} (F : Fun K "is_pair" "is_pair" sIsPair f fd) (T : Bl mg) (G1 : FnOk P w K mg base CX0 k f1 fd1 ["thing"] (spIsWorldD K)) (b1 : Binds K fd1 ["thing"] []) (k1 : PySem.W.keepIn K (.ref f1) = true) (m1 : mg "is_world" = some (.ref f1))
    (G2 : FnOk P w K mg base CX0 k f2 fd2 ["names", "wanted"] (spHasAllD K)) (b2 : Binds K fd2 ["names", "wanted"] []) (k2 : PySem.W.keepIn K (.ref f2) = true) (m2 : mg "has_all" = some (.ref f2)) : FnOk P w K mg base CX0 (k + 1) f fd ["thing"] (spIsPair K) := by
  refine F.ok scIsPair (fun vs H Q E h => ?_) (fun cdv A outer s H vs Q E hr h => ?_)
  · obtain ⟨x, p, rfl, _⟩ := h
    rfl
  obtain ⟨x, p, rfl, hx, hw1, hw2, hs, q⟩ := h
  obtain ⟨a, y, z, rfl, hS, hy, hz⟩ := of_pd hx
  refine ⟨_, pss_cons (ps_if (PW.pt (pw_or (pt_not (pt_val (pe_callB call_isi (by rfl) T.isi PyProof.Rows.boot_isinstance (pa_cons (pv 0) (pa_cons (pe_bltn (v := .ty "tuple") (by rfl) T.tuple (by decide +kernel) rfl) pa_nil)))))
      (pw_or1 (pt_cmpR op_ne (pe_callB call_len_seq (by rfl) T.len PySem.boot_len (pa_cons (pv 0) pa_nil)) pe_int (nomark _))))) (pss_one (ps_ret pe_bl)) pss_nil)
    (pss_cons (ps_asg (pv 0) (pg_tup (by rfl) (pgs_cons (pg_name (i := 1) scIsPair.nd rfl (.inl rfl)) (pgs_cons (pg_name (i := 2) scIsPair.nd rfl (.inl rfl)) pgs_nil))))
    (pss_one (ps_ret (pe_and (pe_call G1 hr (by rfl) m1 k1 b1 .nil pass0 (pa_cons (pv 1) pa_nil)) (pe_and (pe_call G1 hr (by rfl) m1 k1 b1 .nil pass0 (pa_cons (pv 2) pa_nil))
      (pe_one (pe_call G2 hr (by rfl) m2 k2 b2 .nil pass0 (pa_cons (pv 2) (pa_cons (pv 1) pa_nil))))))))), ?_⟩
  refine ⟨.ref a, rfl, .ref a, .ty "tuple", .type "tuple", .type "tuple", true, rfl, .ty "tuple", tyx_tup hS, kit_ty (by decide +kernel), true, rfl, ?_⟩
  refine ⟨.ref a, rfl, a, _, rfl, .inr hS, rfl, _, rfl, ?_⟩
  have en : decide (V.int ((([y, z] : List V).length : Nat) : Int) = V.int 2) = true := decide_eq_true rfl
  refine ite2 (fun e => by rw [en] at e; exact absurd e (by decide)) (fun _ => ?_)
  refine ⟨.ref a, rfl, a, [y, z], rfl, hS, rfl, y, [z], rfl, z, [], rfl, rfl, ?_⟩
  refine ⟨y, rfl, y, p.1, rfl, hy, hw1, fun H1 s1 => ⟨true, rfl, iteT ?_⟩⟩
  refine ⟨z, rfl, z, p.2, rfl, (Stay.same s1).wd hz, hw2, fun H2 s2 => ⟨true, rfl, iteT ?_⟩⟩
  have s12 := s1.trans s2
  have few := hw1.few
  refine ⟨z, rfl, y, rfl, z, y, p.2, p.1, rfl, (Stay.same s12).wd hz, (Stay.same s12).wd hy, by omega, fun H3 s3 => ?_⟩
  rw [hs]
  exact q H3 (s12.trans s3)
/-! ### the checks -/
def spCheckWorldD (K : PySem.W.Frag) : Sp := fun vs H Q _ => ∃ (x : V) (ns : W), vs = [x] ∧ Dp K H x (wd ns) ∧ IsW ns ∧ ∀ H', Same H H' → Q .non H'
theorem ok_checkWorldD {f1 : Addr} {fd1 : FuncData} (F : Fun K "check_world" "check_world" sCheckWorld f fd) (G1 : FnOk P w K mg base CX0 k f1 fd1 ["thing"] (spIsWorldD K)) (b1 : Binds K fd1 ["thing"] []) (k1 : PySem.W.keepIn K (.ref f1) = true) (m1 : mg "is_world" = some (.ref f1)) :
    FnOk P w K mg base CX0 (k + 1) f fd ["thing"] (spCheckWorldD K) := by
  refine F.ok scCheckWorld (fun vs H Q E h => ?_) (fun cdv A outer s H vs Q E hr h => ?_)
  · obtain ⟨x, ns, rfl, _⟩ := h
    rfl
  obtain ⟨x, ns, rfl, hx, hw, q⟩ := h
  refine ⟨_, pss_one (ps_if (pt_not (pt_val (pe_call G1 hr (by rfl) m1 k1 b1 .nil pass0 (pa_cons (pv 0) pa_nil)))) pss_never pss_nil), ?_⟩
  refine ⟨x, rfl, x, ns, rfl, hx, hw, fun H1 s1 => ⟨true, rfl, ?_⟩⟩
  exact q H1 s1
def spCheckKind (K : PySem.W.Frag) : Sp := fun vs H Q _ => ∃ (z : Str) (a : Addr) (zs : W), vs = [.str z, .ref a] ∧ SqT K H a (zs.map V.str) ∧ z ∈ zs ∧ Q .non H
theorem ok_checkKind (F : Fun K "check_kind" "check_kind" sCheckKind f fd) : FnOk P w K mg base CX0 (k + 1) f fd ["thing", "kinds"] (spCheckKind K) := by
  refine F.ok scCheckKind (fun vs H Q E h => ?_) (fun cdv A outer s H vs Q E hr h => ?_)
  · obtain ⟨z, a, zs, rfl, _⟩ := h
    rfl
  obtain ⟨z, a, zs, rfl, hS, hz, q⟩ := h
  refine ⟨_, pss_one (ps_if (pt_cmpR op_notIn_seq (pv 0) (pv 1) (by rfl)) pss_never pss_nil), ?_⟩
  refine ⟨.str z, rfl, .ref a, rfl, a, zs.map V.str, rfl, .inr hS, rfl, flat_strs zs, _, rfl, ?_⟩
  rw [inV_str, decide_eq_true hz]
  exact q
end
section
variable {P : Program} {w : World} {K : PySem.W.Frag} {mg : Str → Option Value} {base : Heap} {f : Addr} {fd : FuncData} {k : Nat}
/-! ### _check_asked -/
def spAsked (K : PySem.W.Frag) : Sp := fun vs H Q _ => ∃ (l : Addr) (x : V) (pool : W) (z : Str) (L : List Pr), vs = [.ref l, x, .str z] ∧ PS2 K H l L ∧ Dp K H x (wd pool) ∧ IsW pool ∧ (∀ p ∈ L, IsP pool p) ∧ z ∈ [anyS, plainS, singleS] ∧ ∀ H', Same H H' → Q .non H'
theorem ok_asked {f1 f2 f3 f4 aK : Addr} {fd1 fd2 fd3 fd4 : FuncData} (F : Fun K "_check_asked" "_check_asked" sAsked f fd) (G1 : FnOk P w K mg base CX0 k f1 fd1 ["thing"] (spCheckWorldD K)) (b1 : Binds K fd1 ["thing"] []) (k1 : PySem.W.keepIn K (.ref f1) = true) (m1 : mg "check_world" = some (.ref f1))
    (G2 : FnOk P w K mg base CX0 k f2 fd2 ["thing"] (spIsPair K)) (b2 : Binds K fd2 ["thing"] []) (k2 : PySem.W.keepIn K (.ref f2) = true) (m2 : mg "is_pair" = some (.ref f2))
    (G3 : FnOk P w K mg base CX0 k f3 fd3 ["names", "wanted"] (spHasAllD K)) (b3 : Binds K fd3 ["names", "wanted"] []) (k3 : PySem.W.keepIn K (.ref f3) = true) (m3 : mg "has_all" = some (.ref f3))
    (G4 : FnOk P w K mg base CX0 k f4 fd4 ["thing", "kinds"] (spCheckKind K)) (b4 : Binds K fd4 ["thing", "kinds"] []) (k4 : PySem.W.keepIn K (.ref f4) = true) (m4 : mg "check_kind" = some (.ref f4))
    (mK : mg "KINDS" = some (.ref aK)) (hK : ∀ H : Hp, SqT K H aK ([anyS, plainS, singleS].map V.str)) :
    FnOk P w K mg base CX0 (k + 1) f fd ["pairs", "names", "kind"] (spAsked K) := by
  refine F.ok scAsked (fun vs H Q E h => ?_) (fun cdv A outer s H vs Q E hr h => ?_)
  · obtain ⟨l, x, pool, z, L, rfl, _⟩ := h
    rfl
  obtain ⟨l, x, pool, z, L, rfl, ⟨xs, hS, hx⟩, hp, hw, hL, hz, q⟩ := h
  have xl : xs.length = L.length := by rw [dpAll_len hx, List.length_map]
  rcases hS with hS | hS
  · refine ⟨_, pss_cons (ps_expr (pe_call G1 hr (by rfl) m1 k1 b1 .nil pass0 (pa_cons (pv 1) pa_nil)))
      (pss_cons (ps_for PassesOwn.never rfl (pi_list (pv 0)) (pg_name (i := 3) scAsked.nd rfl (.inl rfl))
        (pss_one (ps_if (PW.pt (pw_or (pt_not (pt_val (pe_call G2 hr (by rfl) m2 k2 b2 .nil pass0 (pa_cons (pv 3) pa_nil)))) (pw_or1 (pt_not (pt_val (pe_call G3 hr (by rfl) m3 k3 b3 .nil pass0 (pa_cons (pv 1) (pa_cons (pe_ix ix_tup (pv 3) pe_int (fun _ _ => rfl)) pa_nil)))))))) pss_never pss_nil)))
      (pss_one (ps_expr (pe_call G4 hr (by rfl) m4 k4 b4 .nil pass0 (pa_cons (pv 2) (pa_cons (pe_glob (v := .ref aK) (by rfl) mK rfl) pa_nil)))))), ?_⟩
    refine ⟨x, rfl, x, pool, rfl, hp, hw, fun H1 s1 => ?_⟩
    refine ⟨.ref l, rfl, l, rfl, ⟨_, s1.seq hS⟩, for_list (xs := xs) (fun i σ H2 => (∃ y3, σ = [some (.ref l), some x, some (.str z), y3]) ∧ Same H H2) ⟨⟨none, rfl⟩, s1⟩ (fun i σ H2 _ hI => hI.2.seq hS) (fun i u σ H2 hu hI => ?_) (fun σ H2 hI => ?_)⟩
    · obtain ⟨⟨y3, rfl⟩, sm⟩ := hI
      obtain ⟨dd, hdd, hud⟩ := dpAll_at' hx hu
      obtain ⟨p, hp', rfl⟩ := map_at hdd
      have ip := hL p (List.mem_of_getElem? hp')
      refine ⟨u, rfl, u, p, rfl, (Stay.same sm).pd hud, ip.w1, ip.w2, ip.le, fun H3 s3 => ⟨true, rfl, iteF ?_⟩⟩
      have sm3 := sm.trans s3
      obtain ⟨a, y, v, rfl, hP, hy, hv⟩ := of_pd ((Stay.same sm3).pd hud)
      have w2l := ip.w2.few
      refine ⟨x, rfl, .ref a, rfl, a, [y, v], 1, v, rfl, rfl, hP, atI_nat (j := 1) rfl, x, v, pool, p.2, rfl, (Stay.same sm3).wd hp, hv, by omega, fun H4 s4 => ⟨_, rfl, ?_⟩⟩
      rw [ip.up]
      exact iteF ⟨⟨_, rfl⟩, sm3.trans s4⟩
    · obtain ⟨⟨y3, rfl⟩, sm⟩ := hI
      exact ⟨.str z, rfl, z, aK, _, rfl, hK _, hz, q H2 sm⟩
  · refine ⟨_, pss_cons (ps_expr (pe_call G1 hr (by rfl) m1 k1 b1 .nil pass0 (pa_cons (pv 1) pa_nil)))
      (pss_cons (ps_for PassesOwn.never rfl (pi_tup (pv 0)) (pg_name (i := 3) scAsked.nd rfl (.inl rfl))
        (pss_one (ps_if (PW.pt (pw_or (pt_not (pt_val (pe_call G2 hr (by rfl) m2 k2 b2 .nil pass0 (pa_cons (pv 3) pa_nil)))) (pw_or1 (pt_not (pt_val (pe_call G3 hr (by rfl) m3 k3 b3 .nil pass0 (pa_cons (pv 1) (pa_cons (pe_ix ix_tup (pv 3) pe_int (fun _ _ => rfl)) pa_nil)))))))) pss_never pss_nil)))
      (pss_one (ps_expr (pe_call G4 hr (by rfl) m4 k4 b4 .nil pass0 (pa_cons (pv 2) (pa_cons (pe_glob (v := .ref aK) (by rfl) mK rfl) pa_nil)))))), ?_⟩
    refine ⟨x, rfl, x, pool, rfl, hp, hw, fun H1 s1 => ?_⟩
    refine ⟨.ref l, rfl, l, rfl, ⟨_, same_tup s1 hS⟩, for_tup (xs := xs) (fun i σ H2 => (∃ y3, σ = [some (.ref l), some x, some (.str z), y3]) ∧ Same H H2) ⟨⟨none, rfl⟩, s1⟩ (fun i σ H2 _ hI => same_tup hI.2 hS) (fun i u σ H2 hu hI => ?_) (fun σ H2 hI => ?_)⟩
    · obtain ⟨⟨y3, rfl⟩, sm⟩ := hI
      obtain ⟨dd, hdd, hud⟩ := dpAll_at' hx hu
      obtain ⟨p, hp', rfl⟩ := map_at hdd
      have ip := hL p (List.mem_of_getElem? hp')
      refine ⟨u, rfl, u, p, rfl, (Stay.same sm).pd hud, ip.w1, ip.w2, ip.le, fun H3 s3 => ⟨true, rfl, iteF ?_⟩⟩
      have sm3 := sm.trans s3
      obtain ⟨a, y, v, rfl, hP, hy, hv⟩ := of_pd ((Stay.same sm3).pd hud)
      have w2l := ip.w2.few
      refine ⟨x, rfl, .ref a, rfl, a, [y, v], 1, v, rfl, rfl, hP, atI_nat (j := 1) rfl, x, v, pool, p.2, rfl, (Stay.same sm3).wd hp, hv, by omega, fun H4 s4 => ⟨_, rfl, ?_⟩⟩
      rw [ip.up]
      exact iteF ⟨⟨_, rfl⟩, sm3.trans s4⟩
    · obtain ⟨⟨y3, rfl⟩, sm⟩ := hI
      exact ⟨.str z, rfl, z, aK, _, rfl, hK _, hz, q H2 sm⟩
/-! ### barred -/
def spBarred (K : PySem.W.Frag) : Sp := fun vs H Q _ => ∃ (l : Addr) (x : V) (pool : W) (z : Str) (L : List Pr), vs = [.ref l, x, .str z] ∧ PS2 K H l L ∧ Dp K H x (wd pool) ∧ IsW pool ∧ (∀ p ∈ L, IsP pool p) ∧ z ∈ [anyS, plainS, singleS] ∧ L.length < 76 ∧
  ∀ H' y R, Same H H' → R.Nodup → Rising (R.map pd) → (∀ p, p ∈ R ↔ p ∈ L) → Told K H' y (whyO R z) → Q y H'
theorem ok_barred {f1 f2 : Addr} {fd1 fd2 : FuncData} (F : FunD K "barred" "barred" (defArgs sBarred) (defBody sBarred) (defScope sBarred) [.str anyS] [] f fd) (T : Bl mg) (G1 : FnOk P w K mg base CX0 k f1 fd1 ["pairs", "names", "kind"] (spAsked K)) (b1 : Binds K fd1 ["pairs", "names", "kind"] []) (k1 : PySem.W.keepIn K (.ref f1) = true) (m1 : mg "_check_asked" = some (.ref f1))
    (G2 : FnOk P w K mg base CX0 k f2 fd2 ["chosen", "kind"] (spWhyNot K)) (b2 : Binds K fd2 ["chosen", "kind"] []) (k2 : PySem.W.keepIn K (.ref f2) = true) (m2 : mg "_why_not" = some (.ref f2)) :
    FnOk P w K mg base CX0 (k + 1) f fd ["pairs", "names", "kind"] (spBarred K) := by
  refine F.ok scBarred (fun vs H Q E h => ?_) (fun cdv A outer s H vs Q E hr h => ?_)
  · obtain ⟨l, x, pool, z, L, rfl, _⟩ := h
    rfl
  obtain ⟨l, x, pool, z, L, rfl, hS, hp, hw, hL, hz, few, q⟩ := h
  refine ⟨_, PSs.nox (pss_cons (ps_expr (pe_call G1 hr (by rfl) m1 k1 b1 .nil pass0 (pa_cons (pv 0) (pa_cons (pv 1) (pa_cons (pv 2) pa_nil)))))
    (pss_one (ps_ret (pe_call G2 hr (by rfl) m2 k2 b2 .nil pass0 (pa_cons (pe_callB (cr_sortT rfl hr.units) (by rfl) T.sorted (by decide +kernel) (pa_cons (pe_callTy (cr_setT rfl hr.units) (by rfl) T.set (by decide +kernel) (pa_cons (pv 0) pa_nil)) pa_nil)) (pa_cons (pv 2) pa_nil)))))), ?_⟩
  refine ⟨.ref l, rfl, x, rfl, .str z, rfl, l, x, pool, z, L, rfl, hS, hp, hw, hL, hz, fun H1 s1 => ?_⟩
  obtain ⟨xs, hS1, hx1⟩ := hS.same s1
  refine ⟨.ref l, rfl, l, xs, L.map pd, rfl, hS1, hx1, (fun d hd => by obtain ⟨p, _, rfl⟩ := List.mem_map.mp hd; exact good_pd p), by rw [List.length_map]; exact few, fun a M ha hM hall => ?_⟩
  have s2 := s1.trans (same_new ha (TSetO w a M))
  have sa := same_new ha (TSetO w a M)
  have isP : ∀ e ∈ M, ∃ p ∈ L, e.2 = pd p := fun e he => by
    obtain ⟨p, hp, ep⟩ := List.mem_map.mp (hM e he).1
    exact ⟨p, hp, ep.symm⟩
  refine ⟨a, M, rfl, upd_same, fun e he => ?_, ?_, fun ys ds p perm nd lt ris hys hp' => ?_⟩
  · obtain ⟨p, _, ep⟩ := isP e he
    refine ⟨by rw [ep]; exact good_pd p, (Stay.same sa).dp _ _ (by rw [ep]; exact ok_pd p) (hM e he).2⟩
  · refine fun d hd d' hd' => ?_
    obtain ⟨e, he, rfl⟩ := List.mem_map.mp hd
    obtain ⟨e', he', rfl⟩ := List.mem_map.mp hd'
    obtain ⟨p, _, ep⟩ := isP e he
    obtain ⟨p', _, ep'⟩ := isP e' he'
    rw [ep, ep']
    exact alike_pd p p'
  · obtain ⟨R, rfl⟩ := all_pd (ds := ds) fun d hd => by
      obtain ⟨e, he, rfl⟩ := List.mem_map.mp (perm.mem_iff.mp hd)
      obtain ⟨p, _, ep⟩ := isP e he
      exact ⟨p, ep⟩
    have memR : ∀ p, p ∈ R ↔ p ∈ L := fun p => by
      rw [← pd_mem, perm.mem_iff]
      constructor
      · intro hm
        obtain ⟨e, he, ee⟩ := List.mem_map.mp hm
        obtain ⟨p', hp', ep⟩ := isP e he
        rw [← pd_inj (ep.symm.trans ee)]
        exact hp'
      · intro hm
        exact hall _ (pd_mem.mpr hm)
    have nR : R.Nodup := nodup_of_map nd
    have sp := same_new hp' (.lst ys)
    have s3 := s2.trans sp
    rw [List.length_map] at lt
    refine ⟨.str z, rfl, p, z, R, rfl, ⟨ys, SqL.of upd_same, (Stay.same sp).dpAll _ _ (okDs_pd R) hys⟩, nR, by omega, fun p hp => ?_, fun H' y s4 t => q H' y R (s3.trans s4) nR ris memR t⟩
    have := hL p ((memR p).mp hp)
    exact ⟨this.w1, this.w2⟩
end
end Rw
namespace Rw
open PySem PySem.Spec PyProof.Rows L2
/-! ### without, _heads_against -/
theorem scWithout : FnScope ["names", "left_out", "name"] ["names", "left_out"] (defScope sWithout) := ⟨rfl, rfl, rfl, by decide +kernel, rfl, by decide +kernel, by decide +kernel⟩
abbrev nHeadsA : List Str := ["here", "there", "lows", "kind", "heads", "least", "low"]
theorem scHeadsA : FnScope nHeadsA ["here", "there", "lows", "kind"] (defScope sHeadsA) := ⟨rfl, rfl, rfl, by decide +kernel, rfl, by decide +kernel, by decide +kernel⟩
/-- the least world above here that the lows leave -/
def leastA (here there : W) (ls : List W) : W := ls.foldl (fun acc low => if sub here low = true then meet acc low else acc) there
def headsA (z : Str) (here there : W) (ls : List W) : W := if z = singleS then (minus (leastA here there ls) here).take 1 else minus there here
def deniedA (z : Str) (here there : W) : W := if z = anyS then minus there here else []
theorem slT_w {K : PySem.W.Frag} {H : Hp} {a : Addr} {xs : List V} {lo hi : Option Int} {Q : VK} (hx : SqT K H a xs) (q : ∀ c H0, Same H H0 → SqT K H0 c (cutV xs lo hi) → Q (.ref c) H0) : rSlA K (.ref a) lo hi H Q := by
  refine ⟨a, xs, rfl, hx, fun ⟨e1, e2⟩ => q a H (fun _ _ e => e) ?_, fun _ p hp => q p _ (same_new hp _) (SqT.of upd_same)⟩
  unfold cutV
  rw [e1, e2, List.drop_zero, Nat.sub_zero, List.take_length]
  exact hx
theorem cut_one (xs : List V) : cutV xs none (some 1) = xs.take 1 := by
  unfold cutV
  show (xs.drop 0).take (HT.sIx xs.length xs.length (some 1) - 0) = _
  have e : HT.sIx xs.length xs.length (some 1) = min 1 xs.length := rfl
  rw [e, List.drop_zero, Nat.sub_zero]
  cases xs with
  | nil => rfl
  | cons x xs => rfl
theorem meet_sub {a b : W} : ∀ z ∈ meet a b, z ∈ a := fun z h => (List.mem_filter.mp h).1
theorem isW_filter {p : Str → Bool} {ns : W} (h : IsW ns) : IsW (ns.filter p) := ⟨fun x hx => h.names x (List.mem_filter.mp hx).1, List.Pairwise.sublist List.filter_sublist h.up, Nat.le_trans (List.length_filter_le _ _) h.few⟩
theorem isW_take {ns : W} (h : IsW ns) (n : Nat) : IsW (ns.take n) := ⟨fun x hx => h.names x (List.mem_of_mem_take hx), List.Pairwise.sublist (List.take_sublist _ _) h.up, by rw [List.length_take]; have := h.few; omega⟩
theorem least_snoc {here there : W} {ls : List W} {i : Nat} {t : W} (h : ls[i]? = some t) : leastA here there (ls.take (i + 1)) = if sub here t = true then meet (leastA here there (ls.take i)) t else leastA here there (ls.take i) := by
  unfold leastA
  rw [take_snoc h, List.foldl_append]
  rfl
theorem least_mem {here there : W} : ∀ {ls : List W} {z : Str}, z ∈ leastA here there ls ↔ z ∈ there ∧ ∀ t ∈ ls, sub here t = true → z ∈ t := fun {ls} => by
  unfold leastA
  induction ls generalizing there with
  | nil => intro z; simp
  | cons t ls ih =>
    intro z
    rw [List.foldl_cons, ih]
    by_cases c : sub here t = true
    · rw [if_pos c]
      simp [meet, c, and_assoc]
    · rw [if_neg c]
      simp [c]
theorem least_w {here there : W} (h : IsW there) : ∀ ls : List W, IsW (leastA here there ls) := fun ls => by
  unfold leastA
  induction ls generalizing there with
  | nil => exact h
  | cons t ls ih =>
    rw [List.foldl_cons]
    split
    · exact ih (isW_filter h)
    · exact ih h
section
variable {P : Program} {w : World} {K : PySem.W.Frag} {mg : Str → Option Value} {base : Heap} {f : Addr} {fd : FuncData} {k : Nat}
def spWithout (K : PySem.W.Frag) : Sp := fun vs H Q _ => ∃ (x y : V) (ns ms : W), vs = [x, y] ∧ Dp K H x (wd ns) ∧ Dp K H y (wd ms) ∧ ns.length ≤ 1000 ∧ ∀ H' a, Same H H' → H' a = some (.tup ((minus ns ms).map V.str)) → Q (.ref a) H'
theorem ok_without (F : Fun K "without" "without" sWithout f fd) (T : Bl mg) : FnOk P w K mg base CX0 (k + 1) f fd ["names", "left_out"] (spWithout K) := by
  refine F.ok scWithout (fun vs H Q E h => ?_) (fun cdv A outer s H vs Q E hr h => ?_)
  · obtain ⟨x, y, ns, ms, rfl, _⟩ := h
    rfl
  obtain ⟨x, y, ns, ms, rfl, hx, hy, few, q⟩ := h
  obtain ⟨a, rfl, hS⟩ := of_wd hx
  obtain ⟨b, rfl, hT⟩ := of_wd hy
  refine ⟨_, pss_one (ps_ret (pe_callTy call_tuple_of (by rfl) T.tuple (by decide +kernel) (pa_cons (pe_lc (own := [("name", 2)]) (g := gName 2) (by rfl) scWithout.nd (pi_tup (pv 0)) (blkOk_by (N := ["names", "left_out", "name"]) (sc := defScope sWithout) (by decide +kernel))
        (fun _ _ _ _ _ => pg_name (i := 2) scWithout.nd rfl (Or.inl rfl)) (fun _ _ _ _ _ => pts_one (pt_cmpR (r := rIn K true) op_notIn_seq (pv 2) (pv 1) (by rfl))) (fun _ _ _ _ _ => pv 2)) pa_nil))), ?_⟩
  refine ⟨.ref a, rfl, a, rfl, ⟨_, hS⟩, fun D hD => ?_⟩
  have s1 : Same H (upd H D (.lst [])) := same_new hD _
  refine lc_tup (xs := ns.map V.str) (fun i H1 => Same H H1 ∧ H1 D = some (.lst (((ns.take i).filter fun z => !decide (z ∈ ms)).map V.str))) ⟨s1, upd_same⟩ (fun i H1 _ hI => same_tup hI.1 hS) (fun i x H1 hx hI => ?_) (fun H1 hI => ?_)
  · obtain ⟨sm, hd⟩ := hI
    obtain ⟨z, hz, rfl⟩ := map_at hx
    refine ⟨rfl, .str z, rfl, .ref b, rfl, b, ms.map V.str, rfl, .inr (same_tup sm hT), rfl, flat_strs ms, _, rfl, ?_⟩
    rw [inV_str]
    refine ite2 (fun e => ?_) (fun e => ?_)
    · refine ⟨.str z, rfl, _, hd, small_line' ?_, same_put sm hD, ?_⟩
      · rw [List.length_map]
        have := List.length_filter_le (fun z => !decide (z ∈ ms)) (ns.take i)
        rw [List.length_take] at this
        omega
      · rw [upd_same, filt_t hz (show (!decide (z ∈ ms)) = true by simpa using e), List.map_append]
        rfl
    · refine ⟨sm, ?_⟩
      rw [filt_f hz (show (!decide (z ∈ ms)) = false by simpa using e)]
      exact hd
  · obtain ⟨sm, hd⟩ := hI
    rw [List.length_map, List.take_length] at hd
    refine ⟨D, _, rfl, .inl ⟨SqL.of hd, fun l hl => ?_⟩⟩
    exact q _ l (sm.trans (same_new hl _)) upd_same
def spHeadsA (K : PySem.W.Frag) : Sp := fun vs H Q _ => ∃ (x y : V) (l : Addr) (z : Str) (here there : W) (ls : List W), vs = [x, y, .ref l, .str z] ∧ Dp K H x (wd here) ∧ Dp K H y (wd there) ∧ IsW here ∧ IsW there ∧ (∃ ys, SqL K H l ys ∧ DpAll K H ys (ls.map wd)) ∧
  ∀ H' p u v, Same H H' → SqT K H' p [u, v] → Dp K H' u (wd (headsA z here there ls)) → Dp K H' v (wd (deniedA z here there)) → Q (.ref p) H'
theorem ok_headsA {f1 f2 f3 : Addr} {fd1 fd2 fd3 : FuncData} (F : Fun K "_heads_against" "_heads_against" sHeadsA f fd)
    (G1 : FnOk P w K mg base CX0 k f1 fd1 ["names", "left_out"] (spWithout K)) (b1 : Binds K fd1 ["names", "left_out"] []) (k1 : PySem.W.keepIn K (.ref f1) = true) (m1 : mg "without" = some (.ref f1))
    (G2 : FnOk P w K mg base CX0 k f2 fd2 ["names", "wanted"] (spHasAllD K)) (b2 : Binds K fd2 ["names", "wanted"] []) (k2 : PySem.W.keepIn K (.ref f2) = true) (m2 : mg "has_all" = some (.ref f2))
    (G3 : FnOk P w K mg base CX0 k f3 fd3 ["one", "other"] (spCommon K)) (b3 : Binds K fd3 ["one", "other"] []) (k3 : PySem.W.keepIn K (.ref f3) = true) (m3 : mg "_common" = some (.ref f3)) :
    FnOk P w K mg base CX0 (k + 1) f fd ["here", "there", "lows", "kind"] (spHeadsA K) := by
  refine F.ok scHeadsA (fun vs H Q E h => ?_) (fun cdv A outer s H vs Q E hr h => ?_)
  · obtain ⟨x, y, l, z, here, there, ls, rfl, _⟩ := h
    rfl
  obtain ⟨x, y, l, z, here, there, ls, rfl, hx, hy, wh, wt, ⟨ys, hl, hys⟩, q⟩ := h
  refine ⟨_, pss_cons (ps_if (pt_cmpR op_ne (pv 3) pe_str (nomark _))
      (pss_cons (ps_set (i := 4) scHeadsA.nd rfl (.inl rfl) (pe_call G1 hr (by rfl) m1 k1 b1 .nil pass0 (pa_cons (pv 1) (pa_cons (pv 0) pa_nil))))
      (pss_one (ps_ret (pe_tup (pa_cons (pv 4) (pa_cons (pe_ifExp (pt_cmpR op_eq (pv 3) pe_str (nomark _)) (pv 4) (pe_tup pa_nil)) pa_nil)))))) pss_nil)
    (pss_cons (ps_set (i := 5) scHeadsA.nd rfl (.inl rfl) (pv 1))
    (pss_cons (ps_for PassesOwn.never rfl (pi_list (pv 2)) (pg_name (i := 6) scHeadsA.nd rfl (.inl rfl))
      (pss_one (ps_if (pt_val (pe_call G2 hr (by rfl) m2 k2 b2 .nil pass0 (pa_cons (pv 6) (pa_cons (pv 0) pa_nil)))) (pss_one (ps_set (i := 5) scHeadsA.nd rfl (.inl rfl) (pe_call G3 hr (by rfl) m3 k3 b3 .nil pass0 (pa_cons (pv 5) (pa_cons (pv 6) pa_nil))))) pss_nil)))
    (pss_one (ps_ret (pe_tup (pa_cons (pe_slice (r := rSlA K) sl_tupA (pe_call G1 hr (by rfl) m1 k1 b1 .nil pass0 (pa_cons (pv 5) (pa_cons (pv 0) pa_nil))) po_none (po_some pe_int)) (pa_cons (pe_tup pa_nil) pa_nil))))))), ?_⟩
  have ev : ∀ u v : Str, (!decide (V.str u = V.str v)) = !decide (u = v) := fun u v => by
    by_cases e : u = v
    · rw [e, decide_eq_true rfl, decide_eq_true rfl]
    · rw [decide_eq_false e, decide_eq_false fun q => e (by injection q)]
  have ee : ∀ u v : Str, decide (V.str u = V.str v) = decide (u = v) := fun u v => by
    have := ev u v
    cases h1 : decide (V.str u = V.str v) <;> cases h2 : decide (u = v) <;> simp_all
  have lt := wt.few
  have yl : ys.length = ls.length := by rw [dpAll_len hys, List.length_map]
  refine ⟨.str z, rfl, rfl, !decide (z = singleS), congrArg V.bl (ev _ _), ?_⟩
  by_cases c : z = singleS
  · rw [decide_eq_true c]
    refine iteF ?_
    refine ⟨y, rfl, ?_⟩
    refine ⟨.ref l, rfl, l, rfl, ⟨_, hl⟩, for_list (xs := ys) (fun i σ H1 => (∃ u y6, σ = [some x, some y, some (.ref l), some (.str z), none, some u, y6] ∧ Dp K H1 u (wd (leastA here there (ls.take i)))) ∧ Same H H1) ⟨⟨y, none, rfl, hy⟩, fun _ _ e => e⟩ (fun i σ H1 _ hI => hI.2.seq hl) (fun i v σ H1 hv hI => ?_) (fun σ H1 hI => ?_)⟩
    · obtain ⟨⟨u, y6, rfl, hu⟩, sm⟩ := hI
      obtain ⟨dd, hdd, hvd⟩ := dpAll_at' hys hv
      obtain ⟨t, ht, rfl⟩ := map_at hdd
      have hv1 := dp_same sm _ _ hvd
      have ll := (least_w (here := here) wt (ls.take i)).few
      refine ⟨v, rfl, x, rfl, ?_⟩
      dsimp only [tNil]
      refine ⟨v, x, t, here, rfl, hv1, dp_same sm _ _ hx, by have := wh.few; omega, fun H2 s2 => ⟨sub here t, rfl, ?_⟩⟩
      refine ite2 (fun e => ?_) (fun e => ?_)
      · refine ⟨u, rfl, v, rfl, ?_⟩
        dsimp only [tNil]
        refine ⟨u, v, _, t, rfl, dp_same s2 _ _ hu, dp_same s2 _ _ hv1, by omega, fun H3 m s3 hm => ?_⟩
        refine ⟨⟨.ref m, _, rfl, ?_⟩, sm.trans (s2.trans s3)⟩
        rw [least_snoc ht, if_pos e]
        exact to_wd (SqT.of hm)
      · refine ⟨⟨u, _, rfl, ?_⟩, sm.trans s2⟩
        rw [least_snoc ht, if_neg e]
        exact dp_same s2 _ _ hu
    · obtain ⟨⟨u, y6, rfl, hu⟩, sm⟩ := hI
      rw [yl, List.take_length] at hu
      have ll := (least_w (here := here) wt ls).few
      refine ⟨u, rfl, x, rfl, ?_⟩
      dsimp only [tNil]
      refine ⟨u, x, _, here, rfl, hu, dp_same sm _ _ hx, by omega, fun H2 m s2 hm => ?_⟩
      refine ⟨1, rfl, ?_⟩
      refine slT_w (SqT.of hm) fun cc H3 s3 hc => ?_
      rw [cut_one] at hc
      refine ⟨by show 0 ≤ sizeLine; decide, fun e he => ⟨by show 2 ≤ sizeLine; decide, fun p hp => ?_⟩⟩
      have s4 := same_new he (.tup [])
      have s5 := same_new hp (.tup [.ref cc, .ref e])
      refine q _ p (.ref cc) (.ref e) (sm.trans (s2.trans (s3.trans (s4.trans s5)))) (SqT.of upd_same) ?_ ?_
      · unfold headsA
        rw [if_pos c]
        refine to_wd (same_tup (s4.trans s5) ?_)
        rw [List.map_take]
        exact hc
      · unfold deniedA
        rw [if_neg (by rw [c]; decide)]
        exact to_wd (ns := []) (SqT.of (s5 _ _ upd_same))
  · rw [decide_eq_false c]
    refine iteT ?_
    refine ⟨y, rfl, x, rfl, ?_⟩
    dsimp only [tNil]
    refine ⟨y, x, there, here, rfl, hy, hx, by omega, fun H1 m s1 hm => ?_⟩
    refine ⟨.ref m, rfl, .str z, rfl, rfl, decide (z = anyS), congrArg V.bl (ee _ _), ?_⟩
    have hh : headsA z here there ls = minus there here := by unfold headsA; rw [if_neg c]
    refine ite2 (fun e => ?_) (fun e => ?_)
    · have ez := of_decide_eq_true e
      refine ⟨.ref m, rfl, by show 2 ≤ sizeLine; decide, fun p hp => ?_⟩
      have s5 := same_new hp (.tup [.ref m, .ref m])
      refine q _ p (.ref m) (.ref m) (s1.trans s5) (SqT.of upd_same) ?_ ?_
      · rw [hh]
        exact to_wd (SqT.of (s5 _ _ hm))
      · unfold deniedA
        rw [if_pos ez]
        exact to_wd (SqT.of (s5 _ _ hm))
    · have ez : z ≠ anyS := fun h => e (decide_eq_true h)
      refine ⟨by show 0 ≤ sizeLine; decide, fun u hu => ⟨by show 2 ≤ sizeLine; decide, fun p hp => ?_⟩⟩
      have s4 := same_new hu (.tup [])
      have s5 := same_new hp (.tup [.ref m, .ref u])
      refine q _ p (.ref m) (.ref u) (s1.trans (s4.trans s5)) (SqT.of upd_same) ?_ ?_
      · rw [hh]
        exact to_wd (SqT.of ((s4.trans s5) _ _ hm))
      · unfold deniedA
        rw [if_neg ez]
        exact to_wd (ns := []) (SqT.of (s5 _ _ upd_same))
end
end Rw
namespace Rw
open PySem PySem.Spec PyProof.Rows L2
/-! ### program_of -/
abbrev nPO : List Str := ["pairs", "names", "kind", "chosen", "why", "lows", "free", "rows", "there", "bars", "here", "heads", "denied"]
theorem scPO : FnScope nPO ["pairs", "names", "kind"] (defScope sPO) := ⟨rfl, rfl, rfl, by decide +kernel, rfl, by decide +kernel, by decide +kernel⟩
theorem hu65 {k : Nat} {A : Around} (r : Room k A) : A.units + 65 < cLine := by have := r.un; omega
theorem noStop {K : PySem.W.Frag} : NoStop K (fun _ _ _ => False) := fun _ _ _ h => h.elim
/-- the rules against what is not beside there -/
def rowsAt (pool : W) (R : List Pr) (z : Str) (t : W) : List Rl := if t ∈ R.map (·.2) then ((everyW t).filter fun h => !decide (h ∈ lows R t)).map (fun h => (headsA z h t (lows R t), deniedA z h t, h, minus pool t)) else [([], [], t, minus pool t)]
def madeL (pool : W) (R : List Pr) (z : Str) : List Rl := (everyW pool).flatMap (rowsAt pool R z)
theorem okW_nil (ns t : W) : okW ns [] t = true := rfl
theorem every_nil (ns : W) : (everyW ns).filter (okW ns []) = everyW ns := List.filter_eq_self.mpr fun t _ => okW_nil ns t
theorem isW_nil' : IsW [] := ⟨(fun _ z => nomatch z), List.Pairwise.nil, by decide⟩
theorem isW_sl {ns zs : W} (h : IsW ns) (s : zs.Sublist ns) : IsW zs := ⟨fun x hx => h.names x (s.subset hx), List.Pairwise.sublist s h.up, Nat.le_trans s.length_le h.few⟩
theorem shaped_wdsL {L : List W} (h : ∀ t ∈ L, IsW t) : SeqAt.shaped (.list (L.map wd)) = true := by
  refine shaped_of ?_ ?_
  · rw [PyData.canLay0]
    exact lay_wds h
  · have d : PyData.depthAll (L.map wd) ≤ 1 := by
      clear h
      induction L with
      | nil => exact Nat.zero_le _
      | cons t L ih =>
        rw [List.map_cons, PyData.depthAll, depth_wd]
        omega
    rw [PyData.depth]
    omega
theorem any_wd {L : List W} {h : W} : ((L.map wd).any fun y => PyData.eqv y (wd h)) = decide (h ∈ L) := by
  rw [Bool.eq_iff_iff, List.any_eq_true, decide_eq_true_eq]
  constructor
  · rintro ⟨y, hy, ey⟩
    obtain ⟨t, ht, rfl⟩ := List.mem_map.mp hy
    rw [eqv_wd, decide_eq_true_eq] at ey
    rw [← ey]
    exact ht
  · intro hm
    exact ⟨wd h, List.mem_map.mpr ⟨h, hm, rfl⟩, by rw [eqv_wd, decide_eq_true rfl]⟩
theorem rows_isR {pool : W} {R : List Pr} {z : Str} {t : W} (hp : IsW pool) (ht : IsW t) : ∀ r ∈ rowsAt pool R z t, IsR r := fun r hr => by
  unfold rowsAt at hr
  split at hr
  · obtain ⟨h, hh, rfl⟩ := List.mem_map.mp hr
    have wh := isW_sl ht (mem_every.mp (List.mem_filter.mp hh).1)
    refine ⟨?_, ?_, wh, isW_filter hp⟩
    · show IsW (headsA z h t _)
      unfold headsA
      split
      · exact isW_take (isW_filter (least_w ht _)) 1
      · exact isW_filter ht
    · show IsW (deniedA z h t)
      unfold deniedA
      split
      · exact isW_filter ht
      · exact isW_nil'
  · rw [List.mem_singleton.mp hr]
    exact ⟨isW_nil', isW_nil', ht, isW_filter hp⟩
theorem rows_len {pool : W} {R : List Pr} {z : Str} {t : W} (l3 : t.length ≤ 3) : (rowsAt pool R z t).length ≤ 8 := by
  unfold rowsAt
  split
  · rw [List.length_map]
    refine Nat.le_trans (List.length_filter_le _ _) ?_
    rw [every_len]
    exact Nat.le_trans (Nat.pow_le_pow_right (by decide) l3) (by decide)
  · show 1 ≤ 8
    decide
theorem flat_len {α β : Type} {g : α → List β} {n : Nat} : ∀ {L : List α}, (∀ t ∈ L, (g t).length ≤ n) → (L.flatMap g).length ≤ n * L.length
  | [], _ => Nat.zero_le _
  | t :: L, h => by
    rw [List.flatMap_cons, List.length_append, List.length_cons, Nat.mul_add, Nat.mul_one]
    have := h t List.mem_cons_self
    have := flat_len (L := L) fun y hy => h y (List.mem_cons_of_mem _ hy)
    omega
theorem every_le3 {ns : W} (l3 : ns.length ≤ 3) : (everyW ns).length ≤ 8 := by
  rw [every_len]
  exact Nat.le_trans (Nat.pow_le_pow_right (by decide) l3) (by decide)
theorem made_len {pool : W} {R : List Pr} {z : Str} (l3 : pool.length ≤ 3) (i : Nat) : (((everyW pool).take i).flatMap (rowsAt pool R z)).length ≤ 64 := by
  refine Nat.le_trans (flat_len (n := 8) fun t ht => rows_len (Nat.le_trans (mem_every.mp (List.mem_of_mem_take ht)).length_le l3)) ?_
  have := every_le3 l3
  rw [List.length_take]
  omega
section
variable {P : Program} {w : World} {K : PySem.W.Frag} {mg : Str → Option Value} {base : Heap} {f : Addr} {fd : FuncData} {k : Nat}
theorem asg_i {t : TE} {i : Nat} {u : TS} {D : Ends} {σ : L2.St} {H : Hp} (h : t σ H fun x H1 => u D (σ.set i (some x)) H1) : tSeq (tAsg t (gName i)) u D σ H := h
theorem make0_ok {C : Addr} {Q : VK} {E : XK} {σ : L2.St} {H : Hp} (q : ∀ H' v S, Same H H' → Srt S [] → S.length < 76 → PgAt K C H' v S → Q v H') : StX.tMakeR C (spInit K C) E tNil σ H Q :=
  made_ok (C := C) (L := []) (Q := Q) .nil (fun _ z => nomatch z) (by decide) q
/-- program_of, rightly asked: the program, or why there is none -/
def spPO (K : PySem.W.Frag) (C CB : Addr) : Sp := fun vs H Q E => ∃ (l : Addr) (x : V) (pool : W) (z : Str) (L : List Pr), vs = [.ref l, x, .str z] ∧ PS2 K H l L ∧ Dp K H x (wd pool) ∧ IsW pool ∧ pool.length ≤ 3 ∧ (∀ p ∈ L, IsP pool p) ∧ z ∈ [anyS, plainS, singleS] ∧ L.length < 76 ∧
  ∀ R, R.Nodup → Rising (R.map pd) → (∀ p, p ∈ R ↔ p ∈ L) → (whyO R z = none → ∀ H' v S, Same H H' → Srt S (madeL pool R z) → S.length < 76 → PgAt K C H' v S → Q v H') ∧
    ∀ d, whyO R z = some d → ∀ H' dx y, Same H H' → Told K H' y (some d) → H' dx = none → E (.ref CB) (some dx) (upd H' dx (.xd [(("why" : Str), y)]))
theorem ok_PO {C CB fI f1 f2 f3 f4 f5 fW : Addr} {fd1 fd2 fd3 fd4 fd5 fdW : FuncData} (F : FunD K "program_of" "program_of" (defArgs sPO) (defBody sPO) (defScope sPO) [.str anyS] [] f fd) (T : Bl mg) (X : ErrT P w K mg base (k + 2) "Barred" "why" CB)
    (M : Mk K C fI) (GI : FnR P w K mg base CX0 (k + 2) fI (spInit K C)) (mP : mg "Program" = some (.ref C))
    (G1 : FnOk P w K mg base CX0 (k + 3) f1 fd1 ["pairs", "names", "kind"] (spAsked K)) (b1 : Binds K fd1 ["pairs", "names", "kind"] []) (k1 : PySem.W.keepIn K (.ref f1) = true) (m1 : mg "_check_asked" = some (.ref f1))
    (G2 : FnOk P w K mg base CX0 (k + 3) f2 fd2 ["chosen", "kind"] (spWhyNot K)) (b2 : Binds K fd2 ["chosen", "kind"] []) (k2 : PySem.W.keepIn K (.ref f2) = true) (m2 : mg "_why_not" = some (.ref f2))
    (G3 : FnOk P w K mg base CX0 (k + 3) f3 fd3 ["chosen"] (spBelow K P w)) (b3 : Binds K fd3 ["chosen"] []) (k3 : PySem.W.keepIn K (.ref f3) = true) (m3 : mg "_worlds_below" = some (.ref f3))
    (G4 : FnOk P w K mg base CX0 (k + 3) f4 fd4 ["names", "left_out"] (spWithout K)) (b4 : Binds K fd4 ["names", "left_out"] []) (k4 : PySem.W.keepIn K (.ref f4) = true) (m4 : mg "without" = some (.ref f4))
    (G5 : FnOk P w K mg base CX0 (k + 3) f5 fd5 ["here", "there", "lows", "kind"] (spHeadsA K)) (b5 : Binds K fd5 ["here", "there", "lows", "kind"] []) (k5 : PySem.W.keepIn K (.ref f5) = true) (m5 : mg "_heads_against" = some (.ref f5))
    (GW : GFn P w K mg base k fW fdW ["program", "names"] (spWorlds K C)) (bW : Binds K fdW ["program", "names"] []) (kW : PySem.W.keepIn K (.ref fW) = true) (mW : mg "worlds" = some (.ref fW)) :
    FnOk P w K mg base (L2.CX P w) (k + 4) f fd ["pairs", "names", "kind"] (spPO K C CB) := by
  obtain ⟨fE, fdE, i1, i2, i3, i4⟩ := X.ex
  refine FunD.ok (CX := L2.CX P w) F scPO (fun vs H Q E h => ?_) (fun cdv A outer s H vs Q E hr h => ?_)
  · obtain ⟨l, x, pool, z, L, rfl, _⟩ := h
    rfl
  obtain ⟨l, x, pool, z, L, rfl, hS, hp, hw, l3, hL, hz, few, q⟩ := h
  have hr3 : Room (k + 3) (A.deeper (envOfC "program_of" (defScope sPO) s.heap.objs.size f cdv)) := hr
  have hrW : Room k (A.deeper (envOfC "program_of" (defScope sPO) s.heap.objs.size f cdv)) := hr3.mono (by omega)
  refine ⟨_, (pss_cons (ps_expr (pe_call G1 hr (by rfl) m1 k1 b1 .nil pass0 (pa_cons (pv 0) (pa_cons (pv 1) (pa_cons (pv 2) pa_nil))))) (pss_cons (ps_set (i := 3) scPO.nd rfl (.inl rfl) (pe_callB (cr_sortT rfl hr.units) (by rfl) T.sorted (by decide +kernel) (pa_cons (pe_callTy (cr_setT rfl hr.units) (by rfl) T.set (by decide +kernel) (pa_cons (pv 0) pa_nil)) pa_nil))) (pss_cons (ps_set (i := 4) scPO.nd rfl (.inl rfl) (pe_call G2 hr (by rfl) m2 k2 b2 .nil pass0 (pa_cons (pv 3) (pa_cons (pv 2) pa_nil)))) (pss_cons (ps_if (pt_cmpR op_notN (pv 4) pe_non (nomark _)) (pss_one (ps_raise rfl (takes_of rfl rfl rfl rfl) (pmk_oex X.oex i1 i2 i3 hr i4 .nil pass0 (by rfl) X.m (pa_cons (pv 4) pa_nil)))) pss_nil) (pss_cons (ps_set (i := 5) scPO.nd rfl (.inl rfl) (pe_call G3 hr (by rfl) m3 k3 b3 .nil pass0 (pa_cons (pv 3) pa_nil))) (pss_cons (ps_set (i := 6) scPO.nd rfl (.inl rfl) (pe_makeR0 M GI hr (by rfl) mP pass0)) (pss_cons (ps_set (i := 7) scPO.nd rfl (.inl rfl) (pe_lst pa_nil)) (pss_cons (ps_for (passes_of rfl) rfl (pi_list (pe_listG (pgen_call GW hrW (by rfl) mW kW bW .nil (pa_cons (pv 6) (pa_cons (pv 1) pa_nil))) passNo noStop hr3 (by rfl) T.list (by decide +kernel))) (pg_name (i := 8) scPO.nd rfl (.inl rfl)) (pss_cons (ps_set (i := 9) scPO.nd rfl (.inl rfl) (pe_call G4 hr (by rfl) m4 k4 b4 .nil pass0 (pa_cons (pv 1) (pa_cons (pv 8) pa_nil)))) (pss_cons (ps_if (pt_cmpR (op_notInN hr.units) (pv 8) (pv 5) (by rfl)) (pss_cons (ps_expr (pe_bm PySem.F.plainAttrs_list PySem.F.slot_list_append PySem.F.type_list_append mt_append (pv 7) (pa_cons (pe_tup (pa_cons (pe_tup pa_nil) (pa_cons (pe_tup pa_nil) (pa_cons (pv 8) (pa_cons (pv 9) pa_nil))))) pa_nil))) (pss_one ps_continue)) pss_nil) (pss_one (ps_for (passes_of rfl) rfl (pi_list (pe_listG (pgen_call GW hrW (by rfl) mW kW bW .nil (pa_cons (pv 6) (pa_cons (pv 8) pa_nil))) passNo noStop hr3 (by rfl) T.list (by decide +kernel))) (pg_name (i := 10) scPO.nd rfl (.inl rfl)) (pss_one (ps_if (pt_cmpR (op_notInD (hu65 hr)) (pv 10) (pe_getN hr.units (pv 5) (pv 8) (fun _ _ => rfl)) (by rfl)) (pss_cons (ps_asg (pe_call G5 hr (by rfl) m5 k5 b5 .nil pass0 (pa_cons (pv 10) (pa_cons (pv 8) (pa_cons (pe_getN hr.units (pv 5) (pv 8) (fun _ _ => rfl)) (pa_cons (pv 2) pa_nil))))) (pg_tup (by rfl) (pgs_cons (pg_name (i := 11) scPO.nd rfl (.inl rfl)) (pgs_cons (pg_name (i := 12) scPO.nd rfl (.inl rfl)) pgs_nil)))) (pss_one (ps_expr (pe_bm PySem.F.plainAttrs_list PySem.F.slot_list_append PySem.F.type_list_append mt_append (pv 7) (pa_cons (pe_tup (pa_cons (pv 11) (pa_cons (pv 12) (pa_cons (pv 10) (pa_cons (pv 9) pa_nil))))) pa_nil))))) pss_nil))))))) (pss_one (ps_ret (pe_makeS M GI hr (by rfl) mP pass0 (pv 7)))))))))))), ?_⟩
  have hpf := hw.few
  refine ⟨.ref l, rfl, x, rfl, .str z, rfl, ?_⟩
  dsimp only [tNil]
  refine ⟨l, x, pool, z, L, rfl, hS, hp, hw, hL, hz, fun H1 s1 => ?_⟩
  obtain ⟨xs, hS1, hx1⟩ := hS.same s1
  refine ⟨.ref l, rfl, l, xs, L.map pd, rfl, hS1, hx1, (fun d hd => by obtain ⟨p, _, rfl⟩ := List.mem_map.mp hd; exact good_pd p), by rw [List.length_map]; exact few, fun a M0 ha hM hall => ?_⟩
  have s2 := s1.trans (same_new ha (TSetO w a M0))
  have sa := same_new ha (TSetO w a M0)
  have isP : ∀ e ∈ M0, ∃ p ∈ L, e.2 = pd p := fun e he => by
    obtain ⟨p, hp, ep⟩ := List.mem_map.mp (hM e he).1
    exact ⟨p, hp, ep.symm⟩
  refine ⟨a, M0, rfl, upd_same, fun e he => ?_, ?_, fun ys ds p perm nd lt ris hys hp' => ?_⟩
  · obtain ⟨p, _, ep⟩ := isP e he
    refine ⟨by rw [ep]; exact good_pd p, (Stay.same sa).dp _ _ (by rw [ep]; exact ok_pd p) (hM e he).2⟩
  · refine fun d hd d' hd' => ?_
    obtain ⟨e, he, rfl⟩ := List.mem_map.mp hd
    obtain ⟨e', he', rfl⟩ := List.mem_map.mp hd'
    obtain ⟨p, _, ep⟩ := isP e he
    obtain ⟨p', _, ep'⟩ := isP e' he'
    rw [ep, ep']
    exact alike_pd p p'
  obtain ⟨R, rfl⟩ := all_pd (ds := ds) fun d hd => by
    obtain ⟨e, he, rfl⟩ := List.mem_map.mp (perm.mem_iff.mp hd)
    obtain ⟨p, _, ep⟩ := isP e he
    exact ⟨p, ep⟩
  have memR : ∀ p, p ∈ R ↔ p ∈ L := fun p => by
    rw [← pd_mem, perm.mem_iff]
    constructor
    · intro hm
      obtain ⟨e, he, ee⟩ := List.mem_map.mp hm
      obtain ⟨p', hp', ep⟩ := isP e he
      rw [← pd_inj (ep.symm.trans ee)]
      exact hp'
    · intro hm
      exact hall _ (pd_mem.mpr hm)
  have nR : R.Nodup := nodup_of_map nd
  have sp := same_new hp' (.lst ys)
  have s3 := s2.trans sp
  rw [List.length_map] at lt
  obtain ⟨q1, q2⟩ := q R nR ris memR
  have wR : ∀ p ∈ R, IsW p.1 ∧ IsW p.2 := fun p hp => ⟨(hL p ((memR p).mp hp)).w1, (hL p ((memR p).mp hp)).w2⟩
  have hPL : PL K (upd (upd H1 a (TSetO w a M0)) p (.lst ys)) p R := ⟨ys, SqL.of upd_same, (Stay.same sp).dpAll _ _ (okDs_pd R) hys⟩
  refine ⟨.ref p, rfl, .str z, rfl, ?_⟩
  dsimp only [tNil]
  refine ⟨p, z, R, rfl, hPL, nR, by omega, wR, fun H4 y s4 ty => ?_⟩
  have s14 := s3.trans s4
  have hPL4 := hPL.same s4
  refine ⟨y, rfl, rfl, !(whyO R z).isNone, by rw [told_isN ty], ?_⟩
  rcases e0 : whyO R z with _ | d
  · rw [e0] at ty
    obtain rfl : y = .non := ty
    refine iteF ?_
    refine ⟨.ref p, rfl, ?_⟩
    dsimp only [tNil]
    refine ⟨p, R, rfl, hPL4, by omega, fun HB D Lw hLw => ?_⟩
    have s1B := s14.trans hLw.sm
    show tSeq (tAsg (StX.tMakeR C (spInit K C) E0 tNil) (gName 6)) _ _ _ _
    refine asg_i (make0_ok fun HF vf S0 sF hS0 hl0 hvf => ?_)
    obtain rfl : S0 = [] := List.eq_nil_iff_forall_not_mem.mpr fun r hr => nomatch (hS0.mem r).mp hr
    have s1F := s1B.trans sF
    refine ⟨by show 0 ≤ sizeLine; decide, fun Dr hDr => ?_⟩
    have sr := same_new hDr (.lst [])
    have s1R := s1F.trans sr
    have hrR : (upd HF Dr (.lst [])) Dr = some (.lst []) := upd_same
    have hvR := hvf.same sr
    have diF := sF _ _ hLw.di
    have neD : D ≠ Dr := fun z => by rw [z, hDr] at diF; cases diF
    have keys : ∀ t : W, wd t ∈ (Lw.map kv).map (·.1) ↔ t ∈ R.map (·.2) := fun t => by
      constructor
      · intro hm
        obtain ⟨e, he, ee⟩ := List.mem_map.mp hm
        obtain ⟨e1, he1, rfl⟩ := List.mem_map.mp he
        obtain ⟨p', h1, h2⟩ := hLw.kn e1 he1
        have : e1.1 = t := wd_inj ee
        exact List.mem_map.mpr ⟨p', h1, h2.trans this⟩
      · intro hm
        obtain ⟨p', h1, h2⟩ := List.mem_map.mp hm
        obtain ⟨e1, he1, ee⟩ := List.mem_map.mp (hLw.al p' h1)
        exact List.mem_map.mpr ⟨kv e1, List.mem_map.mpr ⟨e1, he1, rfl⟩, by show wd e1.1 = wd t; rw [ee, ← h2]⟩
    have memL : ∀ t h, h ∈ lows R t ↔ (h, t) ∈ R := fun t h => by
      unfold lows
      rw [List.mem_map]
      constructor
      · rintro ⟨p', hp', rfl⟩
        obtain ⟨h1, h2⟩ := List.mem_filter.mp hp'
        rw [← of_decide_eq_true h2]
        exact h1
      · intro hm
        exact ⟨(h, t), List.mem_filter.mpr ⟨hm, decide_eq_true rfl⟩, rfl⟩
    have wL : ∀ t, ∀ h ∈ lows R t, IsW h := fun t h hh => (wR _ ((memL t h).mp hh)).1
    refine ⟨vf, rfl, x, rfl, ?_⟩
    show spWorlds K C [vf, x] _ _ (fun _ _ _ => False)
    refine ⟨vf, x, [], pool, rfl, hvR, (fun _ z => nomatch z), by decide, (fun _ z => nomatch z), dp_same s1R _ _ hp, hw, by omega, fun HV xw sV hxw lw hlw => ?_⟩
    rw [every_nil] at hxw
    have sW := same_new hlw (.lst xw)
    have s1W := s1R.trans (sV.trans sW)
    have hrW := (sV.trans sW) _ _ hrR
    have nlw : lw ≠ Dr := fun z => by rw [z, sV _ _ hrR] at hlw; cases hlw
    have hlW : (upd HV lw (.lst xw)) lw = some (.lst xw) := upd_same
    have hxW := dpAll_same sW _ _ hxw
    have sFW : Same HF (upd HV lw (.lst xw)) := sr.trans (sV.trans sW)
    generalize upd HV lw (.lst xw) = HW at sW s1W hrW hlW hxW sFW ⊢
    have mW' : Mut (HW Dr) := by rw [hrW]; exact True.intro
    have back : ∀ {H' : Hp}, Bar Dr HW H' → Same HF H' := fun {H'} b c u e => b c u (ne_of_none e hDr) (sFW _ _ e)
    have xwl : xw.length = (everyW pool).length := by rw [dpAll_len hxw, List.length_map]
    refine ⟨lw, rfl, ⟨_, SqL.of hlW⟩, for_list (xs := xw) (fun i σ H5 => (∃ y8 y9 y10 y11 y12, σ = [some (.ref l), some x, some (.str z), some (.ref p), some .non, some (.ref D), some vf, some (.ref Dr), y8, y9, y10, y11, y12]) ∧ Bar Dr HW H5 ∧ ∃ zs, H5 Dr = some (.lst zs) ∧ DpAll K H5 zs ((((everyW pool).take i).flatMap (rowsAt pool R z)).map rd))
      ⟨⟨_, _, _, _, _, rfl⟩, .same fun _ _ e => e, [], hrW, .nil⟩ (fun i σ H5 _ hI => SqL.of (hI.2.1 _ _ nlw hlW)) (fun i u8 σ H5 hu8 hI => ?_) (fun σ H5 hI => ?_)⟩
    · obtain ⟨⟨y8, y9, y10, y11, y12, rfl⟩, bar, zs, hd, hzs⟩ := hI
      obtain ⟨dd, hdd, hud⟩ := dpAll_at' hxW hu8
      obtain ⟨t, ht, rfl⟩ := map_at hdd
      have ht5 := (bar.stay mW').wd hud
      have tsub := mem_every.mp (List.mem_of_getElem? ht)
      have wt := isW_sl hw tsub
      have tl3 := Nat.le_trans tsub.length_le l3
      have sF5 := back bar
      have hp5 := dp_same (s1F.trans sF5) _ _ hp
      refine ⟨x, rfl, u8, rfl, ?_⟩
      dsimp only [tNil]
      refine ⟨x, u8, pool, t, rfl, hp5, ht5, by omega, fun H6 m s6 hm => ?_⟩
      have hd6 := s6 _ _ hd
      have hzs6 := (Stay.same s6).dpAll _ _ (okDs_rd _) hzs
      have ht6 := dp_same s6 _ _ ht5
      have bar6 := bar.trans (.same s6)
      have sF6 := back bar6
      have zl : zs.length ≤ 64 := by
        rw [dpAll_len hzs, List.length_map]
        exact made_len l3 i
      obtain ⟨c8, rfl, hc8⟩ := of_wd ht6
      have di6 := sF6 _ _ diF
      have ko6 : KeysOk K H6 (Lw.map kv) := hLw.ko.stay (.same (sF.trans sF6))
      have et : ((everyW pool).take (i + 1)).flatMap (rowsAt pool R z) = ((everyW pool).take i).flatMap (rowsAt pool R z) ++ rowsAt pool R z t := by
        rw [take_snoc ht, List.flatMap_append]
        simp
      refine ⟨.ref c8, rfl, .ref D, rfl, c8, D, Lw.map kv, wd t, rfl, rfl, di6, ko6, good_wd _, ht6, fun b hb => ⟨_, rfl, ?_⟩⟩
      rw [keys] at hb
      by_cases c : t ∈ R.map (·.2)
      · rw [hb.mpr c]
        refine iteF ?_
        -- the worlds below
        refine ⟨vf, rfl, .ref c8, rfl, ?_⟩
        show spWorlds K C [vf, .ref c8] _ _ (fun _ _ _ => False)
        refine ⟨vf, .ref c8, [], t, rfl, hvf.same sF6, (fun _ z => nomatch z), by decide, (fun _ z => nomatch z), ht6, wt, by omega, fun HI xi sI hxi li hli => ?_⟩
        rw [every_nil] at hxi
        have sJ := same_new hli (.lst xi)
        have s6J := sI.trans sJ
        have hdJ := s6J _ _ hd6
        have hzsJ := dpAll_same s6J _ _ hzs6
        have nli : li ≠ Dr := fun z => by rw [z, sI _ _ hd6] at hli; cases hli
        have hlJ : (upd HI li (.lst xi)) li = some (.lst xi) := upd_same
        have hxJ := dpAll_same sJ _ _ hxi
        have barJ := bar6.trans (Bar.same s6J)
        have htJ := dp_same s6J _ _ ht6
        have hmJ := s6J _ _ hm
        have nm : m ≠ Dr := fun z => by rw [z, hd6] at hm; cases hm
        generalize upd HI li (.lst xi) = HJ at sJ s6J hdJ hzsJ hlJ hxJ barJ htJ hmJ ⊢
        have mJ : Mut (HJ Dr) := by rw [hdJ]; exact True.intro
        have xil : xi.length = (everyW t).length := by rw [dpAll_len hxi, List.length_map]
        let mk : W → Rl := fun h => (headsA z h t (lows R t), deniedA z h t, h, minus pool t)
        let pre : List Rl := ((everyW pool).take i).flatMap (rowsAt pool R z)
        have er : rowsAt pool R z t = ((everyW t).filter fun h => !decide (h ∈ lows R t)).map mk := if_pos c
        refine ⟨li, rfl, ⟨_, SqL.of hlJ⟩, for_list (xs := xi) (fun j σ H7 => (∃ y10 y11 y12, σ = [some (.ref l), some x, some (.str z), some (.ref p), some .non, some (.ref D), some vf, some (.ref Dr), some (.ref c8), some (.ref m), y10, y11, y12]) ∧ Bar Dr HJ H7 ∧ ∃ zs, H7 Dr = some (.lst zs) ∧ DpAll K H7 zs ((pre ++ (((everyW t).take j).filter fun h => !decide (h ∈ lows R t)).map mk).map rd))
          ⟨⟨_, _, _, rfl⟩, .same fun _ _ e => e, zs, hdJ, by rw [List.take_zero, List.filter_nil, List.map_nil, List.append_nil]; exact hzsJ⟩ (fun j σ H7 _ hI => SqL.of (hI.2.1 _ _ nli hlJ)) (fun j u10 σ H7 hu10 hI => ?_) (fun σ H7 hI => ?_)⟩
        · obtain ⟨⟨y10, y11, y12, rfl⟩, bar7, zs7, hd7, hzs7⟩ := hI
          obtain ⟨dd, hdd, hud⟩ := dpAll_at' hxJ hu10
          obtain ⟨h, hh, rfl⟩ := map_at hdd
          have hh7 := (bar7.stay mJ).wd hud
          have hsub := mem_every.mp (List.mem_of_getElem? hh)
          have wh := isW_sl wt hsub
          have bar17 := barJ.trans bar7
          have sF7 := back bar17
          have ht7 := (bar7.stay mJ).wd htJ
          have di7 := sF7 _ _ diF
          have ko7 : KeysOk K H7 (Lw.map kv) := hLw.ko.stay (.same (sF.trans sF7))
          have zl7 : zs7.length ≤ 200 := by
            rw [dpAll_len hzs7, List.length_map, List.length_append, List.length_map]
            have h1 := made_len (R := R) (z := z) l3 i
            have h2 := List.length_filter_le (fun h => !decide (h ∈ lows R t)) ((everyW t).take j)
            have h3 := every_le3 tl3
            rw [List.length_take] at h2
            show (((everyW pool).take i).flatMap (rowsAt pool R z)).length + _ ≤ 200
            omega
          have ef : ((everyW t).take (j + 1)).filter (fun h => !decide (h ∈ lows R t)) = ((everyW t).take j).filter (fun h => !decide (h ∈ lows R t)) ++ (if (!decide (h ∈ lows R t)) = true then [h] else []) := filt_take hh
          refine ⟨u10, rfl, .ref D, rfl, .ref c8, rfl, c8, D, Lw.map kv, wd t, rfl, rfl, di7, ko7, good_wd _, ht7, (keys t).mpr c, fun e he ek => ?_⟩
          obtain ⟨e1, he1, rfl⟩ := List.mem_map.mp he
          have e1t : e1.1 = t := wd_inj ek
          obtain ⟨_, yl, hyB, hyl⟩ := hLw.ls e1 he1
          rw [e1t] at hyl
          have hyF := sF _ _ hyB
          have hy7 := sF7 _ _ hyF
          have hyl7 : DpAll K H7 yl ((lows R t).map wd) := dpAll_same (sF.trans sF7) _ _ hyl
          refine ⟨wd h, (lows R t).map wd, hh7, .lst (SqL.of hy7) hyl7, shaped_wd wh, shaped_wdsL (wL t), _, rfl, ?_⟩
          rw [any_wd]
          refine ite2 (fun e2 => ?_) (fun e2 => ?_)
          · refine ⟨u10, rfl, .ref c8, rfl, .ref D, rfl, .ref c8, rfl, c8, D, Lw.map kv, wd t, rfl, rfl, di7, ko7, good_wd _, ht7, (keys t).mpr c, fun e he ek => ?_⟩
            obtain ⟨e3, he3, rfl⟩ := List.mem_map.mp he
            have e3t : e3.1 = t := wd_inj ek
            obtain ⟨_, yl3, hyB3, hyl3⟩ := hLw.ls e3 he3
            rw [e3t] at hyl3
            refine ⟨.str z, rfl, ?_⟩
            dsimp only [tNil]
            refine ⟨u10, .ref c8, e3.2.2, z, h, t, lows R t, rfl, hh7, ht7, wh, wt, ⟨yl3, SqL.of (sF7 _ _ (sF _ _ hyB3)), dpAll_same (sF.trans sF7) _ _ hyl3⟩, fun H8 p3 u v s8 hT8 hu8' hv8 => ?_⟩
            refine ⟨p3, [u, v], rfl, hT8, rfl, u, [v], rfl, v, [], rfl, rfl, ?_⟩
            have hd8 := s8 _ _ hd7
            have m7 := (bar7 _ _ nm hmJ)
            refine ⟨.ref Dr, rfl, .inl ⟨rfl, zs7, SqL.of hd8⟩, u, rfl, v, rfl, u10, rfl, .ref m, rfl, by show 4 ≤ sizeLine; decide, fun T9 hT9 => ?_⟩
            have s9 := same_new hT9 (.tup [u, v, u10, .ref m])
            have s89 := s8.trans s9
            have hd9 := s9 _ _ hd8
            have m9 : Mut ((upd H8 T9 (.tup [u, v, u10, .ref m])) Dr) := by rw [hd9]; exact True.intro
            have st := Stay.put m9 (.lst (zs7 ++ [.ref T9]))
            have hr9 : Dp K (upd H8 T9 (.tup [u, v, u10, .ref m])) (.ref T9) (rd (mk h)) := to_rd (SqT.of upd_same) (dp_same s9 _ _ hu8') (dp_same s9 _ _ hv8) (dp_same s89 _ _ hh7) (to_wd (SqT.of (s89 _ _ m7)))
            refine ⟨Dr, zs7, .ref T9, rfl, rfl, hd9, small_line' (by omega), ⟨_, _, _, rfl⟩, bar7.trans ((Bar.same s89).trans .draw), _, upd_same, ?_⟩
            have em : ∀ X : List W, (pre ++ (X ++ [h]).map mk).map rd = (pre ++ X.map mk).map rd ++ [rd (mk h)] := fun X => by simp
            rw [ef, if_pos e2, em]
            exact dps_app12 (.cons (st.rd hr9) .nil) (((Stay.same s89).trans st).dpAll _ _ (okDs_rd _) hzs7)
          · refine ⟨⟨_, _, _, rfl⟩, bar7, zs7, hd7, ?_⟩
            rw [ef, if_neg e2, List.append_nil]
            exact hzs7
        · obtain ⟨⟨y10, y11, y12, rfl⟩, bar7, zs7, hd7, hzs7⟩ := hI
          rw [xil, List.take_length] at hzs7
          refine ⟨⟨_, _, _, _, _, rfl⟩, barJ.trans bar7, zs7, hd7, ?_⟩
          rw [et, er]
          exact hzs7
      · have hbf : b = false := by
          cases b with
          | false => rfl
          | true => exact absurd (hb.mp rfl) c
        rw [hbf]
        refine iteT ?_
        refine ⟨.ref Dr, rfl, .inl ⟨rfl, zs, SqL.of hd6⟩, by show 0 ≤ sizeLine; decide, fun e1 he1 => ⟨by show 0 ≤ sizeLine; decide, fun e2 he2 => ⟨.ref c8, rfl, .ref m, rfl, by show 4 ≤ sizeLine; decide, fun T9 hT9 => ?_⟩⟩⟩
        have a1 := same_new he1 (.tup [])
        have a2 := same_new he2 (.tup [])
        have a3 := same_new hT9 (.tup [.ref e1, .ref e2, .ref c8, .ref m])
        have a13 := a1.trans (a2.trans a3)
        have hd9 := a13 _ _ hd6
        have hr9 := to_rd (r := ([], [], t, minus pool t)) (SqT.of (K := K) (upd_same (H := upd (upd H6 e1 (.tup [])) e2 (.tup [])) (a := T9) (o := .tup [.ref e1, .ref e2, .ref c8, .ref m]))) (to_wd (ns := []) (SqT.of ((a2.trans a3) _ _ upd_same))) (to_wd (ns := []) (SqT.of (a3 _ _ upd_same))) (dp_same a13 _ _ ht6) (to_wd (SqT.of (a13 _ _ hm)))
        have m9 : Mut ((upd (upd (upd H6 e1 (.tup [])) e2 (.tup [])) T9 (.tup [.ref e1, .ref e2, .ref c8, .ref m])) Dr) := by rw [hd9]; exact True.intro
        have st := Stay.put m9 (.lst (zs ++ [.ref T9]))
        refine ⟨Dr, zs, .ref T9, rfl, rfl, hd9, small_line' (by omega), ⟨_, _, _, _, _, rfl⟩, bar6.trans ((Bar.same a13).trans .draw), _, upd_same, ?_⟩
        rw [et, show rowsAt pool R z t = [([], [], t, minus pool t)] from if_neg c, List.map_append]
        exact dps_app12 (.cons (st.rd hr9) .nil) (((Stay.same a13).trans st).dpAll _ _ (okDs_rd _) hzs6)
    · obtain ⟨⟨y8, y9, y10, y11, y12, rfl⟩, bar, zs, hd, hzs⟩ := hI
      rw [xwl, List.take_length] at hzs
      have hlen := made_len (R := R) (z := z) l3 (everyW pool).length
      rw [List.take_length] at hlen
      refine ⟨.ref Dr, rfl, Dr, zs, rfl, .inr (SqL.of hd), made_ok (C := C) (L := madeL pool R z) hzs (fun r hr => ?_) (by show (madeL pool R z).length < _; unfold madeL; omega) fun H' v S s hS hl hv => q1 e0 H' v S (s1F.trans ((back bar).trans s)) hS hl hv⟩
      obtain ⟨t, ht, hr⟩ := List.mem_flatMap.mp hr
      exact rows_isR hw (isW_sl hw (mem_every.mp ht)) r hr
  · rw [e0] at ty
    refine iteT ⟨y, rfl, err_made fun dx hdx => q2 d e0 H4 dx y s14 ty hdx⟩
end
end Rw
namespace Rw
open PySem PySem.Spec PyProof.Rows L2
/-! ### the law's own defs: numbers -/
theorem scLawAt : FnScope ["script", "k"] ["script", "k"] (defScope sLawAt) := ⟨rfl, rfl, rfl, by decide +kernel, rfl, by decide +kernel, by decide +kernel⟩
theorem scLawMixed : FnScope ["cell", "k", "number"] ["cell", "k"] (defScope sLawMixed) := ⟨rfl, rfl, rfl, by decide +kernel, rfl, by decide +kernel, by decide +kernel⟩
theorem scLawPurse : FnScope ["script", "at", "cell"] ["script", "at"] (defScope sLawPurse) := ⟨rfl, rfl, rfl, by decide +kernel, rfl, by decide +kernel, by decide +kernel⟩
theorem scLawDraw : FnScope ["purse", "out_of", "drawn"] ["purse", "out_of"] (defScope sLawDraw) := ⟨rfl, rfl, rfl, by decide +kernel, rfl, by decide +kernel, by decide +kernel⟩
section
variable {P : Program} {w : World} {K : PySem.W.Frag} {mg : Str → Option Value} {base : Heap} {f : Addr} {fd : FuncData} {k : Nat}
def spLawAt (K : PySem.W.Frag) : Sp := fun vs H Q _ => ∃ (a : Addr) (ns : List Int) (j : Nat), vs = [.ref a, .int j] ∧ SqL K H a (ns.map V.int) ∧ ns.length ≤ 63 ∧ ∀ r, Q (.int r) H
theorem ok_lawAt (F : Fun K "_law_at" "_law_at" sLawAt f fd) (T : Bl mg) : FnOk P w K mg base CX0 (k + 1) f fd ["script", "k"] (spLawAt K) := by
  refine F.ok scLawAt (fun vs H Q E h => ?_) (fun cdv A outer s H vs Q E hr h => ?_)
  · obtain ⟨a, ns, j, rfl, _⟩ := h
    rfl
  obtain ⟨a, ns, j, rfl, hS, hl, q⟩ := h
  refine ⟨_, pss_cons (ps_if (pt_cmpR op_lt (pv 1) (pe_callB call_len_seq (by rfl) T.len PySem.boot_len (pa_cons (pv 0) pa_nil)) (nomark _)) (pss_one (ps_ret (pe_ix ix_list (pv 0) (pv 1) (fun _ _ => rfl)))) pss_nil) (pss_one (ps_ret pe_int)), ?_⟩
  refine ⟨.int j, rfl, .ref a, rfl, a, _, rfl, .inl hS, j, _, rfl, rfl, _, rfl, ite2 (fun e => ?_) (fun _ => ?_)⟩
  · have hlt : j < (ns.map V.int).length := by
      have := of_decide_eq_true e
      omega
    have hlt' : j < ns.length := by rwa [List.length_map] at hlt
    refine ⟨.ref a, rfl, .int j, rfl, a, _, j, .int ns[j], rfl, rfl, hS, atI_nat (j := j) ?_, q _⟩
    rw [List.getElem?_map, List.getElem?_eq_getElem hlt']
    rfl
  · exact q _
def spLawMixed : Sp := fun vs H Q _ => ∃ c k : Int, vs = [.int c, .int k] ∧ 0 ≤ c ∧ c < 2147483647 ∧ 0 ≤ k ∧ k ≤ 2000000 ∧ ∀ r, 0 ≤ r → Q (.int r) H
theorem ok_lawMixed (F : Fun K "_law_mixed" "_law_mixed" sLawMixed f fd) (T : Bl mg) : FnOk P w K mg base CX0 (k + 1) f fd ["cell", "k"] spLawMixed := by
  refine F.ok scLawMixed (fun vs H Q E h => ?_) (fun cdv A outer s H vs Q E hr h => ?_)
  · obtain ⟨c, k, rfl, _⟩ := h
    rfl
  obtain ⟨c, k, rfl, c0, c1, k0, k1, q⟩ := h
  refine ⟨_, pss_cons (ps_set (i := 2) scLawMixed.nd rfl (.inl rfl) (pe_op op_mod (pe_callTy call_int1 (by rfl) T.int (by decide +kernel) (pa_cons (pe_op op_add (pe_op op_add (pe_op op_add (pe_op op_mul (pv 0) pe_int) (pe_op op_mul (pe_op op_mul pe_int (pv 1)) (pv 1))) (pv 1)) pe_int) pa_nil)) pe_int))
    (pss_cons (ps_set (i := 2) scLawMixed.nd rfl (.inl rfl) (pe_op op_mod (pe_callTy call_int1 (by rfl) T.int (by decide +kernel) (pa_cons (pe_op op_add (pe_op op_mul (pv 2) (pv 2)) pe_int) pa_nil)) pe_int))
    (pss_one (ps_ret (pe_op op_mod (pe_callTy call_int1 (by rfl) T.int (by decide +kernel) (pa_cons (pe_op op_mul (pv 2) pe_int) pa_nil)) pe_int)))), ?_⟩
  refine ⟨.int c, rfl, c, _, rfl, rfl, .inl ⟨by omega, by omega⟩, .int k, rfl, _, k, rfl, rfl, .inl ⟨by decide, by decide⟩, .int k, rfl, _, k, rfl, rfl, .inl ⟨by omega, by omega⟩, ?_⟩
  refine ⟨_, _, rfl, rfl, .int k, rfl, _, k, rfl, rfl, _, _, rfl, rfl, .inl ⟨_, rfl, _, _, rfl, rfl, by show (0 : Int) < 2147483647; decide, ?_⟩⟩
  refine ⟨_, rfl, _, rfl, _, _, rfl, rfl, .inl (b64 (Int.emod_nonneg _ (by decide)) (Int.emod_lt_of_pos _ (by decide))), _, _, rfl, rfl, .inl ⟨_, rfl, _, _, rfl, rfl, by show (0 : Int) < 2147483629; decide, ?_⟩⟩
  refine ⟨_, rfl, _, _, rfl, rfl, .inl (b64 (Int.emod_nonneg _ (by decide)) (Int.lt_trans (Int.emod_lt_of_pos _ (by decide)) (by decide))), .inl ⟨_, rfl, _, _, rfl, rfl, by show (0 : Int) < 2147483587; decide, q _ (Int.emod_nonneg _ (by decide))⟩⟩
def spLawPurse (K : PySem.W.Frag) : Sp := fun vs H Q _ => ∃ (a : Addr) (ns : List Int) (j : Nat), vs = [.ref a, .int j] ∧ SqL K H a (ns.map V.int) ∧ ns.length ≤ 63 ∧ j ≤ 100 ∧ ∀ H' p, Same H H' → H p = none → Pur H' p 100000 → Q (.ref p) H'
theorem ok_lawPurse {f1 : Addr} {fd1 : FuncData} (F : Fun K "_law_purse" "_law_purse" sLawPurse f fd) (T : Bl mg) (G1 : FnOk P w K mg base CX0 k f1 fd1 ["script", "k"] (spLawAt K)) (b1 : Binds K fd1 ["script", "k"] []) (k1 : PySem.W.keepIn K (.ref f1) = true) (m1 : mg "_law_at" = some (.ref f1)) :
    FnOk P w K mg base CX0 (k + 1) f fd ["script", "at"] (spLawPurse K) := by
  refine F.ok scLawPurse (fun vs H Q E h => ?_) (fun cdv A outer s H vs Q E hr h => ?_)
  · obtain ⟨a, ns, j, rfl, _⟩ := h
    rfl
  obtain ⟨a, ns, j, rfl, hS, hl, hj, q⟩ := h
  refine ⟨_, pss_cons (ps_set (i := 2) scLawPurse.nd rfl (.inl rfl) (pe_call G1 hr (by rfl) m1 k1 b1 .nil pass0 (pa_cons (pv 0) (pa_cons (pv 1) pa_nil))))
    (pss_one (ps_ret (pe_lst (pa_cons (pe_op op_mod (pe_callTy call_int1 (by rfl) T.int (by decide +kernel) (pa_cons (pe_callB (call_max2 rfl) (by rfl) T.max (by decide +kernel) (pa_cons (pe_op op_sub (pv 2) (pe_op op_pow pe_int pe_int)) (pa_cons pe_int pa_nil))) pa_nil)) (pe_op op_powB (pe_op op_pow pe_int pe_int) pe_int))
      (pa_cons (pe_op op_mod (pe_callTy call_int1 (by rfl) T.int (by decide +kernel) (pa_cons (pv 2) pa_nil)) pe_int) (pa_cons (pe_op op_mul pe_int (pv 1)) pa_nil)))))), ?_⟩
  refine ⟨.ref a, rfl, .int j, rfl, a, ns, j, rfl, hS, hl, fun c => ?_⟩
  refine ⟨.int c, rfl, _, _, rfl, rfl, ⟨by decide, by decide, by decide⟩, _, _, rfl, rfl, _, _, rfl, .inl ⟨_, rfl, _, _, rfl, rfl, ⟨by decide, by decide, by decide⟩, _, _, rfl, rfl, ⟨by decide, by decide +kernel⟩, _, _, rfl, rfl, by show (0 : Int) < (10 ^ Int.toNat 60) ^ Int.toNat 10; decide +kernel, ?_⟩⟩
  refine ⟨.int c, rfl, .inl ⟨_, rfl, _, _, rfl, rfl, by show (0 : Int) < 2147483647; decide, .int j, rfl, _, _, rfl, rfl, .inl ⟨by decide, by decide⟩, by show 3 ≤ sizeLine; decide, fun p hp => ?_⟩⟩
  refine q _ p (same_new hp _) hp ⟨_, _, _, upd_same, Int.emod_nonneg _ (by decide +kernel), Int.emod_nonneg _ (by decide), Int.emod_lt_of_pos _ (by decide), ?_, ?_⟩
  · show (0 : Int) ≤ 1000 * (j : Int)
    omega
  · show 1000 * (j : Int) ≤ 100000
    omega
def spLawDraw : Sp := fun vs H Q _ => ∃ (p : Addr) (n c : Int), vs = [.ref p, .int n] ∧ Pur H p c ∧ c ≤ 1000000 ∧ 1 ≤ n ∧ n ≤ 1000 ∧ ∀ r us, 0 ≤ r → r < n → Pur (upd H p (.lst us)) p (c + 1) → Q (.int r) (upd H p (.lst us))
theorem ok_lawDraw {f1 : Addr} {fd1 : FuncData} (F : Fun K "_law_draw" "_law_draw" sLawDraw f fd) (T : Bl mg) (G1 : FnOk P w K mg base CX0 k f1 fd1 ["cell", "k"] spLawMixed) (b1 : Binds K fd1 ["cell", "k"] []) (k1 : PySem.W.keepIn K (.ref f1) = true) (m1 : mg "_law_mixed" = some (.ref f1)) :
    FnOk P w K mg base CX0 (k + 1) f fd ["purse", "out_of"] spLawDraw := by
  refine F.ok scLawDraw (fun vs H Q E h => ?_) (fun cdv A outer s H vs Q E hr h => ?_)
  · obtain ⟨p, n, c, rfl, _⟩ := h
    rfl
  obtain ⟨p, n, c, rfl, ⟨a, b, e, hp, a0, b0, b1', e0, e1⟩, c1, n0, n1, q⟩ := h
  refine ⟨_, pss_cons (ps_if (pt_cmpR op_gt (pe_ix ix_list (pv 0) pe_int (fun _ _ => rfl)) pe_int (nomark _))
      (pss_cons (ps_set (i := 2) scLawDraw.nd rfl (.inl rfl) (pe_op op_mod (pe_callTy call_int1 (by rfl) T.int (by decide +kernel) (pa_cons (pe_ix ix_list (pv 0) pe_int (fun _ _ => rfl)) pa_nil)) (pv 1)))
      (pss_cons (ps_asg (pe_op op_fdiv (pe_ix ix_list (pv 0) pe_int (fun _ _ => rfl)) (pv 1)) (pg_sub (pv 0) pe_int set_list)) (pss_one (ps_ret (pv 2))))) pss_nil)
    (pss_cons (ps_asg (pe_op op_add (pe_ix ix_list (pv 0) pe_int (fun _ _ => rfl)) pe_int) (pg_sub (pv 0) pe_int set_list))
    (pss_one (ps_ret (pe_op op_mod (pe_callTy call_int1 (by rfl) T.int (by decide +kernel) (pa_cons (pe_call G1 hr (by rfl) m1 k1 b1 .nil pass0 (pa_cons (pe_ix ix_list (pv 0) pe_int (fun _ _ => rfl)) (pa_cons (pe_ix ix_list (pv 0) pe_int (fun _ _ => rfl)) pa_nil))) pa_nil)) (pv 1))))), ?_⟩
  have hS : SqL K H p [.int a, .int b, .int e] := SqL.of hp
  refine ⟨.ref p, rfl, p, _, 0, .int a, rfl, rfl, hS, atI_nat (j := 0) rfl, _, _, rfl, rfl, _, rfl, ite2 (fun g => ?_) (fun _ => ?_)⟩
  · refine ⟨.ref p, rfl, p, _, 0, .int a, rfl, rfl, hS, atI_nat (j := 0) rfl, .inl ⟨_, rfl, .int n, rfl, _, _, rfl, rfl, by show 0 < n; omega, ?_⟩⟩
    refine ⟨.ref p, rfl, p, _, 0, .int a, rfl, rfl, hS, atI_nat (j := 0) rfl, .int n, rfl, _, _, rfl, rfl, ⟨by omega, by omega⟩, .ref p, rfl, p, _, 0, 0, rfl, rfl, hp, rfl, ?_⟩
    refine ⟨.int (a % n), rfl, q _ _ (Int.emod_nonneg _ (by omega)) (Int.emod_lt_of_pos _ (by omega)) ⟨a / n, b, e, upd_same, Int.ediv_nonneg a0 (by omega), b0, b1', e0, by omega⟩⟩
  · refine ⟨.ref p, rfl, p, _, 2, .int e, rfl, rfl, hS, atI_nat (j := 2) rfl, _, _, rfl, rfl, .ref p, rfl, p, _, 2, 2, rfl, rfl, hp, rfl, ?_⟩
    have hS2 : SqL K (upd H p (.lst [.int a, .int b, .int (e + 1)])) p [.int a, .int b, .int (e + 1)] := SqL.of upd_same
    refine ⟨.ref p, rfl, p, _, 1, .int b, rfl, rfl, hS2, atI_nat (j := 1) rfl, .ref p, rfl, p, _, 2, .int (e + 1), rfl, rfl, hS2, atI_nat (j := 2) rfl, b, e + 1, rfl, b0, b1', by omega, by omega, fun r r0 => ?_⟩
    refine .inl ⟨r, rfl, .int n, rfl, _, _, rfl, rfl, by show 0 < n; omega, ?_⟩
    exact q _ _ (Int.emod_nonneg _ (by omega)) (Int.emod_lt_of_pos _ (by omega)) ⟨a, b, e + 1, upd_same, a0, b0, b1', by omega, by omega⟩
end
end Rw
namespace Rw
open PySem PySem.Spec PyProof.Rows L2
/-! from Rw15 -/
/-! ### all parts of a world -/
theorem scLawParts : FnScope ["pool", "found", "x", "part"] ["pool"] (defScope sLawParts) := ⟨rfl, rfl, rfl, by decide +kernel, rfl, by decide +kernel, by decide +kernel⟩
theorem scLawIn : FnScope ["one", "other", "x"] ["one", "other"] (defScope sLawIn) := ⟨rfl, rfl, rfl, by decide +kernel, rfl, by decide +kernel, by decide +kernel⟩
theorem scLawMeet : FnScope ["one", "other", "x"] ["one", "other"] (defScope sLawMeet) := ⟨rfl, rfl, rfl, by decide +kernel, rfl, by decide +kernel, by decide +kernel⟩
section
variable {P : Program} {w : World} {K : PySem.W.Frag} {mg : Str → Option Value} {base : Heap} {f : Addr} {fd : FuncData} {k : Nat}
/-! ### _law_parts -/
def spLawParts (K : PySem.W.Frag) : Sp := fun vs H Q _ => ∃ (x : V) (ns : W), vs = [x] ∧ Dp K H x (wd ns) ∧ ns.length ≤ 4 ∧ ∀ H' p S, Same H H' → H p = none → WL K H' p S → S.Perm (subs ns) → Rising (S.map wd) → Q (.ref p) H'
theorem ok_lawParts (F : Fun K "_law_parts" "_law_parts" sLawParts f fd) (T : Bl mg) : FnOk P w K mg base CX0 (k + 1) f fd ["pool"] (spLawParts K) := by
  refine F.ok scLawParts (fun vs H Q E h => ?_) (fun cdv A outer s H vs Q E hr h => ?_)
  · obtain ⟨x, ns, rfl, _⟩ := h
    rfl
  obtain ⟨x, ns, rfl, hx, few, q⟩ := h
  obtain ⟨a, rfl, hS⟩ := of_wd hx
  refine ⟨_, pss_cons (ps_set (i := 1) scLawParts.nd rfl (.inl rfl) (pe_lst (pa_cons (pe_tup pa_nil) pa_nil)))
    (pss_cons (ps_for PassesOwn.never rfl (pi_tup (pv 0)) (pg_name (i := 2) scLawParts.nd rfl (.inr rfl))
      (pss_one (ps_set (i := 1) scLawParts.nd rfl (.inl rfl) (pe_op op_cat (pv 1) (pe_lc (own := [("part", 3)]) (g := gName 3) (te := tOp (rCatA K) (tVar 3) (tTup (tCons (tVar 2) tNil))) (by rfl) scLawParts.nd (pi_list (pv 1)) (blkOk_by (N := ["pool", "found", "x", "part"]) (sc := defScope sLawParts) (by decide +kernel))
        (fun _ _ _ _ _ => pg_name (i := 3) scLawParts.nd rfl (Or.inl rfl)) (fun _ _ _ _ _ => pts_nil) (fun _ _ _ _ _ => pe_op op_catA (pv 3) (pe_tup (pa_cons (pv 2) pa_nil))))))))
    (pss_one (ps_ret (pe_callB (cr_sortL hr.units) (by rfl) T.sorted (by decide +kernel) (pa_cons (pv 1) pa_nil))))), ?_⟩
  refine ⟨by show 0 ≤ sizeLine; decide, fun t0 ht0 => ⟨by show 1 ≤ sizeLine; decide, fun l0 hl0 => ?_⟩⟩
  have s0 : Same H (upd (upd H t0 (.tup [])) l0 (.lst [.ref t0])) := (same_new ht0 _).trans (same_new hl0 _)
  refine ⟨.ref a, rfl, a, rfl, ⟨_, same_tup s0 hS⟩, for_tup (xs := ns.map V.str) (fun i σ H1 => ∃ l y2 y3, σ = [some (.ref a), some (.ref l), y2, y3] ∧ Same H H1 ∧ ∃ ys, H1 l = some (.lst ys) ∧ DpAll K H1 ys ((subs (ns.take i)).map wd))
    ⟨l0, none, none, rfl, s0, _, upd_same, ?_⟩ (fun i σ H1 _ hI => by obtain ⟨_, _, _, _, sm, _⟩ := hI; exact same_tup sm hS) (fun i x σ H1 hxi hI => ?_) (fun σ H1 hI => ?_)⟩
  · refine .cons (.tup (SqT.of (xs := []) ?_) .nil) .nil
    exact (same_new hl0 _) _ _ upd_same
  · obtain ⟨l, y2, y3, rfl, sm, ys, hl, hys⟩ := hI
    obtain ⟨z, hz, rfl⟩ := map_at hxi
    have il : i < ns.length := (List.getElem?_eq_some_iff.mp hz).1
    have yl : ys.length = (subs (ns.take i)).length := by rw [dpAll_len hys, List.length_map]
    have yl' : ys.length ≤ 16 := by
      rw [yl, subs_len, List.length_take]
      exact Nat.le_trans (Nat.pow_le_pow_right (by decide) (show min i ns.length ≤ 4 by omega)) (by decide)
    refine ⟨.ref l, rfl, .ref l, rfl, l, rfl, ⟨_, SqL.of hl⟩, fun D hD => ?_⟩
    refine lc_list (xs := ys) (fun j H2 => Same H1 H2 ∧ ∃ zs, H2 D = some (.lst zs) ∧ DpAll K H2 zs ((((subs (ns.take i)).take j).map fun t => t ++ [z]).map wd)) ⟨same_new hD _, [], upd_same, by rw [List.take_zero]; exact .nil⟩ (fun j H2 _ hI => SqL.of (hI.1 _ _ hl)) (fun j u H2 hu hI => ?_) (fun H2 hI => ?_)
    · obtain ⟨sm2, zs, hdz, hzs⟩ := hI
      obtain ⟨du, hdu, hud⟩ := dpAll_at' hys hu
      obtain ⟨t, ht, rfl⟩ := map_at hdu
      obtain ⟨c, rfl, hc⟩ := of_wd ((Stay.same sm2).wd hud)
      have jl : j < (subs (ns.take i)).length := (List.getElem?_eq_some_iff.mp ht).1
      have fin : ∀ v H4, Same H2 H4 → SqT K H4 v ((t ++ [z]).map V.str) → ∃ acc, H4 D = some (.lst acc) ∧ acc.length < sizeLine ∧ (Same H1 (upd H4 D (.lst (acc ++ [.ref v]))) ∧ ∃ zs, (upd H4 D (.lst (acc ++ [.ref v]))) D = some (.lst zs) ∧ DpAll K (upd H4 D (.lst (acc ++ [.ref v]))) zs ((((subs (ns.take i)).take (j + 1)).map fun t => t ++ [z]).map wd)) := by
        intro v H4 s4 hv
        have hd4 := s4 _ _ hdz
        have st : Stay H4 (upd H4 D (.lst (zs ++ [.ref v]))) := .put (by rw [hd4]; exact True.intro) _
        refine ⟨zs, hd4, small_line' ?_, same_put (sm2.trans s4) hD, _, upd_same, ?_⟩
        · rw [dpAll_len hzs, List.length_map, List.length_map, List.length_take]
          omega
        · rw [take_snoc ht, List.map_append, List.map_append]
          exact dpAll_app (((Stay.same s4).trans st).dpAll _ _ (okDs_wd _) hzs) (.cons (st.wd (to_wd hv)) .nil)
      refine ⟨rfl, .ref c, rfl, .str z, rfl, by show 1 ≤ sizeLine; decide, fun e he => ?_⟩
      have se := same_new he (.tup [.str z])
      refine ⟨c, e, t.map V.str, [.str z], rfl, rfl, same_tup se hc, SqT.of upd_same, ?_, fun e0 => ?_, fun _ e1 => (nomatch e1), fun _ _ p hp => ?_⟩
      · have tl : t.length ≤ 4 := Nat.le_trans (mem_subs.mp (List.mem_of_getElem? ht)).length_le (by rw [List.length_take]; omega)
        rw [List.length_map]
        exact small_line (by show t.length + 1 ≤ 10000; omega)
      · have t0 : t = [] := List.map_eq_nil_iff.mp e0
        subst t0
        exact fin e _ se (SqT.of upd_same)
      · refine fin p _ (se.trans (same_new hp _)) (SqT.of ?_)
        rw [List.map_append]
        exact upd_same
    · obtain ⟨sm2, zs, hdz, hzs⟩ := hI
      rw [yl, List.take_length] at hzs
      have hl2 := sm2 _ _ hl
      have zl : zs.length = (subs (ns.take i)).length := by rw [dpAll_len hzs, List.length_map, List.length_map]
      refine ⟨l, D, ys, zs, rfl, rfl, hl2, hdz, small_line (by omega), fun p hp => ?_⟩
      have sp := same_new hp (.lst (ys ++ zs))
      refine ⟨p, _, _, rfl, sm.trans (sm2.trans sp), _, upd_same, ?_⟩
      rw [take_snoc hz, subs_snoc, List.map_append]
      exact dpAll_app ((Stay.same (sm2.trans sp)).dpAll _ _ (okDs_wd _) hys) ((Stay.same sp).dpAll _ _ (okDs_wd _) hzs)
  · obtain ⟨l, y2, y3, rfl, sm, ys, hl, hys⟩ := hI
    rw [List.length_map, List.take_length] at hys
    refine ⟨.ref l, rfl, l, ys, (subs ns).map wd, rfl, SqL.of hl, hys, (fun d hd => by obtain ⟨t, _, rfl⟩ := List.mem_map.mp hd; exact good_wd t), ?_, fun zs es p perm ris hzs hp => ?_⟩
    · intro d hd d' hd'
      obtain ⟨t, _, rfl⟩ := List.mem_map.mp hd
      obtain ⟨t', _, rfl⟩ := List.mem_map.mp hd'
      exact alike_wd t t'
    · obtain ⟨S, rfl⟩ := all_wd (ds := es) fun d hd => by
        obtain ⟨t, _, rfl⟩ := List.mem_map.mp (perm.mem_iff.mp hd)
        exact ⟨t, rfl⟩
      have sp := same_new hp (.lst zs)
      exact q _ p S (sm.trans sp) (none_back sm hp) ⟨zs, upd_same, (Stay.same sp).dpAll _ _ (okDs_wd _) hzs⟩ (perm_of_map (fun _ _ e => wd_inj e) perm) ris
/-! ### _law_in, _law_meet -/
def spLawIn (K : PySem.W.Frag) : Sp := fun vs H Q _ => ∃ (x y : V) (ns ms : W), vs = [x, y] ∧ Dp K H x (wd ns) ∧ Dp K H y (wd ms) ∧ IsW ns ∧ ∀ H', Same H H' → Q (.bl (sub ns ms)) H'
theorem ok_lawIn (F : Fun K "_law_in" "_law_in" sLawIn f fd) : FnOk P w K mg base CX0 (k + 1) f fd ["one", "other"] (spLawIn K) := by
  refine F.ok scLawIn (fun vs H Q E h => ?_) (fun cdv A outer s H vs Q E hr h => ?_)
  · obtain ⟨x, y, ns, ms, rfl, _⟩ := h
    rfl
  obtain ⟨x, y, ns, ms, rfl, hx, hy, hw, q⟩ := h
  obtain ⟨a, rfl, hS⟩ := of_wd hx
  obtain ⟨b, rfl, hT⟩ := of_wd hy
  have few := hw.few
  refine ⟨_, pss_one (ps_ret (pe_cmpR (op_eqD hr.units) (pe_lc (own := [("x", 2)]) (g := gName 2) (by rfl) scLawIn.nd (pi_tup (pv 0)) (blkOk_by (N := ["one", "other", "x"]) (sc := defScope sLawIn) (by decide +kernel))
        (fun _ _ _ _ _ => pg_name (i := 2) scLawIn.nd rfl (Or.inl rfl)) (fun _ _ _ _ _ => pts_one (pt_cmpR (r := rIn K true) op_notIn_seq (pv 2) (pv 1) (by rfl))) (fun _ _ _ _ _ => pv 2)) (pe_lst pa_nil) (nomark _))), ?_⟩
  refine ⟨.ref a, rfl, a, rfl, ⟨_, hS⟩, fun D hD => ?_⟩
  have s1 : Same H (upd H D (.lst [])) := same_new hD _
  refine lc_tup (xs := ns.map V.str) (fun i H1 => Same H H1 ∧ H1 D = some (.lst (((ns.take i).filter fun z => !decide (z ∈ ms)).map V.str))) ⟨s1, upd_same⟩ (fun i H1 _ hI => same_tup hI.1 hS) (fun i x H1 hx hI => ?_) (fun H1 hI => ?_)
  · obtain ⟨sm, hd⟩ := hI
    obtain ⟨z, hz, rfl⟩ := map_at hx
    refine ⟨rfl, .str z, rfl, .ref b, rfl, b, ms.map V.str, rfl, .inr (same_tup sm hT), rfl, flat_strs ms, _, rfl, ?_⟩
    rw [inV_str]
    refine ite2 (fun e => ?_) (fun e => ?_)
    · refine ⟨.str z, rfl, _, hd, small_line' ?_, same_put sm hD, ?_⟩
      · rw [List.length_map]
        have := List.length_filter_le (fun z => !decide (z ∈ ms)) (ns.take i)
        rw [List.length_take] at this
        omega
      · rw [upd_same, filt_t hz (show (!decide (z ∈ ms)) = true by simpa using e), List.map_append]
        rfl
    · refine ⟨sm, ?_⟩
      rw [filt_f hz (show (!decide (z ∈ ms)) = false by simpa using e)]
      exact hd
  · obtain ⟨sm, hd⟩ := hI
    rw [List.length_map, List.take_length] at hd
    refine ⟨by show 0 ≤ sizeLine; decide, fun e he => ?_⟩
    have se := same_new he (.lst [])
    refine ⟨.list ((ns.filter fun z => !decide (z ∈ ms)).map .str), .list [], .lst (SqL.of (se _ _ hd)) (dps_strs _), .lst (SqL.of (xs := []) upd_same) .nil, shaped_strs fun x hx => hw.names x (List.mem_filter.mp hx).1, by decide, ?_⟩
    have ev : PyData.eqv (.list ((ns.filter fun z => !decide (z ∈ ms)).map .str)) (.list []) = sub ns ms := by
      rw [PyData.eqv]
      have z := eqv_strs (ns.filter fun z => !decide (z ∈ ms)) []
      rw [List.map_nil] at z
      rw [z]
      cases c : sub ns ms with
      | true =>
        refine decide_eq_true (List.filter_eq_nil_iff.mpr fun x hx => ?_)
        have := sub_mem c x hx
        simpa using this
      | false =>
        refine decide_eq_false fun z => ?_
        have y : sub ns ms = true := sub_of fun x hx => by
          have := List.filter_eq_nil_iff.mp z x hx
          simpa using this
        rw [c] at y
        exact nomatch y
    rw [ev]
    exact q _ (sm.trans se)
theorem ok_lawMeet (F : Fun K "_law_meet" "_law_meet" sLawMeet f fd) (T : Bl mg) : FnOk P w K mg base CX0 (k + 1) f fd ["one", "other"] (spCommon K) := by
  refine F.ok scLawMeet (fun vs H Q E h => ?_) (fun cdv A outer s H vs Q E hr h => ?_)
  · obtain ⟨x, y, ns, ms, rfl, _⟩ := h
    rfl
  obtain ⟨x, y, ns, ms, rfl, hx, hy, few, q⟩ := h
  obtain ⟨a, rfl, hS⟩ := of_wd hx
  obtain ⟨b, rfl, hT⟩ := of_wd hy
  refine ⟨_, pss_one (ps_ret (pe_callTy call_tuple_of (by rfl) T.tuple (by decide +kernel) (pa_cons (pe_lc (own := [("x", 2)]) (g := gName 2) (by rfl) scLawMeet.nd (pi_tup (pv 0)) (blkOk_by (N := ["one", "other", "x"]) (sc := defScope sLawMeet) (by decide +kernel))
        (fun _ _ _ _ _ => pg_name (i := 2) scLawMeet.nd rfl (Or.inl rfl)) (fun _ _ _ _ _ => pts_one (pt_cmpR (r := rIn K false) op_in_seq (pv 2) (pv 1) (by rfl))) (fun _ _ _ _ _ => pv 2)) pa_nil))), ?_⟩
  refine ⟨.ref a, rfl, a, rfl, ⟨_, hS⟩, fun D hD => ?_⟩
  have s1 : Same H (upd H D (.lst [])) := same_new hD _
  refine lc_tup (xs := ns.map V.str) (fun i H1 => Same H H1 ∧ H1 D = some (.lst (((ns.take i).filter fun z => decide (z ∈ ms)).map V.str))) ⟨s1, upd_same⟩ (fun i H1 _ hI => same_tup hI.1 hS) (fun i x H1 hx hI => ?_) (fun H1 hI => ?_)
  · obtain ⟨sm, hd⟩ := hI
    obtain ⟨z, hz, rfl⟩ := map_at hx
    refine ⟨rfl, .str z, rfl, .ref b, rfl, b, ms.map V.str, rfl, .inr (same_tup sm hT), rfl, flat_strs ms, _, rfl, ?_⟩
    rw [inV_str]
    refine ite2 (fun e => ?_) (fun e => ?_)
    · refine ⟨.str z, rfl, _, hd, small_line' ?_, same_put sm hD, ?_⟩
      · rw [List.length_map]
        have := List.length_filter_le (fun z => decide (z ∈ ms)) (ns.take i)
        rw [List.length_take] at this
        omega
      · rw [upd_same, filt_t hz (show decide (z ∈ ms) = true by simpa using e), List.map_append]
        rfl
    · refine ⟨sm, ?_⟩
      rw [filt_f hz (show decide (z ∈ ms) = false by simpa using e)]
      exact hd
  · obtain ⟨sm, hd⟩ := hI
    rw [List.length_map, List.take_length] at hd
    refine ⟨D, _, rfl, .inl ⟨SqL.of hd, fun l hl => ?_⟩⟩
    exact q _ l (sm.trans (same_new hl _)) upd_same
end
/-! from Rw16 -/
/-! ### the law tells what barred tells -/
theorem lt_pd {a b : W} (h : PySem.W.dataLt (wd b) (wd a) = true) : PySem.W.dataLt (pd (b, b)) (pd (a, a)) = true := by
  have ne : PyData.eqv (wd b) (wd a) = false := by
    cases e : PyData.eqv (wd b) (wd a) with
    | false => rfl
    | true =>
      have z := (PySem.W.toks_eqv _ _ (alike_wd b a)).1 e
      unfold PySem.W.dataLt at h
      rw [z, lex_irrefl] at h
      exact nomatch h
  have z := (PySem.W.toks_eqv _ _ (alike_wd b a)).2 ne
  unfold PySem.W.dataLt at h ⊢
  unfold pd
  simp only [PySem.W.keyToks, PySem.W.keyToksAll]
  exact (PySem.W.lex_pre [Sum.inl 1] _ _).trans ((z _ _).trans h)
/-- the worlds of the law's first tuple -/
def pool4 : W := [("a" : Str), ("ab" : Str), ("b" : Str), ("c" : Str)]
theorem isW_pool4 : IsW pool4 := ⟨by decide +kernel, by unfold UpX pool4; decide +kernel, by decide⟩
theorem any_pd {R : List Pr} {p : Pr} : ((R.map pd).any fun z => PyData.eqv z (pd p)) = decide (p ∈ R) := by
  rw [List.any_map]
  cases e : decide (p ∈ R) with
  | true =>
    refine List.any_eq_true.mpr ⟨p, of_decide_eq_true e, ?_⟩
    show PyData.eqv (pd p) (pd p) = true
    rw [eqv_pd]
    exact decide_eq_true rfl
  | false =>
    refine List.any_eq_false.mpr fun q hq => ?_
    show ¬ PyData.eqv (pd q) (pd p) = true
    rw [eqv_pd]
    intro c
    have := of_decide_eq_true c
    subst this
    exact absurd hq (of_decide_eq_false e)
theorem tops_mem {R : List Pr} {h : W} : h ∈ tops R ↔ (h, h) ∈ R := by
  unfold tops
  rw [List.mem_map]
  constructor
  · rintro ⟨⟨a, b⟩, hp, rfl⟩
    obtain ⟨h1, h2⟩ := List.mem_filter.mp hp
    have e : a = b := of_decide_eq_true h2
    subst e
    exact h1
  · intro hm
    exact ⟨(h, h), List.mem_filter.mpr ⟨hm, decide_eq_true rfl⟩, rfl⟩
theorem tops_nodup {R : List Pr} (n : R.Nodup) : (tops R).Nodup := by
  unfold tops
  have nf := n.sublist (List.filter_sublist (p := fun p : Pr => decide (p.1 = p.2)))
  refine List.Pairwise.map _ (R := fun p q : Pr => p.1 = p.2 ∧ q.1 = q.2 ∧ p ≠ q) (fun p q ⟨h1, h2, h3⟩ e => h3 ?_) ?_
  · exact Prod.ext (by rw [h1, h2]; exact e) e
  · refine List.Pairwise.imp_of_mem (fun {p q} hp hq ne => ?_) nf
    exact ⟨of_decide_eq_true (List.mem_filter.mp hp).2, of_decide_eq_true (List.mem_filter.mp hq).2, ne⟩
theorem tops_rising {R : List Pr} (r : Rising (R.map pd)) : Rising ((tops R).map wd) := by
  have r' : R.Pairwise fun p q => PySem.W.dataLe false id (pd p) (pd q) = true := List.pairwise_map.mp r
  unfold tops
  refine List.pairwise_map.mpr (List.pairwise_map.mpr ?_)
  refine List.Pairwise.imp_of_mem (fun {p q} hp hq le => ?_) (r'.sublist (List.filter_sublist (p := fun p : Pr => decide (p.1 = p.2))))
  obtain ⟨a, b⟩ := p
  obtain ⟨c, d⟩ := q
  have e1 : a = b := of_decide_eq_true (List.mem_filter.mp hp).2
  have e2 : c = d := of_decide_eq_true (List.mem_filter.mp hq).2
  subst e1
  subst e2
  show (!PySem.W.dataLt (wd c) (wd a)) = true
  have le' : (!PySem.W.dataLt (pd (c, c)) (pd (a, a))) = true := le
  cases h : PySem.W.dataLt (wd c) (wd a) with
  | false => rfl
  | true =>
    rw [lt_pd h] at le'
    exact nomatch le'
/-- a rising list of the parts, as far as they stand with themselves -/
theorem parts_tops {R : List Pr} {S : List W} (n : R.Nodup) (r : Rising (R.map pd)) (hR : ∀ p ∈ R, IsW p.2 ∧ sub p.2 pool4 = true) (perm : S.Perm (subs pool4)) (ris : Rising (S.map wd)) : S.filter (fun h => decide ((h, h) ∈ R)) = tops R := by
  refine worlds_one ?_ (tops_rising r) ((perm.nodup_iff.mpr (subs_nodup (upX_nodup isW_pool4.up))).sublist List.filter_sublist) (tops_nodup n) fun h => ?_
  · exact List.pairwise_map.mpr ((List.pairwise_map.mp ris).sublist List.filter_sublist)
  · rw [List.mem_filter, decide_eq_true_iff, tops_mem]
    exact ⟨fun z => z.2, fun z => ⟨perm.mem_iff.mpr ((parts_iff isW_pool4).mpr (hR _ z)), z⟩⟩
def up2 (R : List Pr) (z : Str) (p : Pr) : Option PyData := if z = anyS then none else (tops R).findSome? (upIn R p)
def me2 (R : List Pr) (z : Str) (p : Pr) : Option PyData := if z = singleS then (lows R p.2).findSome? (meIn R p) else none
theorem whyO_eq (R : List Pr) (z : Str) : whyO R z = or2 (or2 (totO R) (R.findSome? (up2 R z))) (R.findSome? (me2 R z)) := by
  unfold whyO
  have e1 : R.findSome? (up2 R z) = if z = anyS then none else upO R := by
    by_cases h : z = anyS
    · rw [if_pos h]
      exact first_none fun p _ => by unfold up2; rw [if_pos h]
    · rw [if_neg h]
      exact first_congr fun p _ => by unfold up2; rw [if_neg h]
  have e2 : R.findSome? (me2 R z) = if z = singleS then meO R else none := by
    by_cases h : z = singleS
    · rw [if_pos h]
      exact first_congr fun p _ => by unfold me2; rw [if_pos h]
    · rw [if_neg h]
      exact first_none fun p _ => by unfold me2; rw [if_neg h]
  rw [e1, e2]
/-- the law's innermost questions -/
def g2 (R : List Pr) (z : Str) (p : Pr) (h : W) : Option PyData := if z ≠ anyS ∧ (h, h) ∈ R ∧ sub p.2 h = true ∧ (p.1, h) ∉ R then some (.tuple [.str upwardS, pd p, wd h]) else none
def g3 (R : List Pr) (z : Str) (p q : Pr) : Option PyData := if z = singleS ∧ p.2 = q.2 ∧ (meet p.1 q.1, p.2) ∉ R then some (.tuple [.str meetS, pd p, pd q]) else none
theorem g2_all {R : List Pr} {S : List W} {z : Str} (n : R.Nodup) (r : Rising (R.map pd)) (hR : ∀ p ∈ R, IsW p.2 ∧ sub p.2 pool4 = true) (perm : S.Perm (subs pool4)) (ris : Rising (S.map wd)) (p : Pr) : S.findSome? (g2 R z p) = up2 R z p := by
  unfold up2
  by_cases h : z = anyS
  · rw [if_pos h]
    exact first_none fun q _ => by unfold g2; rw [if_neg fun c => c.1 h]
  · rw [if_neg h, ← parts_tops n r hR perm ris, first_filter]
    refine first_congr fun q _ => ?_
    unfold g2 upIn
    by_cases c : (q, q) ∈ R
    · rw [if_pos (decide_eq_true c)]
      by_cases c2 : sub p.2 q = true ∧ (p.1, q) ∉ R
      · rw [if_pos c2, if_pos ⟨h, c, c2⟩]
      · rw [if_neg c2, if_neg fun d => c2 d.2.2]
    · rw [if_neg fun d => c d.2.1, if_neg (by simpa using c)]
theorem g3_all {R : List Pr} {z : Str} (p : Pr) : R.findSome? (g3 R z p) = me2 R z p := by
  unfold me2
  by_cases h : z = singleS
  · rw [if_pos h]
    unfold lows
    rw [first_map, first_filter]
    refine first_congr fun q _ => ?_
    unfold g3 meIn
    by_cases c : q.2 = p.2
    · rw [if_pos (decide_eq_true c)]
      have eq : (q.1, p.2) = q := Prod.ext rfl c.symm
      rw [eq]
      by_cases c2 : (meet p.1 q.1, p.2) ∈ R
      · rw [if_pos c2, if_neg fun d => d.2.2 c2]
      · rw [if_neg c2, if_pos ⟨h, c.symm, c2⟩]
    · rw [if_neg fun d => c d.2.1.symm, if_neg (by simpa using c)]
  · rw [if_neg h]
    exact first_none fun q _ => by unfold g3; rw [if_neg fun c => h c.1]
/-! from Rw17 -/
theorem lay_pds : ∀ {R : List Pr}, (∀ p ∈ R, IsW p.1 ∧ IsW p.2) → PyData.canLayAll0 (R.map pd) = true
  | [], _ => by simp [PyData.canLayAll0]
  | p :: R, h => by
    rw [List.map_cons, PyData.canLayAll0, lay_pds fun y hy => h y (List.mem_cons_of_mem _ hy), lay_pd (h p List.mem_cons_self).1 (h p List.mem_cons_self).2]
    rfl
theorem depth_pds : ∀ R : List Pr, PyData.depthAll (R.map pd) ≤ 2
  | [] => by simp [PyData.depthAll]
  | p :: R => by
    have := depth_pds R
    rw [List.map_cons, PyData.depthAll, depth_pd]
    omega
theorem shaped_pds {R : List Pr} (h : ∀ p ∈ R, IsW p.1 ∧ IsW p.2) : SeqAt.shaped (.list (R.map pd)) = true := by
  unfold SeqAt.shaped
  have := depth_pds R
  rw [PyData.canLay0, lay_pds h, PyData.depth, decide_eq_true (by omega)]
  rfl
theorem PL.data {K : PySem.W.Frag} {H : Hp} {l : Addr} {R : List Pr} (h : PL K H l R) : Dp K H (.ref l) (.list (R.map pd)) := by
  obtain ⟨xs, h1, h2⟩ := h.ex
  exact .lst h1 h2
theorem scLawWhy : FnScope ["rows", "kind", "here", "there", "high", "one", "other"] ["rows", "kind"] (defScope sLawWhy) := ⟨rfl, rfl, rfl, by decide +kernel, rfl, by decide +kernel, by decide +kernel⟩
section
variable {P : Program} {w : World} {K : PySem.W.Frag} {mg : Str → Option Value} {base : Heap} {f : Addr} {fd : FuncData} {k : Nat}
def spLawWhy (K : PySem.W.Frag) : Sp := fun vs H Q _ => ∃ (l : Addr) (z : Str) (L : List Pr), vs = [.ref l, .str z] ∧ PL K H l L ∧ L.length < 76 ∧ (∀ p ∈ L, IsP pool4 p) ∧
  ∀ H' y R, Same H H' → R.Nodup → Rising (R.map pd) → (∀ p, p ∈ R ↔ p ∈ L) → Told K H' y (whyO R z) → Q y H'
theorem ok_lawWhy {f1 f2 f3 : Addr} {fd1 fd2 fd3 : FuncData} (F : Fun K "_law_why" "_law_why" sLawWhy f fd) (T : Bl mg) (G1 : FnOk P w K mg base CX0 k f1 fd1 ["pool"] (spLawParts K)) (b1 : Binds K fd1 ["pool"] []) (k1 : PySem.W.keepIn K (.ref f1) = true) (m1 : mg "_law_parts" = some (.ref f1))
    (G2 : FnOk P w K mg base CX0 k f2 fd2 ["one", "other"] (spLawIn K)) (b2 : Binds K fd2 ["one", "other"] []) (k2 : PySem.W.keepIn K (.ref f2) = true) (m2 : mg "_law_in" = some (.ref f2))
    (G3 : FnOk P w K mg base CX0 k f3 fd3 ["one", "other"] (spCommon K)) (b3 : Binds K fd3 ["one", "other"] []) (k3 : PySem.W.keepIn K (.ref f3) = true) (m3 : mg "_law_meet" = some (.ref f3)) :
    FnOk P w K mg base CX0 (k + 1) f fd ["rows", "kind"] (spLawWhy K) := by
  refine F.ok scLawWhy (fun vs H Q E h => ?_) (fun cdv A outer s H vs Q E hr h => ?_)
  · obtain ⟨l, z, L, rfl, _⟩ := h
    rfl
  obtain ⟨l, z, L, rfl, hl, few, hL, q⟩ := h
  refine ⟨_, pss_cons (ps_set (i := 0) scLawWhy.nd rfl (.inl rfl) (pe_callB (cr_sortT rfl hr.units) (by rfl) T.sorted (by decide +kernel) (pa_cons (pe_callTy (cr_setT rfl hr.units) (by rfl) T.set (by decide +kernel) (pa_cons (pv 0) pa_nil)) pa_nil)))
    (pss_cons (ps_for PassesOwn.never rfl (pi_list (pv 0)) (pg_tup (by rfl) (pgs_cons (pg_name (i := 2) scLawWhy.nd rfl (.inl rfl)) (pgs_cons (pg_name (i := 3) scLawWhy.nd rfl (.inl rfl)) pgs_nil)))
      (pss_one (ps_if (pt_cmpR (op_notInD (room65 hr)) (pe_tup (pa_cons (pv 3) (pa_cons (pv 3) pa_nil))) (pv 0) (by rfl)) (pss_one (ps_ret (pe_tup (pa_cons pe_str (pa_cons (pe_tup (pa_cons (pv 2) (pa_cons (pv 3) pa_nil))) pa_nil))))) pss_nil)))
    (pss_cons (ps_for PassesOwn.never rfl (pi_list (pv 0)) (pg_tup (by rfl) (pgs_cons (pg_name (i := 2) scLawWhy.nd rfl (.inl rfl)) (pgs_cons (pg_name (i := 3) scLawWhy.nd rfl (.inl rfl)) pgs_nil)))
      (pss_one (ps_for PassesOwn.never rfl (pi_list (pe_call G1 hr (by rfl) m1 k1 b1 .nil pass0 (pa_cons (pe_tup (pa_cons pe_str (pa_cons pe_str (pa_cons pe_str (pa_cons pe_str pa_nil))))) pa_nil))) (pg_name (i := 4) scLawWhy.nd rfl (.inl rfl))
        (pss_one (ps_if (PW.pt (pw_and (pt_cmpR op_ne (pv 1) pe_str (nomark _)) (pw_and (pt_cmpR (op_inD (room65 hr)) (pe_tup (pa_cons (pv 4) (pa_cons (pv 4) pa_nil))) (pv 0) (by rfl)) (pw_and (pt_val (pe_call G2 hr (by rfl) m2 k2 b2 .nil pass0 (pa_cons (pv 3) (pa_cons (pv 4) pa_nil)))) (pw_and1 (pt_cmpR (op_notInD (room65 hr)) (pe_tup (pa_cons (pv 2) (pa_cons (pv 4) pa_nil))) (pv 0) (by rfl)))))))
          (pss_one (ps_ret (pe_tup (pa_cons pe_str (pa_cons (pe_tup (pa_cons (pv 2) (pa_cons (pv 3) pa_nil))) (pa_cons (pv 4) pa_nil)))))) pss_nil)))))
    (pss_cons (ps_for PassesOwn.never rfl (pi_list (pv 0)) (pg_name (i := 5) scLawWhy.nd rfl (.inl rfl))
      (pss_one (ps_for PassesOwn.never rfl (pi_list (pv 0)) (pg_name (i := 6) scLawWhy.nd rfl (.inl rfl))
        (pss_one (ps_if (PW.pt (pw_and (pt_cmpR op_eq (pv 1) pe_str (nomark _)) (pw_and (pt_cmpR (op_eqD hr.units) (pe_ix ix_tup (pv 5) pe_int (fun _ _ => rfl)) (pe_ix ix_tup (pv 6) pe_int (fun _ _ => rfl)) (nomark _)) (pw_and1 (pt_cmpR (op_notInD (room65 hr)) (pe_tup (pa_cons (pe_call G3 hr (by rfl) m3 k3 b3 .nil pass0 (pa_cons (pe_ix ix_tup (pv 5) pe_int (fun _ _ => rfl)) (pa_cons (pe_ix ix_tup (pv 6) pe_int (fun _ _ => rfl)) pa_nil))) (pa_cons (pe_ix ix_tup (pv 5) pe_int (fun _ _ => rfl)) pa_nil))) (pv 0) (by rfl))))))
          (pss_one (ps_ret (pe_tup (pa_cons pe_str (pa_cons (pv 5) (pa_cons (pv 6) pa_nil)))))) pss_nil)))))
    (pss_one (ps_ret pe_non))))), ?_⟩
  -- rows = sorted(set(rows))
  obtain ⟨xs, hS, hx⟩ := hl.ex
  refine ⟨.ref l, rfl, l, xs, L.map pd, rfl, .inl hS, hx, (fun d hd => by obtain ⟨p, _, rfl⟩ := List.mem_map.mp hd; exact good_pd p), by rw [List.length_map]; exact few, fun a M ha hM hall => ?_⟩
  have sa := same_new ha (TSetO w a M)
  have isP : ∀ e ∈ M, ∃ p ∈ L, e.2 = pd p := fun e he => by
    obtain ⟨p, hp, ep⟩ := List.mem_map.mp (hM e he).1
    exact ⟨p, hp, ep.symm⟩
  refine ⟨a, M, rfl, upd_same, fun e he => ?_, ?_, fun ys ds l' perm nd lt ris hys hp' => ?_⟩
  · obtain ⟨p, _, ep⟩ := isP e he
    refine ⟨by rw [ep]; exact good_pd p, (Stay.same sa).dp _ _ (by rw [ep]; exact ok_pd p) (hM e he).2⟩
  · refine fun d hd d' hd' => ?_
    obtain ⟨e, he, rfl⟩ := List.mem_map.mp hd
    obtain ⟨e', he', rfl⟩ := List.mem_map.mp hd'
    obtain ⟨p, _, ep⟩ := isP e he
    obtain ⟨p', _, ep'⟩ := isP e' he'
    rw [ep, ep']
    exact alike_pd p p'
  obtain ⟨R, rfl⟩ := all_pd (ds := ds) fun d hd => by
    obtain ⟨e, he, rfl⟩ := List.mem_map.mp (perm.mem_iff.mp hd)
    obtain ⟨p, _, ep⟩ := isP e he
    exact ⟨p, ep⟩
  have memR : ∀ p, p ∈ R ↔ p ∈ L := fun p => by
    rw [← pd_mem, perm.mem_iff]
    constructor
    · intro hm
      obtain ⟨e, he, ee⟩ := List.mem_map.mp hm
      obtain ⟨p', hp', ep⟩ := isP e he
      rw [← pd_inj (ep.symm.trans ee)]
      exact hp'
    · intro hm
      exact hall _ (pd_mem.mpr hm)
  have nR : R.Nodup := nodup_of_map nd
  have sp := same_new hp' (.lst ys)
  let HB : Hp := upd (upd H a (TSetO w a M)) l' (.lst ys)
  have sB : Same H HB := sa.trans sp
  have hB : PL K HB l' R := ⟨ys, SqL.of upd_same, (Stay.same sp).dpAll _ _ (okDs_pd R) hys⟩
  clear hM hall isP perm nd
  have hR : ∀ p ∈ R, IsP pool4 p := fun p hp => hL p ((memR p).mp hp)
  have hRw : ∀ p ∈ R, IsW p.1 ∧ IsW p.2 := fun p hp => ⟨(hR p hp).w1, (hR p hp).w2⟩
  have hR4 : ∀ p ∈ R, IsW p.2 ∧ sub p.2 pool4 = true := fun p hp => ⟨(hR p hp).w2, (hR p hp).up⟩
  have shR := shaped_pds hRw
  have q' : ∀ H' y o, Same HB H' → whyO R z = o → Told K H' y o → Q y H' := fun H' y o sm e t => q H' y R (sB.trans sm) nR ris memR (by rw [e]; exact t)
  obtain ⟨xs, hSB, hxB⟩ := hB.ex
  have xl : xs.length = R.length := by rw [dpAll_len hxB, List.length_map]
  -- the first loop
  refine ⟨.ref l', rfl, l', rfl, ⟨_, hSB⟩, for_list (xs := xs) (fun i σ H1 => (∃ y2 y3, σ = [some (.ref l'), some (.str z), y2, y3, none, none, none]) ∧ Same HB H1 ∧ ∀ p ∈ R.take i, totIn R p = none) ⟨⟨none, none, rfl⟩, fun _ _ e => e, by simp⟩ (fun i σ H1 _ hI => hI.2.1.seq hSB) (fun i x σ H1 hxi hI => ?_) (fun σ H1 hI => ?_)⟩
  · obtain ⟨⟨y2, y3, rfl⟩, sm, h0⟩ := hI
    obtain ⟨dd, hdd, hxd⟩ := dpAll_at' hxB hxi
    obtain ⟨p, hp, rfl⟩ := map_at hdd
    obtain ⟨c, y, v, rfl, hP, hy, hv⟩ := of_pd ((Stay.same sm).pd hxd)
    have ip := hR p (List.mem_of_getElem? hp)
    refine ⟨c, [y, v], rfl, hP, rfl, y, [v], rfl, v, [], rfl, rfl, ?_⟩
    refine ⟨v, rfl, v, rfl, by show 2 ≤ sizeLine; decide, fun t ht => ?_⟩
    have st := same_new ht (.tup [v, v])
    have dt : Dp K (upd H1 t (.tup [v, v])) (.ref t) (pd (p.2, p.2)) := to_pd (SqT.of upd_same) ((Stay.same st).wd hv) ((Stay.same st).wd hv)
    refine ⟨.ref l', rfl, pd (p.2, p.2), R.map pd, dt, (hB.same (sm.trans st)).data, shaped_pd ip.w2 ip.w2, shR, _, rfl, ?_⟩
    rw [any_pd]
    refine ite2 (fun e => ?_) (fun e => ?_)
    · have nb : (p.2, p.2) ∉ R := by simpa using e
      refine ⟨y, rfl, v, rfl, by show 2 ≤ sizeLine; decide, fun u hu => ⟨by show 2 ≤ sizeLine; decide, fun x hx => ?_⟩⟩
      have su := same_new hu (.tup [y, v])
      have sv := same_new hx (.tup [.str totalS, .ref u])
      have e0 : totIn R p = some (.tuple [.str totalS, pd p]) := by
        unfold totIn
        rw [if_neg nb]
      have et : totO R = some (.tuple [.str totalS, pd p]) := first_at h0 hp e0
      refine q' _ _ _ (sm.trans (st.trans (su.trans sv))) (by rw [whyO_eq, et]; try rfl) ?_
      exact ⟨⟨x, rfl⟩, by simp [okD, okDs, ok_pd], .tup (SqT.of upd_same) (.cons (.str _) (.cons (mk_pd (.same (st.trans (su.trans sv))) (sv _ _ upd_same) hy hv) .nil))⟩
    · have nb : (p.2, p.2) ∈ R := by simpa using e
      refine ⟨⟨_, _, rfl⟩, sm.trans st, none_snoc h0 hp ?_⟩
      unfold totIn
      rw [if_pos nb]
  obtain ⟨⟨y2, y3, rfl⟩, smA, h0⟩ := hI
  rw [xl, List.take_length] at h0
  have e1 : totO R = none := first_none h0
  clear h0
  -- the second loop
  refine ⟨.ref l', rfl, l', rfl, ⟨_, smA.seq hSB⟩, for_list (xs := xs) (fun i σ H1 => (∃ y2 y3 y4, σ = [some (.ref l'), some (.str z), y2, y3, y4, none, none]) ∧ Same HB H1 ∧ ∀ p ∈ R.take i, up2 R z p = none) ⟨⟨_, _, none, rfl⟩, smA, by simp⟩ (fun i σ H1 _ hI => hI.2.1.seq hSB) (fun i x σ H1 hxi hI => ?_) (fun σ H1 hI => ?_)⟩
  · obtain ⟨⟨y2, y3, y4, rfl⟩, sm, h0⟩ := hI
    obtain ⟨dd, hdd, hxd⟩ := dpAll_at' hxB hxi
    obtain ⟨p, hp, rfl⟩ := map_at hdd
    obtain ⟨c, y, v, rfl, hP, hy, hv⟩ := of_pd hxd
    have ip := hR p (List.mem_of_getElem? hp)
    refine ⟨c, [y, v], rfl, (Stay.same sm).seq hP, rfl, y, [v], rfl, v, [], rfl, rfl, ?_⟩
    refine ⟨by show 4 ≤ sizeLine; decide, fun t ht => ?_⟩
    have st := sm.trans (same_new ht (.tup [.str "a", .str "ab", .str "b", .str "c"]))
    refine ⟨.ref t, pool4, rfl, to_wd (SqT.of upd_same), by decide, fun H2 l2 S s2 _ hW perm2 ris2 => ?_⟩
    have sm2 := st.trans s2
    obtain ⟨ys, hSS0, hys⟩ := hW
    have hSS : SqL K H2 l2 ys := SqL.of hSS0
    have yl : ys.length = S.length := by rw [dpAll_len hys, List.length_map]
    have key := g2_all (z := z) nR ris hR4 perm2 ris2 p
    refine ⟨l2, rfl, ⟨_, hSS⟩, for_list (xs := ys) (fun j σ H3 => (∃ y4, σ = [some (.ref l'), some (.str z), some y, some v, y4, none, none]) ∧ Same H2 H3 ∧ ∀ h ∈ S.take j, g2 R z p h = none) ⟨⟨_, rfl⟩, fun _ _ e => e, by simp⟩ (fun j σ H3 _ hI => hI.2.1.seq hSS) (fun j u σ H3 hu hI => ?_) (fun σ H3 hI => ?_)⟩
    · obtain ⟨⟨y4, rfl⟩, sm3, g0⟩ := hI
      obtain ⟨du, hdu, hud⟩ := dpAll_at' hys hu
      obtain ⟨h, hh, rfl⟩ := map_at hdu
      have ih : IsW h := ((parts_iff isW_pool4).mp (perm2.mem_iff.mp (List.mem_of_getElem? hh))).1
      have sm4 := sm2.trans sm3
      refine ⟨.str z, rfl, rfl, _, rfl, ite2 (fun c1 => ?_) (fun c1 => ?_)⟩
      · have nz : z ≠ anyS := fun e => by
          rw [e] at c1
          exact absurd c1 (by decide)
        refine ⟨u, rfl, u, rfl, by show 2 ≤ sizeLine; decide, fun t1 ht1 => ?_⟩
        have st1 := same_new ht1 (.tup [u, u])
        have hu1 := (Stay.same (sm3.trans st1)).wd hud
        refine ⟨.ref l', rfl, pd (h, h), R.map pd, to_pd (SqT.of upd_same) hu1 hu1, (hB.same (sm4.trans st1)).data, shaped_pd ih ih, shR, _, rfl, ?_⟩
        rw [any_pd]
        refine ite2 (fun c2 => ?_) (fun c2 => ?_)
        · have m2 : (h, h) ∈ R := by simpa using c2
          refine ⟨v, rfl, u, rfl, v, u, p.2, h, rfl, (Stay.same (sm4.trans st1)).wd hv, hu1, ip.w2, fun H4 s4 => ⟨_, rfl, ite2 (fun c3 => ?_) (fun c3 => ?_)⟩⟩
          · have sm5 := sm4.trans (st1.trans s4)
            have hu5 := (Stay.same (sm3.trans (st1.trans s4))).wd hud
            refine ⟨y, rfl, u, rfl, by show 2 ≤ sizeLine; decide, fun t2 ht2 => ?_⟩
            have st2 := same_new ht2 (.tup [y, u])
            have sm6 := sm5.trans st2
            have hu6 := (Stay.same st2).wd hu5
            refine ⟨.ref l', rfl, pd (p.1, h), R.map pd, to_pd (SqT.of upd_same) ((Stay.same sm6).wd hy) hu6, (hB.same sm6).data, shaped_pd ip.w1 ih, shR, _, rfl, ?_⟩
            rw [any_pd]
            refine ite2 (fun c4 => ?_) (fun c4 => ?_)
            · have m4 : (p.1, h) ∉ R := by simpa using c4
              refine ⟨y, rfl, v, rfl, by show 2 ≤ sizeLine; decide, fun d1 hd1 => ⟨u, rfl, by show 3 ≤ sizeLine; decide, fun d2 hd2 => ?_⟩⟩
              have su := same_new hd1 (.tup [y, v])
              have sv := same_new hd2 (.tup [.str upwardS, .ref d1, u])
              have all := sm6.trans (su.trans sv)
              have e0 : g2 R z p h = some (.tuple [.str upwardS, pd p, wd h]) := by
                unfold g2
                rw [if_pos ⟨nz, m2, c3, m4⟩]
              have e2 : R.findSome? (up2 R z) = some (.tuple [.str upwardS, pd p, wd h]) := first_at h0 hp (key.symm.trans (first_at g0 hh e0))
              refine q' _ _ _ all (by rw [whyO_eq, e1, e2]; try rfl) ?_
              exact ⟨⟨d2, rfl⟩, by simp [okD, okDs, ok_pd, ok_wd], .tup (SqT.of upd_same) (.cons (.str _) (.cons (mk_pd (.same all) (sv _ _ upd_same) hy hv) (.cons ((Stay.same (su.trans sv)).wd hu6) .nil)))⟩
            · have m4 : (p.1, h) ∈ R := by simpa using c4
              exact ⟨⟨_, rfl⟩, sm3.trans (st1.trans (s4.trans st2)), none_snoc g0 hh (by unfold g2; rw [if_neg fun d => d.2.2.2 m4])⟩
          · exact ⟨⟨_, rfl⟩, sm3.trans (st1.trans s4), none_snoc g0 hh (by unfold g2; rw [if_neg fun d => c3 d.2.2.1])⟩
        · have m2 : (h, h) ∉ R := by simpa using c2
          exact ⟨⟨_, rfl⟩, sm3.trans st1, none_snoc g0 hh (by unfold g2; rw [if_neg fun d => m2 d.2.1])⟩
      · have nz : z = anyS := by
          have c' : decide (V.str z = V.str ("any" : Str)) = true := by simpa using c1
          exact V.str.inj (of_decide_eq_true c')
        exact ⟨⟨_, rfl⟩, sm3, none_snoc g0 hh (by unfold g2; rw [if_neg fun d => d.1 nz])⟩
    · obtain ⟨⟨y4, rfl⟩, sm3, g0⟩ := hI
      rw [yl, List.take_length] at g0
      exact ⟨⟨_, _, _, rfl⟩, sm2.trans sm3, none_snoc h0 hp (key.symm.trans (first_none g0))⟩
  obtain ⟨⟨y2, y3, y4, rfl⟩, smB, h0⟩ := hI
  rw [xl, List.take_length] at h0
  have e2 : R.findSome? (up2 R z) = none := first_none h0
  clear h0
  -- the third loop
  refine ⟨.ref l', rfl, l', rfl, ⟨_, smB.seq hSB⟩, for_list (xs := xs) (fun i σ H1 => (∃ y5 y6, σ = [some (.ref l'), some (.str z), y2, y3, y4, y5, y6]) ∧ Same HB H1 ∧ ∀ p ∈ R.take i, me2 R z p = none) ⟨⟨none, none, rfl⟩, smB, by simp⟩ (fun i σ H1 _ hI => hI.2.1.seq hSB) (fun i x σ H1 hxi hI => ?_) (fun σ H1 hI => ?_)⟩
  · obtain ⟨⟨y5, y6, rfl⟩, sm, h0⟩ := hI
    obtain ⟨dd, hdd, hxd⟩ := dpAll_at' hxB hxi
    obtain ⟨p, hp, rfl⟩ := map_at hdd
    obtain ⟨c, y, v, rfl, hP, hy, hv⟩ := of_pd hxd
    have ip := hR p (List.mem_of_getElem? hp)
    have key := g3_all (R := R) (z := z) p
    refine ⟨.ref l', rfl, l', rfl, ⟨_, sm.seq hSB⟩, for_list (xs := xs) (fun j σ H3 => (∃ y6, σ = [some (.ref l'), some (.str z), y2, y3, y4, some (.ref c), y6]) ∧ Same HB H3 ∧ ∀ h ∈ R.take j, g3 R z p h = none) ⟨⟨_, rfl⟩, sm, by simp⟩ (fun j σ H3 _ hI => hI.2.1.seq hSB) (fun j u σ H3 hu hI => ?_) (fun σ H3 hI => ?_)⟩
    · obtain ⟨⟨y6, rfl⟩, sm3, g0⟩ := hI
      obtain ⟨du, hdu, hud⟩ := dpAll_at' hxB hu
      obtain ⟨o, ho, rfl⟩ := map_at hdu
      have io := hR o (List.mem_of_getElem? ho)
      obtain ⟨c2, y', v', rfl, hP', hy', hv'⟩ := of_pd hud
      have t3 := Stay.same sm3
      refine ⟨.str z, rfl, rfl, _, rfl, ite2 (fun c1 => ?_) (fun c1 => ?_)⟩
      · have ez : z = singleS := V.str.inj (of_decide_eq_true c1)
        refine ⟨.ref c, rfl, c, [y, v], 1, v, rfl, rfl, t3.seq hP, atI_nat (j := 1) rfl, .ref c2, rfl, c2, [y', v'], 1, v', rfl, rfl, t3.seq hP', atI_nat (j := 1) rfl, wd p.2, wd o.2, t3.wd hv, t3.wd hv', shaped_wd ip.w2, shaped_wd io.w2, _, rfl, ?_⟩
        rw [eqv_wd]
        refine ite2 (fun c5 => ?_) (fun c5 => ?_)
        · have m5 : p.2 = o.2 := of_decide_eq_true c5
          have w1l := ip.w1.few
          refine ⟨.ref c, rfl, c, [y, v], 0, y, rfl, rfl, t3.seq hP, atI_nat (j := 0) rfl, .ref c2, rfl, c2, [y', v'], 0, y', rfl, rfl, t3.seq hP', atI_nat (j := 0) rfl, y, y', p.1, o.1, rfl, t3.wd hy, t3.wd hy', by omega, fun H4 m s4 hm => ?_⟩
          have t4 := t3.trans (.same s4)
          refine ⟨.ref c, rfl, c, [y, v], 1, v, rfl, rfl, t4.seq hP, atI_nat (j := 1) rfl, by show 2 ≤ sizeLine; decide, fun t2 ht2 => ?_⟩
          have st2 := same_new ht2 (.tup [.ref m, v])
          have sm6 := sm3.trans (s4.trans st2)
          have wm : IsW (meet p.1 o.1) := ⟨fun x hx => ip.w1.names x (List.mem_filter.mp hx).1, ip.w1.up.sublist List.filter_sublist, Nat.le_trans (List.length_filter_le _ _) ip.w1.few⟩
          refine ⟨.ref l', rfl, pd (meet p.1 o.1, p.2), R.map pd, to_pd (SqT.of upd_same) (to_wd (SqT.of (st2 _ _ hm))) ((Stay.same sm6).wd hv), (hB.same sm6).data, shaped_pd wm ip.w2, shR, _, rfl, ?_⟩
          rw [any_pd]
          refine ite2 (fun c4 => ?_) (fun c4 => ?_)
          · have m4 : (meet p.1 o.1, p.2) ∉ R := by simpa using c4
            refine ⟨.ref c, rfl, .ref c2, rfl, by show 3 ≤ sizeLine; decide, fun d2 hd2 => ?_⟩
            have sv := same_new hd2 (.tup [.str meetS, .ref c, .ref c2])
            have all := sm6.trans sv
            have e0 : g3 R z p o = some (.tuple [.str meetS, pd p, pd o]) := by
              unfold g3
              rw [if_pos ⟨ez, m5, m4⟩]
            have e3 : R.findSome? (me2 R z) = some (.tuple [.str meetS, pd p, pd o]) := first_at h0 hp (key.symm.trans (first_at g0 ho e0))
            refine q' _ _ _ all (by rw [whyO_eq, e1, e2, e3]; try rfl) ?_
            exact ⟨⟨d2, rfl⟩, by simp [okD, okDs, ok_pd], .tup (SqT.of upd_same) (.cons (.str _) (.cons ((Stay.same all).pd hxd) (.cons ((Stay.same all).pd hud) .nil)))⟩
          · have m4 : (meet p.1 o.1, p.2) ∈ R := by simpa using c4
            exact ⟨⟨_, rfl⟩, sm6, none_snoc g0 ho (by unfold g3; rw [if_neg fun d => d.2.2 m4])⟩
        · have m5 : p.2 ≠ o.2 := fun e => c5 (decide_eq_true e)
          exact ⟨⟨_, rfl⟩, sm3, none_snoc g0 ho (by unfold g3; rw [if_neg fun d => m5 d.2.1])⟩
      · have ez : z ≠ singleS := fun e => c1 (by rw [e]; exact decide_eq_true rfl)
        exact ⟨⟨_, rfl⟩, sm3, none_snoc g0 ho (by unfold g3; rw [if_neg fun d => ez d.1])⟩
    · obtain ⟨⟨y6, rfl⟩, sm3, g0⟩ := hI
      rw [xl, List.take_length] at g0
      exact ⟨⟨_, _, rfl⟩, sm3, none_snoc h0 hp (key.symm.trans (first_none g0))⟩
  obtain ⟨⟨y5, y6, rfl⟩, smC, h0⟩ := hI
  rw [xl, List.take_length] at h0
  have e3 : R.findSome? (me2 R z) = none := first_none h0
  exact q' H1 _ none smC (by rw [whyO_eq, e1, e2, e3]; try rfl) rfl
end
/-! from Rw18 -/
/-! ### how many pairs there are -/
/-- a pool of the law -/
structure IsPool (pool : W) : Prop where
  w : IsW pool
  few : pool.length ≤ 3
  le : sub pool pool4 = true
theorem IsP.to4 {pool : W} {p : Pr} (h : IsP pool p) (hp : IsPool pool) : IsP pool4 p := ⟨h.w1, h.w2, h.le, sub_trans h.up hp.le⟩
theorem pairs_few {pool : W} (hp : IsPool pool) {L : List Pr} (n : L.Nodup) (h : ∀ p ∈ L, IsP pool p) : L.length ≤ 62 := by
  have inb : ∀ p ∈ L, p ∈ (subs pool).flatMap fun a => (subs pool).map fun b => (a, b) := fun p hp' => by
    have ip := h p hp'
    exact prod_mem (a := p.1) (b := p.2) ((parts_iff hp.w).mpr ⟨ip.w1, sub_trans ip.le ip.up⟩) ((parts_iff hp.w).mpr ⟨ip.w2, ip.up⟩)
  have few := hp.few
  by_cases c : pool.length ≤ 2
  · have z := len_le n inb
    rw [prod_len, subs_len] at z
    have : 2 ^ pool.length ≤ 4 := Nat.le_trans (Nat.pow_le_pow_right (by decide) c) (by decide)
    have := Nat.mul_le_mul this this
    omega
  · have e : pool.length = 3 := by omega
    have nin : (pool, ([] : W)) ∉ L := fun hm => by
      have z := (h _ hm).le
      have y : pool = [] := by
        cases hpool : pool with
        | nil => rfl
        | cons x r =>
          rw [hpool] at z
          exact absurd (sub_mem z x List.mem_cons_self) List.not_mem_nil
      rw [y] at e
      exact absurd e (by decide)
    obtain ⟨x, r, hpool⟩ : ∃ x r, pool = x :: r := by
      cases hpool : pool with
      | nil =>
        rw [hpool] at e
        exact absurd e (by decide)
      | cons x r => exact ⟨x, r, rfl⟩
    have nin2 : ([x], ([] : W)) ∉ L := fun hm => absurd (sub_mem (h _ hm).le x (List.mem_singleton.mpr rfl)) List.not_mem_nil
    have ne2 : (pool, ([] : W)) ≠ ([x], ([] : W)) := fun z => by
      have y : pool = [x] := congrArg Prod.fst z
      rw [y] at e
      simp at e
    have z := len_le (l := (pool, ([] : W)) :: ([x], ([] : W)) :: L) (m := (subs pool).flatMap fun a => (subs pool).map fun b => (a, b)) (List.nodup_cons.mpr ⟨fun hm => (List.mem_cons.mp hm).elim ne2 nin, List.nodup_cons.mpr ⟨nin2, n⟩⟩) fun p hp' => by
      rcases List.mem_cons.mp hp' with e | hp'
      · rw [e]
        exact prod_mem (mem_subs.mpr (List.Sublist.refl _)) (mem_subs.mpr (List.nil_sublist _))
      · rcases List.mem_cons.mp hp' with e | hp'
        · rw [e]
          exact prod_mem (mem_subs.mpr (by rw [hpool]; exact (List.nil_sublist _).cons_cons x)) (mem_subs.mpr (List.nil_sublist _))
        · exact inb p hp'
    rw [prod_len, subs_len, e, List.length_cons, List.length_cons] at z
    omega
theorem lows_mem {R : List Pr} {t o : W} (h : o ∈ lows R t) : (o, t) ∈ R := by
  unfold lows at h
  obtain ⟨⟨a, b⟩, hp, rfl⟩ := List.mem_map.mp h
  obtain ⟨h1, h2⟩ := List.mem_filter.mp hp
  have e : b = t := of_decide_eq_true h2
  subst e
  exact h1
theorem why_cases {R : List Pr} {z : Str} {d : PyData} (h : whyO R z = some d) :
    (∃ p ∈ R, (p.2, p.2) ∉ R ∧ d = .tuple [.str totalS, pd p]) ∨ (∃ p ∈ R, ∃ h, (h, h) ∈ R ∧ sub p.2 h = true ∧ (p.1, h) ∉ R ∧ d = .tuple [.str upwardS, pd p, wd h]) ∨
    (∃ p ∈ R, ∃ o, (o, p.2) ∈ R ∧ (meet p.1 o, p.2) ∉ R ∧ d = .tuple [.str meetS, pd p, pd (o, p.2)]) := by
  unfold whyO at h
  cases e1 : totO R with
  | some d1 =>
    rw [e1] at h
    obtain ⟨p, hp, e⟩ := List.exists_of_findSome?_eq_some e1
    have ed : d1 = d := Option.some.inj h
    subst ed
    left
    unfold totIn at e
    by_cases c : (p.2, p.2) ∈ R
    · rw [if_pos c] at e
      exact nomatch e
    · rw [if_neg c] at e
      exact ⟨p, hp, c, (Option.some.inj e).symm⟩
  | none =>
    rw [e1] at h
    cases e2 : (if z = anyS then none else upO R) with
    | some d2 =>
      rw [e2] at h
      have ed : d2 = d := Option.some.inj h
      subst ed
      have e2' : upO R = some d2 := by
        by_cases c : z = anyS
        · rw [if_pos c] at e2
          exact nomatch e2
        · rw [if_neg c] at e2
          exact e2
      obtain ⟨p, hp, e⟩ := List.exists_of_findSome?_eq_some e2'
      obtain ⟨o, ho, e⟩ := List.exists_of_findSome?_eq_some e
      unfold upIn at e
      by_cases c : sub p.2 o = true ∧ (p.1, o) ∉ R
      · rw [if_pos c] at e
        exact .inr (.inl ⟨p, hp, o, tops_mem.mp ho, c.1, c.2, (Option.some.inj e).symm⟩)
      · rw [if_neg c] at e
        exact nomatch e
    | none =>
      rw [e2] at h
      have e3' : meO R = some d := by
        by_cases c : z = singleS
        · rw [if_pos c] at h
          exact h
        · rw [if_neg c] at h
          exact nomatch h
      obtain ⟨p, hp, e⟩ := List.exists_of_findSome?_eq_some e3'
      obtain ⟨o, ho, e⟩ := List.exists_of_findSome?_eq_some e
      unfold meIn at e
      by_cases c : (meet p.1 o, p.2) ∈ R
      · rw [if_pos c] at e
        exact nomatch e
      · rw [if_neg c] at e
        exact .inr (.inr ⟨p, hp, o, lows_mem ho, c, (Option.some.inj e).symm⟩)
/-- rows of the law: an own list of pairs -/
def Own (K : PySem.W.Frag) (H : Hp) (l : Addr) (L : List Pr) : Prop := ∃ xs, H l = some (.lst xs) ∧ DpAll K H xs (L.map pd)
theorem Own.pl {K : PySem.W.Frag} {H : Hp} {l : Addr} {L : List Pr} (h : Own K H l L) : PL K H l L := by
  obtain ⟨xs, h1, h2⟩ := h
  exact ⟨xs, SqL.of h1, h2⟩
theorem Own.same {K : PySem.W.Frag} {H H' : Hp} {l : Addr} {L : List Pr} (h : Own K H l L) (e : Same H H') : Own K H' l L := by
  obtain ⟨xs, h1, h2⟩ := h
  exact ⟨xs, e _ _ h1, (Stay.same e).dpAll _ _ (okDs_pd _) h2⟩
/-- one pair more -/
theorem Own.more {K : PySem.W.Frag} {H : Hp} {l : Addr} {L : List Pr} {xs : List V} (h1 : H l = some (.lst xs)) (h2 : DpAll K H xs (L.map pd)) {t : V} {p : Pr} (ht : Dp K H t (pd p)) : Own K (upd H l (.lst (xs ++ [t]))) l (L ++ [p]) := by
  have st : Stay H (upd H l (.lst (xs ++ [t]))) := .put (by rw [h1]; exact True.intro) _
  refine ⟨_, upd_same, ?_⟩
  rw [List.map_append]
  exact dpAll_app (st.dpAll _ _ (okDs_pd _) h2) (.cons (st.pd ht) .nil)
theorem scLawClosed : FnScope ["rows", "kind", "turn", "why"] ["rows", "kind"] (defScope sLawClosed) := ⟨rfl, rfl, rfl, by decide +kernel, rfl, by decide +kernel, by decide +kernel⟩
theorem scLawDrawn : FnScope ["purse", "pool", "found", "few", "there", "here"] ["purse", "pool"] (defScope sLawDrawn) := ⟨rfl, rfl, rfl, by decide +kernel, rfl, by decide +kernel, by decide +kernel⟩
section
variable {P : Program} {w : World} {K : PySem.W.Frag} {mg : Str → Option Value} {base : Heap} {f : Addr} {fd : FuncData} {k : Nat}
def spLawClosed (K : PySem.W.Frag) : Sp := fun vs H Q _ => ∃ (l : Addr) (z : Str) (pool : W) (L : List Pr), vs = [.ref l, .str z] ∧ Own K H l L ∧ L.Nodup ∧ (∀ p ∈ L, IsP pool p) ∧ IsPool pool ∧
  ∀ H' l' L', Same H H' → H l' = none → Own K H' l' L' → L'.Nodup → (∀ p ∈ L', IsP pool p) → Q (.ref l') H'
theorem ok_lawClosed {f1 f2 : Addr} {fd1 fd2 : FuncData} (F : Fun K "_law_closed" "_law_closed" sLawClosed f fd) (T : Bl mg) (G1 : FnOk P w K mg base CX0 k f1 fd1 ["rows", "kind"] (spLawWhy K)) (b1 : Binds K fd1 ["rows", "kind"] []) (k1 : PySem.W.keepIn K (.ref f1) = true) (m1 : mg "_law_why" = some (.ref f1))
    (G2 : FnOk P w K mg base CX0 k f2 fd2 ["one", "other"] (spCommon K)) (b2 : Binds K fd2 ["one", "other"] []) (k2 : PySem.W.keepIn K (.ref f2) = true) (m2 : mg "_law_meet" = some (.ref f2)) :
    FnOk P w K mg base CX0 (k + 1) f fd ["rows", "kind"] (spLawClosed K) := by
  refine F.ok scLawClosed (fun vs H Q E h => ?_) (fun cdv A outer s H vs Q E hr h => ?_)
  · obtain ⟨l, z, pool, L, rfl, _⟩ := h
    rfl
  obtain ⟨l, z, pool, L, rfl, ⟨xs0, hl, hx0⟩, hn, hL, hp, q⟩ := h
  refine ⟨_, pss_cons (ps_set (i := 0) scLawClosed.nd rfl (.inl rfl) (pe_callTy call_list_of (by rfl) T.list (by decide +kernel) (pa_cons (pv 0) pa_nil)))
    (pss_cons (ps_for PassesOwn.never rfl (pi_range1 rfl T.range (pa_cons pe_int pa_nil)) (pg_name (i := 2) scLawClosed.nd rfl (.inl rfl))
      (pss_cons (ps_set (i := 3) scLawClosed.nd rfl (.inl rfl) (pe_call G1 hr (by rfl) m1 k1 b1 .nil pass0 (pa_cons (pv 0) (pa_cons (pv 1) pa_nil))))
      (pss_cons (ps_if (pt_cmpR op_isN (pv 3) pe_non (nomark _)) (pss_one (ps_ret (pv 0))) pss_nil)
      (pss_one (ps_if (pt_cmpR op_eq (pe_ix ix_tup (pv 3) pe_int (fun _ _ => rfl)) pe_str (nomark _))
        (pss_one (ps_expr (pe_bm PySem.F.plainAttrs_list PySem.F.slot_list_append PySem.F.type_list_append mt_append (pv 0) (pa_cons (pe_tup (pa_cons (pe_ix ix_tup (pe_ix ix_tup (pv 3) pe_int (fun _ _ => rfl)) pe_int (fun _ _ => rfl)) (pa_cons (pe_ix ix_tup (pe_ix ix_tup (pv 3) pe_int (fun _ _ => rfl)) pe_int (fun _ _ => rfl)) pa_nil))) pa_nil))))
        (pss_one (ps_if (pt_cmpR op_eq (pe_ix ix_tup (pv 3) pe_int (fun _ _ => rfl)) pe_str (nomark _))
          (pss_one (ps_expr (pe_bm PySem.F.plainAttrs_list PySem.F.slot_list_append PySem.F.type_list_append mt_append (pv 0) (pa_cons (pe_tup (pa_cons (pe_ix ix_tup (pe_ix ix_tup (pv 3) pe_int (fun _ _ => rfl)) pe_int (fun _ _ => rfl)) (pa_cons (pe_ix ix_tup (pv 3) pe_int (fun _ _ => rfl)) pa_nil))) pa_nil))))
          (pss_one (ps_expr (pe_bm PySem.F.plainAttrs_list PySem.F.slot_list_append PySem.F.type_list_append mt_append (pv 0) (pa_cons (pe_tup (pa_cons (pe_call G2 hr (by rfl) m2 k2 b2 .nil pass0 (pa_cons (pe_ix ix_tup (pe_ix ix_tup (pv 3) pe_int (fun _ _ => rfl)) pe_int (fun _ _ => rfl)) (pa_cons (pe_ix ix_tup (pe_ix ix_tup (pv 3) pe_int (fun _ _ => rfl)) pe_int (fun _ _ => rfl)) pa_nil))) (pa_cons (pe_ix ix_tup (pe_ix ix_tup (pv 3) pe_int (fun _ _ => rfl)) pe_int (fun _ _ => rfl)) pa_nil))) pa_nil)))))))))))
    (pss_one (ps_ret (pv 0)))), ?_⟩
  refine ⟨.ref l, rfl, l, xs0, rfl, .inl (SqL.of hl), fun l' hl' => ?_⟩
  have s0 := same_new hl' (.lst xs0)
  have hx1 : DpAll K (upd H l' (.lst xs0)) xs0 (L.map pd) := (Stay.same s0).dpAll _ _ (okDs_pd _) hx0
  refine ⟨200, rfl, by decide, by decide, for_range (n := 200) (fun i σ H1 => ∃ L' y2 y3, σ = [some (.ref l'), some (.str z), y2, y3] ∧ Same H H1 ∧ Own K H1 l' L' ∧ L'.Nodup ∧ ∀ p ∈ L', IsP pool p) ⟨L, none, none, rfl, s0, ⟨xs0, upd_same, hx1⟩, hn, hL⟩ (fun i σ H1 hi hI => ?_) (fun σ H1 hI => ?_)⟩
  · obtain ⟨L', y2, y3, rfl, sm, ⟨xs, hlx, hxs⟩, nL, iL⟩ := hI
    have fewL := pairs_few hp nL iL
    refine ⟨.ref l', rfl, .str z, rfl, l', z, L', rfl, Own.pl ⟨xs, hlx, hxs⟩, by omega, fun p hp' => (iL p hp').to4 hp, fun H2 x R s2 nR ris memR tx => ?_⟩
    have hl2 := s2 _ _ hlx
    have hx2 := (Stay.same s2).dpAll _ _ (okDs_pd _) hxs
    have sm2 := sm.trans s2
    have small : xs.length < sizeLine := small_line' (by rw [dpAll_len hxs, List.length_map]; omega)
    refine ⟨x, rfl, rfl, _, rfl, ?_⟩
    rw [told_isN tx]
    cases eo : whyO R z with
    | none => exact iteT ⟨.ref l', rfl, q H2 l' L' sm2 hl' ⟨xs, hl2, hx2⟩ nL iL⟩
    | some d =>
      rw [eo] at tx
      obtain ⟨⟨a, rfl⟩, _, hd⟩ := tx
      refine iteF ?_
      have iR : ∀ p ∈ R, IsP pool p := fun p hp' => iL p ((memR p).mp hp')
      have fin : ∀ (H3 : Hp) (t : V) (p : Pr), Same H2 H3 → Dp K H3 t (pd p) → p ∉ R → IsP pool p → ∃ L' y2 y3, ([some (.ref l'), some (.str z), some (.int (0 + (i : Int))), some (.ref a)] : L2.St) = [some (.ref l'), some (.str z), y2, y3] ∧ Same H (upd H3 l' (.lst (xs ++ [t]))) ∧ Own K (upd H3 l' (.lst (xs ++ [t]))) l' L' ∧ L'.Nodup ∧ ∀ p ∈ L', IsP pool p := by
        intro H3 t p s3 ht hn3 ip
        refine ⟨L' ++ [p], _, _, rfl, same_put (sm2.trans s3) hl', Own.more (s3 _ _ hl2) ((Stay.same s3).dpAll _ _ (okDs_pd _) hx2) ht, nodup_snoc nL fun hm => hn3 ((memR p).mpr hm), fun p' hp' => ?_⟩
        rcases List.mem_append.mp hp' with hp' | hp'
        · exact iL p' hp'
        · rw [List.mem_singleton.mp hp']
          exact ip
      rcases why_cases eo with ⟨p, hp', np, rfl⟩ | ⟨p, hp', h, hh, hs, np, rfl⟩ | ⟨p, hp', o, _, np, rfl⟩
      · have ip := iR p hp'
        cases hd with
        | tup g1 g2 =>
          cases g2 with
          | cons g3 g4 =>
            cases g3
            cases g4 with
            | cons g5 g6 =>
              cases g6
              obtain ⟨b, y, v, rfl, hP, hy, hv⟩ := of_pd g5
              refine ⟨.ref a, rfl, a, _, 0, .str totalS, rfl, rfl, g1, atI_nat (j := 0) rfl, rfl, _, rfl, iteT ?_⟩
              refine ⟨.ref l', rfl, .inl ⟨rfl, _, SqL.of hl2⟩, ?_⟩
              have rd : ∀ (j : Nat), True := fun _ => trivial
              refine ⟨.ref a, rfl, a, _, 1, .ref b, rfl, rfl, g1, atI_nat (j := 1) rfl, b, _, 1, v, rfl, rfl, hP, atI_nat (j := 1) rfl, .ref a, rfl, a, _, 1, .ref b, rfl, rfl, g1, atI_nat (j := 1) rfl, b, _, 1, v, rfl, rfl, hP, atI_nat (j := 1) rfl, by show 2 ≤ sizeLine; decide, fun t ht => ?_⟩
              have st := same_new ht (.tup [v, v])
              refine ⟨l', xs, .ref t, rfl, rfl, st _ _ hl2, small, ?_⟩
              exact fin _ _ (p.2, p.2) st (to_pd (SqT.of upd_same) ((Stay.same st).wd hv) ((Stay.same st).wd hv)) np ⟨ip.w2, ip.w2, sub_self _, ip.up⟩
      · have ip := iR p hp'
        have ih := iR _ hh
        cases hd with
        | tup g1 g2 =>
          cases g2 with
          | cons g3 g4 =>
            cases g3
            cases g4 with
            | cons g5 g6 =>
              cases g6 with
              | cons g7 g8 =>
                cases g8
                obtain ⟨b, y, v, rfl, hP, hy, hv⟩ := of_pd g5
                obtain ⟨g, rfl, _⟩ := of_wd g7
                refine ⟨.ref a, rfl, a, _, 0, .str upwardS, rfl, rfl, g1, atI_nat (j := 0) rfl, rfl, _, rfl, ite2 (fun e => absurd (V.str.inj (of_decide_eq_true e)) (by decide)) (fun _ => ?_)⟩
                refine ⟨.ref a, rfl, a, _, 0, .str upwardS, rfl, rfl, g1, atI_nat (j := 0) rfl, rfl, _, rfl, iteT ?_⟩
                refine ⟨.ref l', rfl, .inl ⟨rfl, _, SqL.of hl2⟩, ?_⟩
                refine ⟨.ref a, rfl, a, _, 1, .ref b, rfl, rfl, g1, atI_nat (j := 1) rfl, b, _, 0, y, rfl, rfl, hP, atI_nat (j := 0) rfl, .ref a, rfl, a, _, 2, _, rfl, rfl, g1, atI_nat (j := 2) rfl, by show 2 ≤ sizeLine; decide, fun t ht => ?_⟩
                have st := same_new ht (.tup [y, .ref g])
                refine ⟨l', xs, .ref t, rfl, rfl, st _ _ hl2, small, ?_⟩
                exact fin _ _ (p.1, h) st (to_pd (SqT.of upd_same) ((Stay.same st).wd hy) ((Stay.same st).wd g7)) np ⟨ip.w1, ih.w2, sub_trans ip.le hs, ih.up⟩
      · have ip := iR p hp'
        cases hd with
        | tup g1 g2 =>
          cases g2 with
          | cons g3 g4 =>
            cases g3
            cases g4 with
            | cons g5 g6 =>
              cases g6 with
              | cons g7 g8 =>
                cases g8
                obtain ⟨b, y, v, rfl, hP, hy, hv⟩ := of_pd g5
                obtain ⟨b', y', v', rfl, hP', hy', hv'⟩ := of_pd g7
                have w1l := ip.w1.few
                refine ⟨.ref a, rfl, a, _, 0, .str meetS, rfl, rfl, g1, atI_nat (j := 0) rfl, rfl, _, rfl, ite2 (fun e => absurd (V.str.inj (of_decide_eq_true e)) (by decide)) (fun _ => ?_)⟩
                refine ⟨.ref a, rfl, a, _, 0, .str meetS, rfl, rfl, g1, atI_nat (j := 0) rfl, rfl, _, rfl, ite2 (fun e => absurd (V.str.inj (of_decide_eq_true e)) (by decide)) (fun _ => ?_)⟩
                refine ⟨.ref l', rfl, .inl ⟨rfl, _, SqL.of hl2⟩, ?_⟩
                refine ⟨.ref a, rfl, a, _, 1, .ref b, rfl, rfl, g1, atI_nat (j := 1) rfl, b, _, 0, y, rfl, rfl, hP, atI_nat (j := 0) rfl, .ref a, rfl, a, _, 2, .ref b', rfl, rfl, g1, atI_nat (j := 2) rfl, b', _, 0, y', rfl, rfl, hP', atI_nat (j := 0) rfl, ?_⟩
                refine ⟨y, y', p.1, o, rfl, hy, hy', by omega, fun H3 m s3 hm => ?_⟩
                have t3 := Stay.same s3
                refine ⟨.ref a, rfl, a, _, 1, .ref b, rfl, rfl, t3.seq g1, atI_nat (j := 1) rfl, b, _, 1, v, rfl, rfl, t3.seq hP, atI_nat (j := 1) rfl, by show 2 ≤ sizeLine; decide, fun t ht => ?_⟩
                have st := same_new ht (.tup [.ref m, v])
                have s4 := s3.trans st
                refine ⟨l', xs, .ref t, rfl, rfl, s4 _ _ hl2, small, ?_⟩
                exact fin _ _ (meet p.1 o, p.2) s4 (to_pd (SqT.of upd_same) (to_wd (SqT.of (st _ _ hm))) ((Stay.same s4).wd hv)) np ⟨isW_meet ip.w1, ip.w2, sub_of fun x hx => sub_mem ip.le x (List.mem_filter.mp hx).1, ip.up⟩
  · obtain ⟨L', y2, y3, rfl, sm, ho, nL, iL⟩ := hI
    exact ⟨.ref l', rfl, q H1 l' L' sm hl' ho nL iL⟩
end
/-! from Rw19 -/
/-! ### what stays while a purse is drawn from -/
section
variable {P : Program} {w : World} {K : PySem.W.Frag} {mg : Str → Option Value} {base : Heap} {f : Addr} {fd : FuncData} {k : Nat}
def spLawDrawn (K : PySem.W.Frag) : Sp := fun vs H Q _ => ∃ (p : Addr) (x : V) (pool : W) (c : Int), vs = [.ref p, x] ∧ Pur H p c ∧ c ≤ 500000 ∧ Dp K H x (wd pool) ∧ IsPool pool ∧
  ∀ H' l L, Bar p H H' → H l = none → Pur H' p (c + 1000) → Own K H' l L → L.Nodup → (∀ q ∈ L, IsP pool q) → Q (.ref l) H'
theorem ok_lawDrawn {f1 f2 : Addr} {fd1 fd2 : FuncData} (F : Fun K "_law_drawn" "_law_drawn" sLawDrawn f fd) (T : Bl mg) (G1 : FnOk P w K mg base CX0 k f1 fd1 ["purse", "out_of"] spLawDraw) (b1 : Binds K fd1 ["purse", "out_of"] []) (k1 : PySem.W.keepIn K (.ref f1) = true) (m1 : mg "_law_draw" = some (.ref f1))
    (G2 : FnOk P w K mg base CX0 k f2 fd2 ["pool"] (spLawParts K)) (b2 : Binds K fd2 ["pool"] []) (k2 : PySem.W.keepIn K (.ref f2) = true) (m2 : mg "_law_parts" = some (.ref f2)) :
    FnOk P w K mg base CX0 (k + 1) f fd ["purse", "pool"] (spLawDrawn K) := by
  refine F.ok scLawDrawn (fun vs H Q E h => ?_) (fun cdv A outer s H vs Q E hr h => ?_)
  · obtain ⟨p, x, pool, c, rfl, _⟩ := h
    rfl
  obtain ⟨p, x, pool, c, rfl, hP, hc, hx, hpl, q⟩ := h
  refine ⟨_, pss_cons (ps_set (i := 2) scLawDrawn.nd rfl (.inl rfl) (pe_lst pa_nil))
    (pss_cons (ps_set (i := 3) scLawDrawn.nd rfl (.inl rfl) (pe_op op_add pe_int (pe_call G1 hr (by rfl) m1 k1 b1 .nil pass0 (pa_cons (pv 0) (pa_cons pe_int pa_nil)))))
    (pss_cons (ps_for PassesOwn.never rfl (pi_list (pe_call G2 hr (by rfl) m2 k2 b2 .nil pass0 (pa_cons (pv 1) pa_nil))) (pg_name (i := 4) scLawDrawn.nd rfl (.inl rfl))
      (pss_one (ps_for PassesOwn.never rfl (pi_list (pe_call G2 hr (by rfl) m2 k2 b2 .nil pass0 (pa_cons (pv 4) pa_nil))) (pg_name (i := 5) scLawDrawn.nd rfl (.inl rfl))
        (pss_one (ps_if (pt_cmpR op_lt (pe_call G1 hr (by rfl) m1 k1 b1 .nil pass0 (pa_cons (pv 0) (pa_cons pe_int pa_nil))) (pe_op op_sub (pe_op op_sub (pv 3) pe_int) (pe_callTy call_int1 (by rfl) T.int (by decide +kernel) (pa_cons (pe_cmpR (op_neD hr.units) (pv 5) (pv 4) (nomark _)) pa_nil))) (nomark _))
          (pss_one (ps_expr (pe_bm PySem.F.plainAttrs_list PySem.F.slot_list_append PySem.F.type_list_append mt_append (pv 2) (pa_cons (pe_tup (pa_cons (pv 5) (pa_cons (pv 4) pa_nil))) pa_nil)))) pss_nil)))))
    (pss_one (ps_ret (pv 2))))), ?_⟩
  refine ⟨Nat.zero_le _, fun l hl => ?_⟩
  have s0 := same_new hl (.lst [])
  have nlp := hP.some hl
  refine ⟨.ref p, rfl, p, 6, c, rfl, hP.same s0, by omega, by decide, by decide, fun r us r0 r1 hP1 => ?_⟩
  refine ⟨_, _, rfl, rfl, ?_⟩
  have bar1 : Bar p H (upd (upd H l (.lst [])) p (.lst us)) := (Bar.same s0).trans .draw
  have hl1 : (upd (upd H l (.lst [])) p (.lst us)) l = some (.lst []) := by
    rw [upd_ne nlp, upd_same]
  refine ⟨x, rfl, x, pool, rfl, (bar1.stay hP.mut).wd hx, Nat.le_trans hpl.few (by decide), fun HS l2 S s2 nl2 hW perm ris => ?_⟩
  obtain ⟨ys, hl2, hys⟩ := hW
  have yl : ys.length = S.length := by rw [dpAll_len hys, List.length_map]
  have nl2p : l2 ≠ p := hP1.some nl2
  have nl2l : l2 ≠ l := fun e => by
    rw [e, hl1] at nl2
    cases nl2
  have nS : S.Nodup := perm.nodup_iff.mpr (subs_nodup (upX_nodup hpl.w.up))
  have lS : S.length ≤ 8 := by
    rw [perm.length_eq, subs_len]
    exact Nat.le_trans (Nat.pow_le_pow_right (by decide) hpl.few) (by decide)
  refine ⟨l2, rfl, ⟨_, SqL.of hl2⟩, for_list (xs := ys) (fun i σ H1 => ∃ y4 y5, σ = [some (.ref p), some x, some (.ref l), some (.int (1 + r)), y4, y5] ∧ Bar p H H1 ∧ Stay HS H1 ∧ Pur H1 p (c + 1 + 16 * i) ∧ H1 l2 = some (.lst ys) ∧ ∃ L, Own K H1 l L ∧ L.Nodup ∧ ∀ q ∈ L, IsP pool q ∧ q.2 ∈ S.take i)
    ⟨none, none, rfl, bar1.trans (.same s2), .refl _, (hP1.same s2).le (by omega), hl2, [], ⟨[], s2 _ _ hl1, .nil⟩, List.nodup_nil, fun _ z => nomatch z⟩ (fun i σ H1 _ hI => by obtain ⟨_, _, _, _, _, _, h, _⟩ := hI; exact SqL.of h) (fun i u σ H1 hu hI => ?_) (fun σ H1 hI => ?_)⟩
  · obtain ⟨y4, y5, rfl, bar, sty, pu, hl2', L, ho, nL, iL⟩ := hI
    obtain ⟨du, hdu, hud⟩ := dpAll_at' hys hu
    obtain ⟨t, ht, rfl⟩ := map_at hdu
    obtain ⟨wt, lt⟩ := (parts_iff hpl.w).mp (perm.mem_iff.mp (List.mem_of_getElem? ht))
    have tl : t.length ≤ 3 := Nat.le_trans (mem_subs.mp (perm.mem_iff.mp (List.mem_of_getElem? ht))).length_le hpl.few
    have il : i < S.length := (List.getElem?_eq_some_iff.mp ht).1
    refine ⟨u, rfl, u, t, rfl, sty.wd hud, by omega, fun HT l3 S' s3 nl3 hW3 perm3 ris3 => ?_⟩
    obtain ⟨ys3, hl3, hys3⟩ := hW3
    have yl3 : ys3.length = S'.length := by rw [dpAll_len hys3, List.length_map]
    have nl3p : l3 ≠ p := pu.some nl3
    have nl3l2 : l3 ≠ l2 := fun e => by
      rw [e, hl2'] at nl3
      cases nl3
    have nl3l : l3 ≠ l := fun e => by
      obtain ⟨xs, ho, _⟩ := ho
      rw [e, ho] at nl3
      cases nl3
    have nS3 : S'.Nodup := perm3.nodup_iff.mpr (subs_nodup (upX_nodup wt.up))
    have lS3 : S'.length ≤ 8 := by
      rw [perm3.length_eq, subs_len]
      exact Nat.le_trans (Nat.pow_le_pow_right (by decide) tl) (by decide)
    refine ⟨l3, rfl, ⟨_, SqL.of hl3⟩, for_list (xs := ys3) (fun j σ H3 => ∃ y5, σ = [some (.ref p), some x, some (.ref l), some (.int (1 + r)), some u, y5] ∧ Bar p H H3 ∧ Stay HS H3 ∧ Stay HT H3 ∧ Pur H3 p (c + 1 + 16 * i + j) ∧ H3 l2 = some (.lst ys) ∧ H3 l3 = some (.lst ys3) ∧
        ∃ L, Own K H3 l L ∧ L.Nodup ∧ ∀ q ∈ L, IsP pool q ∧ (q.2 ∈ S.take i ∨ (q.2 = t ∧ q.1 ∈ S'.take j)))
      ⟨_, rfl, bar.trans (.same s3), sty.trans (.same s3), .refl _, (pu.same s3).le (by omega), s3 _ _ hl2', hl3, L, ho.same s3, nL, fun q hq => ⟨(iL q hq).1, .inl (iL q hq).2⟩⟩ (fun j σ H3 _ hI => by obtain ⟨_, _, _, _, _, _, _, h, _⟩ := hI; exact SqL.of h) (fun j v σ H3 hv hI => ?_) (fun σ H3 hI => ?_)⟩
    · obtain ⟨y5, rfl, bar3, st3, stT, pu3, h32, h33, L3, ⟨xs3, ho3, hx3⟩, nL3, iL3⟩ := hI
      obtain ⟨dv, hdv, hvd⟩ := dpAll_at' hys3 hv
      obtain ⟨h, hh, rfl⟩ := map_at hdv
      obtain ⟨wh, lh⟩ := (parts_iff wt).mp (perm3.mem_iff.mp (List.mem_of_getElem? hh))
      have jl : j < S'.length := (List.getElem?_eq_some_iff.mp hh).1
      refine ⟨.ref p, rfl, p, 6, _, rfl, pu3, by omega, by decide, by decide, fun r' us' r0' r1' pu4 => ?_⟩
      have st4 : Stay H3 (upd H3 p (.lst us')) := .put pu3.mut _
      have bar4 : Bar p H (upd H3 p (.lst us')) := bar3.trans .draw
      have hv4 := (stT.trans st4).wd hvd
      have hu4 := (st3.trans st4).wd hud
      have ho4 : (upd H3 p (.lst us')) l = some (.lst xs3) := by
        rw [upd_ne nlp]
        exact ho3
      have h42 : (upd H3 p (.lst us')) l2 = some (.lst ys) := by
        rw [upd_ne nl2p]
        exact h32
      have h43 : (upd H3 p (.lst us')) l3 = some (.lst ys3) := by
        rw [upd_ne nl3p]
        exact h33
      have hx4 := st4.dpAll _ _ (okDs_pd _) hx3
      refine ⟨_, rfl, _, _, rfl, rfl, v, rfl, u, rfl, wd h, wd t, hv4, hu4, shaped_wd wh, shaped_wd wt, .inr ⟨_, rfl, _, _, rfl, rfl, _, _, rfl, rfl, _, rfl, ite2 (fun _ => ?_) (fun _ => ?_)⟩⟩
      · refine ⟨.ref l, rfl, .inl ⟨rfl, _, SqL.of ho4⟩, v, rfl, u, rfl, by show 2 ≤ sizeLine; decide, fun b hb => ?_⟩
        have sb := same_new hb (.tup [v, u])
        have fewL := pairs_few hpl nL3 fun q hq => (iL3 q hq).1
        have nbl : b ≠ l := fun e => by
          rw [e, ho4] at hb
          cases hb
        have ho5 := sb _ _ ho4
        refine ⟨l, xs3, .ref b, rfl, rfl, ho5, small_line' (by rw [dpAll_len hx3, List.length_map]; omega), ?_⟩
        have st5 : Stay (upd H3 p (.lst us')) (upd (upd (upd H3 p (.lst us')) b (.tup [v, u])) l (.lst (xs3 ++ [.ref b]))) := (Stay.same sb).trans (.put (by rw [ho5]; exact True.intro) _)
        refine ⟨_, rfl, (bar4.trans (.same sb)).put hl, st3.trans (st4.trans st5), stT.trans (st4.trans st5), ((pu4.same sb).put nlp).le (by omega), ?_, ?_, L3 ++ [(h, t)], ?_, nodup_snoc nL3 fun hm => ?_, fun q hq => ?_⟩
        · rw [upd_ne nl2l]
          exact sb _ _ h42
        · rw [upd_ne nl3l]
          exact sb _ _ h43
        · exact Own.more ho5 ((Stay.same sb).dpAll _ _ (okDs_pd _) hx4) (to_pd (p := (h, t)) (SqT.of upd_same) ((Stay.same sb).wd hv4) ((Stay.same sb).wd hu4))
        · rcases (iL3 _ hm).2 with z | ⟨_, z⟩
          · exact idx_new' nS ht z
          · exact idx_new' nS3 hh z
        · rcases List.mem_append.mp hq with hq | hq
          · obtain ⟨z1, z2⟩ := iL3 q hq
            refine ⟨z1, z2.elim .inl fun ⟨e, m⟩ => .inr ⟨e, ?_⟩⟩
            rw [take_snoc hh]
            exact List.mem_append_left _ m
          · rw [List.mem_singleton.mp hq]
            refine ⟨⟨wh, wt, lh, lt⟩, .inr ⟨rfl, ?_⟩⟩
            rw [take_snoc hh]
            exact List.mem_append_right _ (List.mem_singleton.mpr rfl)
      · refine ⟨_, rfl, bar4, st3.trans st4, stT.trans st4, pu4.le (by omega), h42, h43, L3, ⟨xs3, ho4, hx4⟩, nL3, fun q hq => ?_⟩
        obtain ⟨z1, z2⟩ := iL3 q hq
        refine ⟨z1, z2.elim .inl fun ⟨e, m⟩ => .inr ⟨e, ?_⟩⟩
        rw [take_snoc hh]
        exact List.mem_append_left _ m
    · obtain ⟨y5, rfl, bar3, st3, stT, pu3, h32, h33, L3, ho3, nL3, iL3⟩ := hI
      refine ⟨_, _, rfl, bar3, st3, pu3.le (by rw [yl3]; omega), h32, L3, ho3, nL3, fun q hq => ?_⟩
      obtain ⟨z1, z2⟩ := iL3 q hq
      refine ⟨z1, ?_⟩
      rw [take_snoc ht]
      rcases z2 with z2 | ⟨e, _⟩
      · exact List.mem_append_left _ z2
      · exact List.mem_append_right _ (List.mem_singleton.mpr e)
  · obtain ⟨y4, y5, rfl, bar, sty, pu, hl2', L, ho, nL, iL⟩ := hI
    exact ⟨.ref l, rfl, q H1 l L bar hl (pu.le (by rw [yl]; omega)) ho nL fun q hq => (iL q hq).1⟩
end
end Rw
namespace Rw
open PySem PySem.Spec PyProof.Rows L2
/-! ### filters read in one step -/
theorem asg12 {t : TE} {g : TG} {u : TS} {D : Ends} {σ : L2.St} {H : Hp} (h : tAsg t g { D with nx := u D } σ H) : tSeq (tAsg t g) u D σ H := h
theorem lc_filt {K : PySem.W.Frag} {σ : L2.St} {H : Hp} {Q : VK} {t c : Addr} {i j x : Nat} {ns ms : W} {neg : Bool} (h0 : σ[i]? = some (some (.ref t))) (hj : j ≠ x) (hσ : σ[j]? = some (some (.ref c))) (hl : x < σ.length) (hc : SqL K H c (ms.map V.str) ∨ SqT K H c (ms.map V.str)) (ht : SqT K H t (ns.map V.str)) (few : ns.length ≤ 1000)
    (q : ∀ H' D, Same H H' → H D = none → H' D = some (.lst ((ns.filter fun z => if neg then !decide (z ∈ ms) else decide (z ∈ ms)).map V.str)) → Q (.ref D) H') :
    tLc (iTup K (tVar i)) (gName x) (tTest (tOp (rIn K neg) (tVar x) (tVar j))) (tVar x) [x] σ H Q := by
  refine ⟨.ref t, h0, t, rfl, ⟨_, ht⟩, fun D hD => ?_⟩
  refine lc_tup (xs := ns.map V.str) (fun n H1 => Same H H1 ∧ H1 D = some (.lst (((ns.take n).filter fun z => if neg then !decide (z ∈ ms) else decide (z ∈ ms)).map V.str))) ⟨same_new hD _, upd_same⟩ (fun n H1 _ h => same_tup h.1 ht) (fun n y H1 hx h => ?_) (fun H1 h => ?_)
  · obtain ⟨sm, hd⟩ := h
    obtain ⟨z, hz, rfl⟩ := map_at hx
    have il : n < ns.length := (List.getElem?_eq_some_iff.mp hz).1
    have w9 : ((wipe σ [x]).set x (some (V.str z)))[x]? = some (some (V.str z)) := by
      show ((σ.set x none).set x (some (V.str z)))[x]? = _
      rw [List.set_set, List.getElem?_set_self hl]
    have wj : ((wipe σ [x]).set x (some (V.str z)))[j]? = some (some (V.ref c)) := by
      show ((σ.set x none).set x (some (V.str z)))[j]? = _
      rw [List.set_set, List.getElem?_set_ne (Ne.symm hj)]
      exact hσ
    have ww : wipe ((wipe σ [x]).set x (some (V.str z))) [x] = wipe σ [x] := by
      show ((σ.set x none).set x (some (V.str z))).set x none = σ.set x none
      rw [List.set_set, List.set_set]
    refine ⟨ww, .str z, w9, .ref c, wj, c, ms.map V.str, rfl, hc.elim (fun h => .inl (sm.seq h)) (fun h => .inr (same_tup sm h)), rfl, flat_strs ms, _, rfl, ?_⟩
    rw [inV_str]
    refine ite2 (fun e => ?_) (fun e => ?_)
    · refine ⟨.str z, w9, _, hd, small_line' ?_, same_put sm hD, ?_⟩
      · rw [List.length_map]
        have := List.length_filter_le (fun z => if neg then !decide (z ∈ ms) else decide (z ∈ ms)) (ns.take n)
        rw [List.length_take] at this
        omega
      · rw [upd_same, filt_take hz, if_pos (show (if neg then !decide (z ∈ ms) else decide (z ∈ ms)) = true from e), List.map_append]
        rfl
    · refine ⟨sm, ?_⟩
      rw [filt_take hz, if_neg (show ¬ (if neg then !decide (z ∈ ms) else decide (z ∈ ms)) = true from e), List.append_nil]
      exact hd
  · obtain ⟨sm, hd⟩ := h
    rw [List.length_map, List.take_length] at hd
    exact q H1 D sm hD hd
def innW (ns ms : W) : W := ns.filter fun z => decide (z ∈ ms)
def neL (zs : W) : Bool := !decide (zs = [])
theorem eqv_nil (zs : W) : PyData.eqv (.list (zs.map .str)) (.list []) = decide (zs = []) := by
  rw [PyData.eqv]
  have z := eqv_strs zs []
  rw [List.map_nil] at z
  exact z
theorem ne_nil {K : PySem.W.Frag} {H : Hp} {D e : Addr} {zs : W} {Q : VK} (hz : SqL K H D (zs.map V.str)) (he : SqL K H e []) (hn : ∀ x ∈ zs, nameB x = true) (q : Q (.bl (neL zs)) H) : rNeD K (.ref D) (.ref e) H Q := by
  refine ⟨.list (zs.map .str), .list [], .lst hz (dps_strs _), .lst he .nil, shaped_strs hn, by decide, ?_⟩
  rw [eqv_nil]
  exact q
/-- [x for x in ns if x not in ms] != [], and with in -/
theorem filt_ne {K : PySem.W.Frag} {σ : L2.St} {H : Hp} {Q : VK} {t c : Addr} {i j x : Nat} {ns ms : W} {neg : Bool} (h0 : σ[i]? = some (some (.ref t))) (hj : j ≠ x) (hσ : σ[j]? = some (some (.ref c))) (hl : x < σ.length) (hc : SqL K H c (ms.map V.str) ∨ SqT K H c (ms.map V.str)) (ht : SqT K H t (ns.map V.str)) (few : ns.length ≤ 1000)
    (hn : ∀ z ∈ ns, nameB z = true) (q : ∀ H', Same H H' → Q (.bl (neL (ns.filter fun z => if neg then !decide (z ∈ ms) else decide (z ∈ ms)))) H') :
    tOp (rNeD K) (tLc (iTup K (tVar i)) (gName x) (tTest (tOp (rIn K neg) (tVar x) (tVar j))) (tVar x) [x]) (tLst tNil) σ H Q := by
  refine lc_filt h0 hj hσ hl hc ht few fun H1 D s1 nD hD => ⟨by show 0 ≤ sizeLine; decide, fun e he => ?_⟩
  have s2 := same_new he (.lst [])
  exact ne_nil (SqL.of (s2 _ _ hD)) (SqL.of upd_same) (fun z hz => hn z (List.mem_filter.mp hz).1) (q _ (s1.trans s2))
/-! ### _law_stands -/
abbrev nLawStands : List Str := ["row", "here", "there", "heads", "denied", "needs", "bars", "x"]
theorem scLawStands : FnScope nLawStands ["row", "here", "there"] (defScope sLawStands) := ⟨rfl, rfl, rfl, by decide +kernel, rfl, by decide +kernel, by decide +kernel⟩
def standsB (r : Rl) (h t : W) : Bool := (neL (minus r.2.2.1 h) || neL (innW r.2.2.2 t)) || (neL (innW r.1 h) || neL (minus r.2.1 t))
section
variable {P : Program} {w : World} {K : PySem.W.Frag} {mg : Str → Option Value} {base : Heap} {f : Addr} {fd : FuncData} {k : Nat}
def spLawStands (K : PySem.W.Frag) : Sp := fun vs H Q _ => ∃ (x y z : V) (r : Rl) (h t : W), vs = [x, y, z] ∧ Dp K H x (rd r) ∧ IsR r ∧ Dp K H y (wd h) ∧ Dp K H z (wd t) ∧ ∀ H', Same H H' → Q (.bl (standsB r h t)) H'
theorem ok_lawStands (F : Fun K "_law_stands" "_law_stands" sLawStands f fd) : FnOk P w K mg base CX0 (k + 1) f fd ["row", "here", "there"] (spLawStands K) := by
  refine F.ok scLawStands (fun vs H Q E h => ?_) (fun cdv A outer s H vs Q E hr h => ?_)
  · obtain ⟨x, y, z, r, h, t, rfl, _⟩ := h
    rfl
  obtain ⟨x, y, z, r, h, t, rfl, hx, hR, hy, hz, q⟩ := h
  refine ⟨_, pss_cons (ps_asg (pv 0) (pg_tup (by rfl) (pgs_cons (pg_name (i := 3) scLawStands.nd rfl (.inl rfl)) (pgs_cons (pg_name (i := 4) scLawStands.nd rfl (.inl rfl)) (pgs_cons (pg_name (i := 5) scLawStands.nd rfl (.inl rfl)) (pgs_cons (pg_name (i := 6) scLawStands.nd rfl (.inl rfl)) pgs_nil))))))
    (pss_cons (ps_if (PW.pt (pw_or (pt_cmpR (op_neD hr.units) (pe_lc (own := [("x", 7)]) (g := gName 7) (by rfl) scLawStands.nd (pi_tup (pv 5)) (blkOk_by (N := nLawStands) (sc := defScope sLawStands) (by decide +kernel)) (fun _ _ _ _ _ => pg_name (i := 7) scLawStands.nd rfl (Or.inl rfl)) (fun _ _ _ _ _ => pts_one (pt_cmpR (r := rIn K true) op_notIn_seq (pv 7) (pv 1) (by rfl))) (fun _ _ _ _ _ => pv 7)) (pe_lst pa_nil) (nomark _))
      (pw_or1 (pt_cmpR (op_neD hr.units) (pe_lc (own := [("x", 7)]) (g := gName 7) (by rfl) scLawStands.nd (pi_tup (pv 6)) (blkOk_by (N := nLawStands) (sc := defScope sLawStands) (by decide +kernel)) (fun _ _ _ _ _ => pg_name (i := 7) scLawStands.nd rfl (Or.inl rfl)) (fun _ _ _ _ _ => pts_one (pt_cmpR (r := rIn K false) op_in_seq (pv 7) (pv 2) (by rfl))) (fun _ _ _ _ _ => pv 7)) (pe_lst pa_nil) (nomark _)))))
      (pss_one (ps_ret pe_bl)) pss_nil)
    (pss_one (ps_ret (pe_or (pe_cmpR (op_neD hr.units) (pe_lc (own := [("x", 7)]) (g := gName 7) (by rfl) scLawStands.nd (pi_tup (pv 3)) (blkOk_by (N := nLawStands) (sc := defScope sLawStands) (by decide +kernel)) (fun _ _ _ _ _ => pg_name (i := 7) scLawStands.nd rfl (Or.inl rfl)) (fun _ _ _ _ _ => pts_one (pt_cmpR (r := rIn K false) op_in_seq (pv 7) (pv 1) (by rfl))) (fun _ _ _ _ _ => pv 7)) (pe_lst pa_nil) (nomark _))
      (pe_one (pe_cmpR (op_neD hr.units) (pe_lc (own := [("x", 7)]) (g := gName 7) (by rfl) scLawStands.nd (pi_tup (pv 4)) (blkOk_by (N := nLawStands) (sc := defScope sLawStands) (by decide +kernel)) (fun _ _ _ _ _ => pg_name (i := 7) scLawStands.nd rfl (Or.inl rfl)) (fun _ _ _ _ _ => pts_one (pt_cmpR (r := rIn K true) op_notIn_seq (pv 7) (pv 2) (by rfl))) (fun _ _ _ _ _ => pv 7)) (pe_lst pa_nil) (nomark _))))))), ?_⟩
  obtain ⟨b0, v1, v2, v3, v4, rfl, hT, h1, h2, h3, h4⟩ := of_rd hx
  obtain ⟨a1, rfl, t1⟩ := of_wd h1
  obtain ⟨a2, rfl, t2⟩ := of_wd h2
  obtain ⟨a3, rfl, t3⟩ := of_wd h3
  obtain ⟨a4, rfl, t4⟩ := of_wd h4
  obtain ⟨y, rfl, ty⟩ := of_wd hy
  obtain ⟨z, rfl, tz⟩ := of_wd hz
  have f1 := hR.h.few
  have f2 := hR.d.few
  have f3 := hR.n.few
  have f4 := hR.b.few
  refine ⟨.ref b0, rfl, b0, _, rfl, hT, rfl, _, _, rfl, _, _, rfl, _, _, rfl, _, [], rfl, rfl, ?_⟩
  refine filt_ne (neg := true) (i := 5) (j := 1) (x := 7) rfl (by decide) rfl (by show 7 < 8; decide) (.inr ty) t3 (by omega) hR.n.names fun H1 s1 => ⟨_, rfl, ite2 (fun e => ?_) (fun e => ?_)⟩
  · refine iteT ?_
    have z := q H1 s1
    rw [show standsB r h t = true by
      unfold standsB
      rw [show neL (minus r.2.2.1 h) = true from e]
      rfl] at z
    exact z
  refine filt_ne (neg := false) (i := 6) (j := 2) (x := 7) rfl (by decide) rfl (by show 7 < 8; decide) (.inr (same_tup s1 tz)) (same_tup s1 t4) (by omega) hR.b.names fun H2 s2 => ⟨_, rfl, ?_⟩
  have s12 := s1.trans s2
  have e' : neL (minus r.2.2.1 h) = false := Bool.eq_false_iff.mpr e
  refine ite2 (fun e2 => ?_) (fun e2 => ?_)
  · have z := q H2 s12
    rw [show standsB r h t = true by
      unfold standsB
      rw [e', show neL (innW r.2.2.2 t) = true from e2]
      rfl] at z
    exact z
  have e2' : neL (innW r.2.2.2 t) = false := Bool.eq_false_iff.mpr e2
  refine filt_ne (neg := false) (i := 3) (j := 1) (x := 7) rfl (by decide) rfl (by show 7 < 8; decide) (.inr (same_tup s12 ty)) (same_tup s12 t1) (by omega) hR.h.names fun H3 s3 => ⟨_, rfl, ite2 (fun e3 => ?_) (fun e3 => ?_)⟩
  · have z := q H3 (s12.trans s3)
    rw [show standsB r h t = true by
      unfold standsB
      rw [e', e2', show neL (innW r.1 h) = true from e3]
      rfl] at z
    exact z
  have e3' : neL (innW r.1 h) = false := Bool.eq_false_iff.mpr e3
  have s13 := s12.trans s3
  refine filt_ne (neg := true) (i := 4) (j := 2) (x := 7) rfl (by decide) rfl (by show 7 < 8; decide) (.inr (same_tup s13 tz)) (same_tup s13 t2) (by omega) hR.d.names fun H4 s4 => ?_
  have z := q H4 (s13.trans s4)
  rw [show standsB r h t = neL (minus r.2.1 t) by
      unfold standsB
      rw [e', e2', e3']
      rfl] at z
  exact z
end
end Rw
namespace Rw
open PySem PySem.Spec PyProof.Rows L2
/-! ### the order of worlds -/
theorem ltW_nil (a : W) : PySem.W.dataLt (wd a) (wd []) = false := by
  cases a with
  | nil => rw [PySem.W.dataLt]; exact lex_irrefl _
  | cons x a =>
    unfold wd
    rw [PySem.W.dataLt_tuple, List.map_cons, PySem.W.toks_all_cons]
    rfl
theorem ltW_same (x : Str) (a b : W) : PySem.W.dataLt (wd (x :: b)) (wd (x :: a)) = PySem.W.dataLt (wd b) (wd a) := by
  unfold wd
  rw [PySem.W.dataLt_tuple, PySem.W.dataLt_tuple, List.map_cons, List.map_cons, PySem.W.dataLt_cons (by rfl), if_pos]
  rw [PyData.eqv]
  exact decide_eq_true rfl
theorem ltW_less {x y : Str} (h : x.cps.toList < y.cps.toList) (a b : W) : PySem.W.dataLt (wd (y :: b)) (wd (x :: a)) = false := by
  unfold wd
  rw [PySem.W.dataLt_tuple, List.map_cons, List.map_cons, PySem.W.dataLt_cons (by rfl), if_neg, PySem.W.dataLt_str]
  · exact decide_eq_false fun z => List.lt_asymm h z
  · rw [PyData.eqv]
    intro z
    have e : y = x := of_decide_eq_true z
    rw [e] at h
    exact List.lt_irrefl _ h
theorem every_tail : ∀ {own t : W}, t ∈ (everyW own).tail → t ≠ []
  | [], t, h => nomatch h
  | x :: own, t, h => by
    have h : t ∈ (everyW own).map (fun t => x :: t) ++ (everyW own).tail := h
    rcases List.mem_append.mp h with h | h
    · obtain ⟨s, _, rfl⟩ := List.mem_map.mp h
      exact List.cons_ne_nil _ _
    · exact every_tail h
theorem every_rising : ∀ {own : W}, UpX own → Rising ((everyW own).map wd)
  | [], _ => List.pairwise_singleton _ _
  | x :: own, h => by
    obtain ⟨h1, h2⟩ := List.pairwise_cons.mp h
    have ih := every_rising h2
    unfold everyW
    rw [List.map_cons, List.map_append]
    refine List.pairwise_cons.mpr ⟨fun d hd => ?_, List.pairwise_append.mpr ⟨?_, ?_, fun d hd e he => ?_⟩⟩
    · have : ∃ t, d = wd t := by
        rcases List.mem_append.mp hd with hd | hd <;> obtain ⟨t, _, rfl⟩ := List.mem_map.mp hd <;> exact ⟨t, rfl⟩
      obtain ⟨t, rfl⟩ := this
      show (!PySem.W.dataLt (wd t) (wd [])) = true
      rw [ltW_nil]
      rfl
    · rw [List.map_map]
      refine List.pairwise_map.mpr ((List.pairwise_map.mp ih).imp fun {a b} z => ?_)
      show (!PySem.W.dataLt (wd (x :: b)) (wd (x :: a))) = true
      rw [ltW_same]
      exact z
    · rw [List.map_tail]
      exact List.Pairwise.sublist (List.tail_sublist _) ih
    · obtain ⟨s, hs, rfl⟩ := List.mem_map.mp hd
      obtain ⟨a, _, rfl⟩ := List.mem_map.mp hs
      obtain ⟨b, hb, rfl⟩ := List.mem_map.mp he
      cases b with
      | nil => exact absurd rfl (every_tail hb)
      | cons y b =>
        have hy : y ∈ own := (mem_every.mp (every_ne hb)).subset List.mem_cons_self
        show (!PySem.W.dataLt (wd (y :: b)) (wd (x :: a))) = true
        rw [ltW_less (h1 y hy)]
        rfl
theorem every_nodup : ∀ {own : W}, own.Nodup → (everyW own).Nodup
  | [], _ => by simp [everyW]
  | x :: own, h => by
    obtain ⟨h1, h2⟩ := List.nodup_cons.mp h
    have ih := every_nodup h2
    unfold everyW
    refine List.nodup_cons.mpr ⟨fun z => ?_, List.nodup_append.mpr ⟨?_, List.Sublist.nodup (List.tail_sublist _) ih, fun a ha b hb e => ?_⟩⟩
    · rcases List.mem_append.mp z with z | z
      · obtain ⟨s, _, e⟩ := List.mem_map.mp z
        exact absurd e (List.cons_ne_nil _ _)
      · exact every_tail z rfl
    · exact List.Pairwise.map _ (fun a b (hab : a ≠ b) (e : x :: a = x :: b) => hab (List.cons.inj e).2) ih
    · subst e
      obtain ⟨s, _, rfl⟩ := List.mem_map.mp ha
      exact h1 ((mem_every.mp (every_ne hb)).subset List.mem_cons_self)
def RL (K : PySem.W.Frag) (H : Hp) (l : Addr) (S : List Rl) : Prop := ∃ ys, H l = some (.lst ys) ∧ DpAll K H ys (S.map rd)
theorem RL.same {K : PySem.W.Frag} {H H' : Hp} {l : Addr} {S : List Rl} (h : RL K H l S) (e : Same H H') : RL K H' l S := by
  obtain ⟨ys, h1, h2⟩ := h
  exact ⟨ys, e _ _ h1, (Stay.same e).dpAll _ _ (okDs_rd S) h2⟩
/-! ### _law_holds, _law_parts -/
theorem scLawHolds : FnScope ["rows", "here", "there", "row"] ["rows", "here", "there"] (defScope sLawHolds) := ⟨rfl, rfl, rfl, by decide +kernel, rfl, by decide +kernel, by decide +kernel⟩
def holdsB (S : List Rl) (h t : W) : Bool := S.all fun r => standsB r t t && standsB r h t
theorem shaped_rds {S : List Rl} (h : ∀ r ∈ S, IsR r) : SeqAt.shaped (.list (S.map rd)) = true := by
  have all : ∀ {S : List Rl}, (∀ r ∈ S, IsR r) → PyData.canLayAll0 (S.map rd) = true ∧ PyData.depthAll (S.map rd) ≤ 2 := by
    intro S
    induction S with
    | nil => intro _; exact ⟨rfl, Nat.zero_le _⟩
    | cons r S ih =>
      intro h
      obtain ⟨h1, h2⟩ := List.forall_mem_cons.mp h
      obtain ⟨i1, i2⟩ := ih h2
      have d := depth_rd r
      refine ⟨?_, ?_⟩
      · rw [List.map_cons, PyData.canLayAll0, lay_rd h1, i1]
        rfl
      · rw [List.map_cons, PyData.depthAll]
        omega
  obtain ⟨i1, i2⟩ := all h
  refine shaped_of ?_ ?_
  · rw [PyData.canLay0]
    exact i1
  · rw [PyData.depth]
    omega
theorem eqv_nilR (S : List Rl) : PyData.eqv (.list (S.map rd)) (.list []) = decide (S = []) := by
  cases S with
  | nil => decide +kernel
  | cons z zs => rfl
section
variable {P : Program} {w : World} {K : PySem.W.Frag} {mg : Str → Option Value} {base : Heap} {f : Addr} {fd : FuncData} {k : Nat}
def spLawHolds (K : PySem.W.Frag) : Sp := fun vs H Q _ => ∃ (l : Addr) (y z : V) (S : List Rl) (h t : W), vs = [.ref l, y, z] ∧ RL K H l S ∧ (∀ r ∈ S, IsR r) ∧ S.length ≤ 100 ∧ Dp K H y (wd h) ∧ Dp K H z (wd t) ∧ ∀ H', Same H H' → Q (.bl (holdsB S h t)) H'
theorem ok_lawHolds {f1 : Addr} {fd1 : FuncData} (F : Fun K "_law_holds" "_law_holds" sLawHolds f fd) (G1 : FnOk P w K mg base CX0 k f1 fd1 ["row", "here", "there"] (spLawStands K)) (b1 : Binds K fd1 ["row", "here", "there"] []) (k1 : PySem.W.keepIn K (.ref f1) = true) (m1 : mg "_law_stands" = some (.ref f1)) : FnOk P w K mg base CX0 (k + 1) f fd ["rows", "here", "there"] (spLawHolds K) := by
  refine F.ok scLawHolds (fun vs H Q E h => ?_) (fun cdv A outer s H vs Q E hr h => ?_)
  · obtain ⟨l, y, z, S, h, t, rfl, _⟩ := h
    rfl
  obtain ⟨l, y, z, S, h, t, rfl, hL, hI, few, hy, hz, q⟩ := h
  obtain ⟨ys, hl, hys⟩ := id hL
  refine ⟨_, pss_one (ps_ret (pe_cmpR (op_eqD hr.units) (pe_lc (own := [("row", 3)]) (g := gName 3) (by rfl) scLawHolds.nd (pi_list (pv 0)) (blkOk_by (N := ["rows", "here", "there", "row"]) (sc := defScope sLawHolds) (by decide +kernel))
    (fun _ _ _ _ _ => pg_name (i := 3) scLawHolds.nd rfl (Or.inl rfl)) (fun _ _ _ _ _ => pts_one (PW.pt (pw_or (pt_not (pt_val (pe_call G1 hr (by rfl) m1 k1 b1 .nil pass0 (pa_cons (pv 3) (pa_cons (pv 2) (pa_cons (pv 2) pa_nil)))))) (pw_or1 (pt_not (pt_val (pe_call G1 hr (by rfl) m1 k1 b1 .nil pass0 (pa_cons (pv 3) (pa_cons (pv 1) (pa_cons (pv 2) pa_nil)))))))))) (fun _ _ _ _ _ => pv 3)) (pe_lst pa_nil) (nomark _))), ?_⟩
  have yl : ys.length = S.length := by rw [dpAll_len hys, List.length_map]
  let p : Rl → Bool := fun r => !standsB r t t || !standsB r h t
  refine ⟨.ref l, rfl, l, rfl, ⟨_, SqL.of hl⟩, fun D hD => ?_⟩
  refine lc_list (xs := ys) (fun i H1 => Same H H1 ∧ RL K H1 D ((S.take i).filter p)) ⟨same_new hD _, [], upd_same, .nil⟩ (fun i H1 _ hI => SqL.of (hI.1 _ _ hl)) (fun i x H1 hx hI => ?_) (fun H1 hI => ?_)
  · obtain ⟨sm, zs, hd, hzs⟩ := hI
    obtain ⟨dd, hdd, hxd⟩ := dpAll_at' hys hx
    obtain ⟨r, hr0, rfl⟩ := map_at hdd
    have hr' := hI r (List.mem_of_getElem? hr0)
    have hx1 := dp_same sm _ _ hxd
    have fin : ∀ H2, Same H1 H2 → p r = true → ∃ acc, H2 D = some (.lst acc) ∧ acc.length < sizeLine ∧ Same H (upd H2 D (.lst (acc ++ [x]))) ∧ RL K (upd H2 D (.lst (acc ++ [x]))) D ((S.take (i + 1)).filter p) := fun H2 s2 e => by
      have hd2 := s2 _ _ hd
      have m2 : Mut (H2 D) := by
        rw [hd2]
        exact True.intro
      have st := Stay.put m2 (.lst (zs ++ [x]))
      refine ⟨zs, hd2, small_line' ?_, same_put (sm.trans s2) hD, zs ++ [x], upd_same, ?_⟩
      · rw [dpAll_len hzs, List.length_map]
        have := List.length_filter_le p (S.take i)
        rw [List.length_take] at this
        omega
      · rw [filt_take hr0, if_pos e, List.map_append]
        exact dpAll_app (((Stay.same s2).trans st).dpAll _ _ (okDs_rd _) hzs) (.cons (((Stay.same s2).trans st).rd hx1) .nil)
    refine ⟨rfl, x, rfl, z, rfl, z, rfl, x, z, z, r, t, t, rfl, hx1, hr', (Stay.same sm).wd hz, (Stay.same sm).wd hz, fun H2 s2 => ⟨_, rfl, ite2 (fun e => ?_) (fun e => ?_)⟩⟩
    · exact iteT ⟨x, rfl, fin H2 s2 (by show (!standsB r t t || !standsB r h t) = true; rw [e]; rfl)⟩
    have e' : (!standsB r t t) = false := Bool.eq_false_iff.mpr e
    have sm2 := sm.trans s2
    refine ⟨x, rfl, y, rfl, z, rfl, x, y, z, r, h, t, rfl, dp_same s2 _ _ hx1, hr', (Stay.same sm2).wd hy, (Stay.same sm2).wd hz, fun H3 s3 => ⟨_, rfl, ?_⟩⟩
    have pe : p r = !standsB r h t := by
      show (!standsB r t t || !standsB r h t) = _
      rw [e', Bool.false_or]
    cases e3 : standsB r h t with
    | false => exact iteT ⟨x, rfl, fin H3 (s2.trans s3) (by rw [pe, e3]; rfl)⟩
    | true =>
      refine iteF ⟨sm2.trans s3, ?_⟩
      rw [filt_take hr0, if_neg (by rw [pe, e3]; exact Bool.false_ne_true), List.append_nil]
      exact RL.same ⟨zs, hd, hzs⟩ (s2.trans s3)
  · obtain ⟨sm, zs, hd, hzs⟩ := hI
    rw [yl, List.take_length] at hzs
    refine ⟨by show 0 ≤ sizeLine; decide, fun e he => ?_⟩
    have s2 := same_new he (.lst [])
    refine ⟨.list ((S.filter p).map rd), .list [], .lst (SqL.of (s2 _ _ hd)) ((Stay.same s2).dpAll _ _ (okDs_rd _) hzs), .lst (SqL.of upd_same) .nil, shaped_rds fun r hr => hI r (List.mem_filter.mp hr).1, by decide, ?_⟩
    rw [eqv_nilR]
    have ep : decide (S.filter p = []) = holdsB S h t := by
      unfold holdsB
      rw [Bool.eq_iff_iff, decide_eq_true_iff, List.filter_eq_nil_iff, List.all_eq_true]
      refine ⟨fun z r hr => ?_, fun z r hr => ?_⟩
      · have := z r hr
        show (standsB r t t && standsB r h t) = true
        have e : ¬ (!standsB r t t || !standsB r h t) = true := this
        revert e
        cases standsB r t t <;> cases standsB r h t <;> simp
      · have e : (standsB r t t && standsB r h t) = true := z r hr
        show ¬ (!standsB r t t || !standsB r h t) = true
        revert e
        cases standsB r t t <;> cases standsB r h t <;> simp
    rw [ep]
    exact q _ (sm.trans s2)
def spLawPartsE (K : PySem.W.Frag) : Sp := fun vs H Q _ => ∃ (x : V) (ns : W), vs = [x] ∧ Dp K H x (wd ns) ∧ ns.length ≤ 5 ∧ IsW ns ∧ ∀ H' p, Same H H' → H p = none → WLs K H' p (everyW ns) → Q (.ref p) H'
theorem ok_lawPartsE (F : Fun K "_law_parts" "_law_parts" sLawParts f fd) (T : Bl mg) : FnOk P w K mg base CX0 (k + 1) f fd ["pool"] (spLawPartsE K) := by
  refine F.ok scLawParts (fun vs H Q E h => ?_) (fun cdv A outer s H vs Q E hr h => ?_)
  · obtain ⟨x, ns, rfl, _⟩ := h
    rfl
  obtain ⟨x, ns, rfl, hx, few, hns, q⟩ := h
  obtain ⟨a, rfl, hS⟩ := of_wd hx
  refine ⟨_, pss_cons (ps_set (i := 1) scLawParts.nd rfl (.inl rfl) (pe_lst (pa_cons (pe_tup pa_nil) pa_nil)))
    (pss_cons (ps_for PassesOwn.never rfl (pi_tup (pv 0)) (pg_name (i := 2) scLawParts.nd rfl (.inr rfl))
      (pss_one (ps_set (i := 1) scLawParts.nd rfl (.inl rfl) (pe_op op_cat (pv 1) (pe_lc (own := [("part", 3)]) (g := gName 3) (te := tOp (rCatA K) (tVar 3) (tTup (tCons (tVar 2) tNil))) (by rfl) scLawParts.nd (pi_list (pv 1)) (blkOk_by (N := ["pool", "found", "x", "part"]) (sc := defScope sLawParts) (by decide +kernel))
        (fun _ _ _ _ _ => pg_name (i := 3) scLawParts.nd rfl (Or.inl rfl)) (fun _ _ _ _ _ => pts_nil) (fun _ _ _ _ _ => pe_op op_catA (pv 3) (pe_tup (pa_cons (pv 2) pa_nil))))))))
    (pss_one (ps_ret (pe_callB (cr_sortL hr.units) (by rfl) T.sorted (by decide +kernel) (pa_cons (pv 1) pa_nil))))), ?_⟩
  refine ⟨by show 0 ≤ sizeLine; decide, fun t0 ht0 => ⟨by show 1 ≤ sizeLine; decide, fun l0 hl0 => ?_⟩⟩
  have s0 : Same H (upd (upd H t0 (.tup [])) l0 (.lst [.ref t0])) := (same_new ht0 _).trans (same_new hl0 _)
  refine ⟨.ref a, rfl, a, rfl, ⟨_, same_tup s0 hS⟩, for_tup (xs := ns.map V.str) (fun i σ H1 => ∃ l y2 y3, σ = [some (.ref a), some (.ref l), y2, y3] ∧ Same H H1 ∧ ∃ ys, H1 l = some (.lst ys) ∧ DpAll K H1 ys ((subs (ns.take i)).map wd))
    ⟨l0, none, none, rfl, s0, _, upd_same, ?_⟩ (fun i σ H1 _ hI => by obtain ⟨_, _, _, _, sm, _⟩ := hI; exact same_tup sm hS) (fun i x σ H1 hxi hI => ?_) (fun σ H1 hI => ?_)⟩
  · refine .cons (.tup (SqT.of (xs := []) ?_) .nil) .nil
    exact (same_new hl0 _) _ _ upd_same
  · obtain ⟨l, y2, y3, rfl, sm, ys, hl, hys⟩ := hI
    obtain ⟨z, hz, rfl⟩ := map_at hxi
    have il : i < ns.length := (List.getElem?_eq_some_iff.mp hz).1
    have yl : ys.length = (subs (ns.take i)).length := by rw [dpAll_len hys, List.length_map]
    have yl' : ys.length ≤ 32 := by
      rw [yl, subs_len, List.length_take]
      exact Nat.le_trans (Nat.pow_le_pow_right (by decide) (show min i ns.length ≤ 5 by omega)) (by decide)
    refine ⟨.ref l, rfl, .ref l, rfl, l, rfl, ⟨_, SqL.of hl⟩, fun D hD => ?_⟩
    refine lc_list (xs := ys) (fun j H2 => Same H1 H2 ∧ ∃ zs, H2 D = some (.lst zs) ∧ DpAll K H2 zs ((((subs (ns.take i)).take j).map fun t => t ++ [z]).map wd)) ⟨same_new hD _, [], upd_same, by rw [List.take_zero]; exact .nil⟩ (fun j H2 _ hI => SqL.of (hI.1 _ _ hl)) (fun j u H2 hu hI => ?_) (fun H2 hI => ?_)
    · obtain ⟨sm2, zs, hdz, hzs⟩ := hI
      obtain ⟨du, hdu, hud⟩ := dpAll_at' hys hu
      obtain ⟨t, ht, rfl⟩ := map_at hdu
      obtain ⟨c, rfl, hc⟩ := of_wd ((Stay.same sm2).wd hud)
      have jl : j < (subs (ns.take i)).length := (List.getElem?_eq_some_iff.mp ht).1
      have fin : ∀ v H4, Same H2 H4 → SqT K H4 v ((t ++ [z]).map V.str) → ∃ acc, H4 D = some (.lst acc) ∧ acc.length < sizeLine ∧ (Same H1 (upd H4 D (.lst (acc ++ [.ref v]))) ∧ ∃ zs, (upd H4 D (.lst (acc ++ [.ref v]))) D = some (.lst zs) ∧ DpAll K (upd H4 D (.lst (acc ++ [.ref v]))) zs ((((subs (ns.take i)).take (j + 1)).map fun t => t ++ [z]).map wd)) := by
        intro v H4 s4 hv
        have hd4 := s4 _ _ hdz
        have st : Stay H4 (upd H4 D (.lst (zs ++ [.ref v]))) := .put (by rw [hd4]; exact True.intro) _
        refine ⟨zs, hd4, small_line' ?_, same_put (sm2.trans s4) hD, _, upd_same, ?_⟩
        · rw [dpAll_len hzs, List.length_map, List.length_map, List.length_take]
          omega
        · rw [take_snoc ht, List.map_append, List.map_append]
          exact dpAll_app (((Stay.same s4).trans st).dpAll _ _ (okDs_wds _) hzs) (.cons (st.wd (to_wd hv)) .nil)
      refine ⟨rfl, .ref c, rfl, .str z, rfl, by show 1 ≤ sizeLine; decide, fun e he => ?_⟩
      have se := same_new he (.tup [.str z])
      refine ⟨c, e, t.map V.str, [.str z], rfl, rfl, same_tup se hc, SqT.of upd_same, ?_, fun e0 => ?_, fun _ e1 => (nomatch e1), fun _ _ p hp => ?_⟩
      · have tl : t.length ≤ 5 := Nat.le_trans (mem_subs.mp (List.mem_of_getElem? ht)).length_le (by rw [List.length_take]; omega)
        rw [List.length_map]
        exact small_line (by show t.length + 1 ≤ 10000; omega)
      · have t0 : t = [] := List.map_eq_nil_iff.mp e0
        subst t0
        exact fin e _ se (SqT.of upd_same)
      · refine fin p _ (se.trans (same_new hp _)) (SqT.of ?_)
        rw [List.map_append]
        exact upd_same
    · obtain ⟨sm2, zs, hdz, hzs⟩ := hI
      rw [yl, List.take_length] at hzs
      have hl2 := sm2 _ _ hl
      have zl : zs.length = (subs (ns.take i)).length := by rw [dpAll_len hzs, List.length_map, List.length_map]
      refine ⟨l, D, ys, zs, rfl, rfl, hl2, hdz, small_line (by omega), fun p hp => ?_⟩
      have sp := same_new hp (.lst (ys ++ zs))
      refine ⟨p, _, _, rfl, sm.trans (sm2.trans sp), _, upd_same, ?_⟩
      rw [take_snoc hz, subs_snoc, List.map_append]
      exact dpAll_app ((Stay.same (sm2.trans sp)).dpAll _ _ (okDs_wds _) hys) ((Stay.same sp).dpAll _ _ (okDs_wds _) hzs)
  · obtain ⟨l, y2, y3, rfl, sm, ys, hl, hys⟩ := hI
    rw [List.length_map, List.take_length] at hys
    refine ⟨.ref l, rfl, l, ys, (subs ns).map wd, rfl, SqL.of hl, hys, (fun d hd => by obtain ⟨t, _, rfl⟩ := List.mem_map.mp hd; exact good_wd t), ?_, fun zs es p perm ris hzs hp => ?_⟩
    · intro d hd d' hd'
      obtain ⟨t, _, rfl⟩ := List.mem_map.mp hd
      obtain ⟨t', _, rfl⟩ := List.mem_map.mp hd'
      exact alike_wd t t'
    · obtain ⟨S, rfl⟩ := all_wd (ds := es) fun d hd => by
        obtain ⟨t, _, rfl⟩ := List.mem_map.mp (perm.mem_iff.mp hd)
        exact ⟨t, rfl⟩
      have sp := same_new hp (.lst zs)
      have pm : S.Perm (subs ns) := perm_of_map (fun _ _ e => wd_inj e) perm
      have nodS : S.Nodup := pm.nodup_iff.mpr (subs_nodup (upX_nodup hns.up))
      have eS : S = everyW ns := worlds_one ris (every_rising hns.up) nodS (every_nodup (upX_nodup hns.up)) fun t => by rw [pm.mem_iff, mem_subs, mem_every]
      subst eS
      exact q _ p (sm.trans sp) (none_back sm hp) ⟨zs, upd_same, (Stay.same sp).dpAll _ _ (okDs_wds _) hzs⟩
end
end Rw
namespace Rw
open PySem PySem.Spec PyProof.Rows L2
/-! ### _law_pairs -/
abbrev nLawPairs : List Str := ["rows", "pool", "found", "there", "here"]
theorem scLawPairs : FnScope nLawPairs ["rows", "pool"] (defScope sLawPairs) := ⟨rfl, rfl, rfl, by decide +kernel, rfl, by decide +kernel, by decide +kernel⟩
def PLs (K : PySem.W.Frag) (H : Hp) (l : Addr) (R : List Pr) : Prop := ∃ ys, H l = some (.lst ys) ∧ DpAll K H ys (R.map pd)
theorem okDs_pds (R : List Pr) : okDs (R.map pd) = true := okDs_all fun d hd => by
  obtain ⟨n, _, rfl⟩ := List.mem_map.mp hd
  exact ok_pd n
theorem PLs.same {K : PySem.W.Frag} {H H' : Hp} {l : Addr} {R : List Pr} (h : PLs K H l R) (e : Same H H') : PLs K H' l R := by
  obtain ⟨ys, h1, h2⟩ := h
  exact ⟨ys, e _ _ h1, (Stay.same e).dpAll _ _ (okDs_pds R) h2⟩
def pairsT (S : List Rl) (t : W) : List Pr := if holdsB S t t = true then ((everyW t).filter fun h => holdsB S h t).map fun h => (h, t) else []
def pairsL (S : List Rl) (ts : List W) : List Pr := ts.flatMap (pairsT S)
theorem pairs_take {S : List Rl} {ts : List W} {i : Nat} {t : W} (h : ts[i]? = some t) : pairsL S (ts.take (i + 1)) = pairsL S (ts.take i) ++ pairsT S t := by
  unfold pairsL
  rw [take_snoc h, List.flatMap_append, List.flatMap_cons, List.flatMap_nil, List.append_nil]
theorem pairsT_len {S : List Rl} {t : W} (h : t.length ≤ 5) : (pairsT S t).length ≤ 32 := by
  unfold pairsT
  split
  · rw [List.length_map]
    have := List.length_filter_le (fun h => holdsB S h t) (everyW t)
    have e : 2 ^ t.length ≤ 2 ^ 5 := Nat.pow_le_pow_right (by decide) h
    rw [every_len] at this
    omega
  · exact Nat.zero_le _
theorem pairsL_len {S : List Rl} : ∀ {ts : List W}, (∀ t ∈ ts, t.length ≤ 5) → (pairsL S ts).length ≤ 32 * ts.length
  | [], _ => Nat.zero_le _
  | t :: ts, h => by
    have a := pairsT_len (S := S) (h t List.mem_cons_self)
    have b := pairsL_len (S := S) fun x hx => h x (List.mem_cons_of_mem _ hx)
    unfold pairsL at b ⊢
    rw [List.flatMap_cons, List.length_append, List.length_cons]
    omega
theorem mem_pairsT {S : List Rl} {t : W} {q : Pr} : q ∈ pairsT S t ↔ q.2 = t ∧ q.1 ∈ everyW t ∧ holdsB S t t = true ∧ holdsB S q.1 t = true := by
  unfold pairsT
  by_cases e : holdsB S t t = true
  · rw [if_pos e, List.mem_map]
    constructor
    · rintro ⟨h, hh, rfl⟩
      obtain ⟨a, b⟩ := List.mem_filter.mp hh
      exact ⟨rfl, a, e, b⟩
    · rintro ⟨a, b, _, c⟩
      obtain ⟨q1, q2⟩ := q
      subst a
      exact ⟨q1, List.mem_filter.mpr ⟨b, c⟩, rfl⟩
  · rw [if_neg e]
    exact ⟨(fun z => nomatch z), fun z => absurd z.2.2.1 e⟩
theorem mem_pairsL {S : List Rl} {ts : List W} {q : Pr} : q ∈ pairsL S ts ↔ q.2 ∈ ts ∧ q.1 ∈ everyW q.2 ∧ holdsB S q.2 q.2 = true ∧ holdsB S q.1 q.2 = true := by
  unfold pairsL
  rw [List.mem_flatMap]
  constructor
  · rintro ⟨t, ht, h⟩
    obtain ⟨rfl, h⟩ := mem_pairsT.mp h
    exact ⟨ht, h⟩
  · rintro ⟨ht, h⟩
    exact ⟨q.2, ht, mem_pairsT.mpr ⟨rfl, h⟩⟩
theorem pairsL_nodup {S : List Rl} : ∀ {ts : List W}, (∀ t ∈ ts, t.Nodup) → ts.Nodup → (pairsL S ts).Nodup
  | [], _, _ => List.nodup_nil
  | t :: ts, h, nd => by
    obtain ⟨n1, n2⟩ := List.nodup_cons.mp nd
    have ih := pairsL_nodup (S := S) (fun x hx => h x (List.mem_cons_of_mem _ hx)) n2
    unfold pairsL at ih ⊢
    rw [List.flatMap_cons]
    refine List.nodup_append.mpr ⟨?_, ih, fun a ha b hb e => ?_⟩
    · unfold pairsT
      split
      · exact List.Pairwise.map _ (fun a b (hab : a ≠ b) (e : (a, t) = (b, t)) => hab (Prod.mk.inj e).1) (List.Pairwise.sublist List.filter_sublist (every_nodup (h t List.mem_cons_self)))
      · exact List.nodup_nil
    · subst e
      have e1 := (mem_pairsT.mp ha).1
      have e2 := (mem_pairsL (S := S) (ts := ts)).mp hb
      exact n1 (e1 ▸ e2.1)
section
variable {P : Program} {w : World} {K : PySem.W.Frag} {mg : Str → Option Value} {base : Heap} {f : Addr} {fd : FuncData} {k : Nat}
def spLawPairs (K : PySem.W.Frag) : Sp := fun vs H Q _ => ∃ (l : Addr) (x : V) (S : List Rl) (ns : W), vs = [.ref l, x] ∧ RL K H l S ∧ (∀ r ∈ S, IsR r) ∧ S.length ≤ 100 ∧ Dp K H x (wd ns) ∧ IsW ns ∧ ns.length ≤ 5 ∧
  ∀ H' p R, Same H H' → H p = none → PLs K H' p R → Rising (R.map pd) → R.Perm (pairsL S (everyW ns)) → Q (.ref p) H'
theorem ok_lawPairs {f1 f2 : Addr} {fd1 fd2 : FuncData} (F : Fun K "_law_pairs" "_law_pairs" sLawPairs f fd) (T : Bl mg)
    (G1 : FnOk P w K mg base CX0 k f1 fd1 ["pool"] (spLawPartsE K)) (b1 : Binds K fd1 ["pool"] []) (k1 : PySem.W.keepIn K (.ref f1) = true) (m1 : mg "_law_parts" = some (.ref f1))
    (G2 : FnOk P w K mg base CX0 k f2 fd2 ["rows", "here", "there"] (spLawHolds K)) (b2 : Binds K fd2 ["rows", "here", "there"] []) (k2 : PySem.W.keepIn K (.ref f2) = true) (m2 : mg "_law_holds" = some (.ref f2)) : FnOk P w K mg base CX0 (k + 1) f fd ["rows", "pool"] (spLawPairs K) := by
  refine F.ok scLawPairs (fun vs H Q E h => ?_) (fun cdv A outer s H vs Q E hr h => ?_)
  · obtain ⟨l, x, S, ns, rfl, _⟩ := h
    rfl
  obtain ⟨l, x, S, ns, rfl, hL, hI, few, hx, hns, n5, q⟩ := h
  refine ⟨_, pss_cons (ps_set (i := 2) scLawPairs.nd rfl (.inl rfl) (pe_lst pa_nil))
    (pss_cons (ps_for PassesOwn.never rfl (pi_list (pe_call G1 hr (by rfl) m1 k1 b1 .nil pass0 (pa_cons (pv 1) pa_nil))) (pg_name (i := 3) scLawPairs.nd rfl (.inr rfl))
      (pss_one (ps_if (pt_val (pe_call G2 hr (by rfl) m2 k2 b2 .nil pass0 (pa_cons (pv 0) (pa_cons (pv 3) (pa_cons (pv 3) pa_nil)))))
        (pss_one (ps_set (i := 2) scLawPairs.nd rfl (.inl rfl) (pe_op op_cat (pv 2) (pe_lc (own := [("here", 4)]) (g := gName 4) (te := tTup (tCons (tVar 4) (tCons (tVar 3) tNil))) (by rfl) scLawPairs.nd (pi_list (pe_call G1 hr (by rfl) m1 k1 b1 .nil pass0 (pa_cons (pv 3) pa_nil))) (blkOk_by (N := nLawPairs) (sc := defScope sLawPairs) (by decide +kernel))
          (fun _ _ _ _ _ => pg_name (i := 4) scLawPairs.nd rfl (Or.inl rfl)) (fun _ _ _ _ _ => pts_one (pt_val (pe_call G2 hr (by rfl) m2 k2 b2 .nil pass0 (pa_cons (pv 0) (pa_cons (pv 4) (pa_cons (pv 3) pa_nil)))))) (fun _ _ _ _ _ => pe_tup (pa_cons (pv 4) (pa_cons (pv 3) pa_nil))))))) pss_nil)))
    (pss_one (ps_ret (pe_callB (cr_sortL hr.units) (by rfl) T.sorted (by decide +kernel) (pa_cons (pv 2) pa_nil))))), ?_⟩
  refine ⟨by show 0 ≤ sizeLine; decide, fun d hd0 => ?_⟩
  have s0 := same_new hd0 (.lst [])
  refine ⟨x, rfl, x, ns, rfl, (Stay.same s0).wd hx, n5, hns, fun H1 e s1 he hW => ?_⟩
  have s01 := s0.trans s1
  obtain ⟨ys, hy, hys⟩ := id hW
  have yl : ys.length = (everyW ns).length := by rw [dpAll_len hys, List.length_map]
  have el : (everyW ns).length ≤ 32 := by
    rw [every_len]
    exact Nat.pow_le_pow_right (n := 2) (by decide) n5
  have sub5 : ∀ t ∈ everyW ns, t.Sublist ns := fun t ht => mem_every.mp ht
  refine ⟨e, rfl, ⟨_, SqL.of hy⟩, ?_⟩
  refine for_list (xs := ys) (fun i σ H2 => (∃ d2 y3, σ = [some (.ref l), some x, some (.ref d2), y3, none] ∧ PLs K H2 d2 (pairsL S ((everyW ns).take i))) ∧ Same H1 H2) ⟨⟨d, _, rfl, [], s1 _ _ upd_same, .nil⟩, fun _ _ e => e⟩ (fun i σ H2 _ hI2 => SqL.of (hI2.2 _ _ hy)) (fun i y σ H2 hyi hI2 => ?_) (fun σ H2 hI2 => ?_)
  · obtain ⟨⟨d2, y3, rfl, hP⟩, sm⟩ := hI2
    obtain ⟨de, hde, hyd⟩ := dpAll_at' hys hyi
    obtain ⟨t, ht, rfl⟩ := map_at hde
    have hyd2 := (Stay.same sm).wd hyd
    have tin := List.mem_of_getElem? ht
    have tsub := sub5 t tin
    have hts : IsW t := isW_sl hns tsub
    have tl := tsub.length_le
    have s12 := s01.trans sm
    have il : i < (everyW ns).length := (List.getElem?_eq_some_iff.mp ht).1
    refine ⟨.ref l, rfl, y, rfl, y, rfl, l, y, y, S, t, t, rfl, hL.same s12, hI, few, hyd2, hyd2, fun H3 s3 => ⟨_, rfl, ite2 (fun e1 => ?_) (fun e1 => ?_)⟩⟩
    · refine ⟨.ref d2, rfl, y, rfl, y, t, rfl, (Stay.same s3).wd hyd2, by omega, hts, fun H4 g s4 hg hW4 => ?_⟩
      obtain ⟨zs, hz, hzs⟩ := id hW4
      have zl : zs.length = (everyW t).length := by rw [dpAll_len hzs, List.length_map]
      have elt : (everyW t).length ≤ 32 := by
        rw [every_len]
        exact Nat.pow_le_pow_right (n := 2) (by decide) (show t.length ≤ 5 by omega)
      have s34 := s3.trans s4
      refine ⟨g, rfl, ⟨_, SqL.of hz⟩, fun D hD => ?_⟩
      refine lc_list (xs := zs) (fun j H5 => Same H4 H5 ∧ PLs K H5 D ((((everyW t).take j).filter fun h => holdsB S h t).map fun h => (h, t))) ⟨same_new hD _, [], upd_same, .nil⟩ (fun j H5 _ h => SqL.of (h.1 _ _ hz)) (fun j u H5 hu h => ?_) (fun H5 h => ?_)
      · obtain ⟨s5, us, hd5, hus⟩ := h
        obtain ⟨df, hdf, hud⟩ := dpAll_at' hzs hu
        obtain ⟨h, hh, rfl⟩ := map_at hdf
        have hud5 := (Stay.same s5).wd hud
        have hyd5 := (Stay.same (s34.trans s5)).wd hyd2
        refine ⟨rfl, .ref l, rfl, u, rfl, y, rfl, l, u, y, S, h, t, rfl, hL.same (s12.trans (s34.trans s5)), hI, few, hud5, hyd5, fun H6 s6 => ⟨_, rfl, ite2 (fun e2 => ?_) (fun e2 => ?_)⟩⟩
        · refine ⟨u, rfl, y, rfl, by show 2 ≤ sizeLine; decide, fun v hv => ?_⟩
          have s7 := same_new hv (.tup [u, y])
          have s67 := s6.trans s7
          have hd7 := s67 _ _ hd5
          have m7 : Mut ((upd H6 v (.tup [u, y])) D) := by
            rw [hd7]
            exact True.intro
          have st := Stay.put m7 (.lst (us ++ [.ref v]))
          refine ⟨us, hd7, small_line' ?_, same_put (s5.trans s67) hD, us ++ [.ref v], upd_same, ?_⟩
          · rw [dpAll_len hus, List.length_map, List.length_map]
            have := List.length_filter_le (fun h => holdsB S h t) ((everyW t).take j)
            rw [List.length_take] at this
            omega
          · rw [filt_take hh, if_pos e2, List.map_append, List.map_append]
            refine dps_app12 (.cons (to_pd (p := (h, t)) (st.seq (SqT.of upd_same)) (((Stay.same s67).trans st).wd hud5) (((Stay.same s67).trans st).wd hyd5)) .nil) (((Stay.same s67).trans st).dpAll _ _ (okDs_pds _) hus)
        · refine ⟨s5.trans s6, ?_⟩
          rw [filt_take hh, if_neg e2, List.append_nil]
          exact PLs.same ⟨us, hd5, hus⟩ s6
      · obtain ⟨s5, us, hd5, hus⟩ := h
        rw [zl, List.take_length] at hus
        obtain ⟨ps, hd2, hps⟩ := hP
        have s35 := s34.trans s5
        have pl : ps.length ≤ 32 * i := by
          rw [dpAll_len hps, List.length_map]
          have := pairsL_len (S := S) (ts := (everyW ns).take i) fun t h => Nat.le_trans (sub5 t (List.mem_of_mem_take h)).length_le n5
          rw [List.length_take] at this
          omega
        have ul : us.length ≤ 32 := by
          rw [dpAll_len hus, List.length_map, List.length_map]
          have := List.length_filter_le (fun h => holdsB S h t) (everyW t)
          omega
        refine ⟨d2, D, ps, us, rfl, rfl, s35 _ _ hd2, hd5, small_line (by omega), fun p hp => ?_⟩
        have s6 := same_new hp (.lst (ps ++ us))
        refine ⟨⟨p, _, rfl, ps ++ us, upd_same, ?_⟩, sm.trans (s35.trans s6)⟩
        rw [pairs_take ht, List.map_append]
        have e3 : pairsT S t = ((everyW t).filter fun h => holdsB S h t).map fun h => (h, t) := by
          unfold pairsT
          rw [if_pos e1]
        rw [e3]
        exact dps_app12 ((Stay.same s6).dpAll _ _ (okDs_pds _) hus) ((Stay.same (s35.trans s6)).dpAll _ _ (okDs_pds _) hps)
    · refine ⟨⟨d2, _, rfl, ?_⟩, sm.trans s3⟩
      rw [pairs_take ht]
      have e3 : pairsT S t = [] := by
        unfold pairsT
        rw [if_neg e1]
      rw [e3, List.append_nil]
      exact hP.same s3
  · obtain ⟨⟨d2, y3, rfl, ps, hd2, hps⟩, sm⟩ := hI2
    rw [yl, List.take_length] at hps
    refine ⟨.ref d2, rfl, d2, ps, (pairsL S (everyW ns)).map pd, rfl, SqL.of hd2, hps, (fun d hd => by obtain ⟨t, _, rfl⟩ := List.mem_map.mp hd; exact good_pd t), ?_, fun zs es p perm ris hzs hp => ?_⟩
    · intro d hd d' hd'
      obtain ⟨t, _, rfl⟩ := List.mem_map.mp hd
      obtain ⟨t', _, rfl⟩ := List.mem_map.mp hd'
      exact alike_pd t t'
    · obtain ⟨R, rfl⟩ := all_pd (ds := es) fun d hd => by
        obtain ⟨t, _, rfl⟩ := List.mem_map.mp (perm.mem_iff.mp hd)
        exact ⟨t, rfl⟩
      have sp := same_new hp (.lst zs)
      have all := s01.trans (sm.trans sp)
      exact q _ p R all (none_back (s01.trans sm) hp) ⟨zs, upd_same, (Stay.same sp).dpAll _ _ (okDs_pds _) hzs⟩ ris (perm_of_map (fun _ _ e => pd_inj e) perm)
end
end Rw
namespace Rw
open PySem PySem.Spec PyProof.Rows L2
/-! ### the made program holds in its pairs and in no others -/
theorem sub_all {a b : W} : sub a b = true ↔ ∀ z ∈ a, z ∈ b := by
  unfold sub
  rw [List.all_eq_true]
  exact ⟨fun h z hz => of_decide_eq_true (h z hz), fun h z hz => decide_eq_true (h z hz)⟩
theorem in_minus {a b : W} {z : Str} : z ∈ minus a b ↔ z ∈ a ∧ z ∉ b := by
  unfold minus
  rw [List.mem_filter]
  simp
theorem in_innW {a b : W} {z : Str} : z ∈ innW a b ↔ z ∈ a ∧ z ∈ b := by
  unfold innW
  rw [List.mem_filter]
  simp
theorem neL_ex {zs : W} : neL zs = true ↔ ∃ z, z ∈ zs := by
  unfold neL
  cases zs with
  | nil => simp
  | cons x zs => simp
theorem stands_iff {r : Rl} {h t : W} : standsB r h t = true ↔ (∃ z ∈ r.2.2.1, z ∉ h) ∨ (∃ z ∈ r.2.2.2, z ∈ t) ∨ (∃ z ∈ r.1, z ∈ h) ∨ ∃ z ∈ r.2.1, z ∉ t := by
  unfold standsB
  rw [Bool.or_eq_true, Bool.or_eq_true, Bool.or_eq_true, neL_ex, neL_ex, neL_ex, neL_ex]
  simp only [in_minus, in_innW, or_assoc]
theorem lows_iff {R : List Pr} {t h : W} : h ∈ lows R t ↔ (h, t) ∈ R := by
  refine ⟨lows_mem, fun hm => ?_⟩
  unfold lows
  exact List.mem_map.mpr ⟨(h, t), List.mem_filter.mpr ⟨hm, decide_eq_true rfl⟩, rfl⟩
theorem why_none {R : List Pr} {z : Str} (h : whyO R z = none) : (∀ p ∈ R, (p.2, p.2) ∈ R) ∧ (z ≠ anyS → ∀ p ∈ R, ∀ u, (u, u) ∈ R → sub p.2 u = true → (p.1, u) ∈ R) ∧ (z = singleS → ∀ p ∈ R, ∀ o, (o, p.2) ∈ R → (meet p.1 o, p.2) ∈ R) := by
  unfold whyO at h
  cases e1 : totO R with
  | some d => rw [e1] at h; exact nomatch h
  | none =>
    rw [e1] at h
    refine ⟨fun p hp => ?_, fun hz p hp u hu su => ?_, fun hz p hp o ho => ?_⟩
    · have z := List.findSome?_eq_none_iff.mp e1 p hp
      unfold totIn at z
      refine Classical.byContradiction fun c => ?_
      simp [c] at z
    · rw [if_neg hz] at h
      cases e2 : upO R with
      | some d => rw [e2] at h; exact nomatch h
      | none =>
        have z := List.findSome?_eq_none_iff.mp (List.findSome?_eq_none_iff.mp e2 p hp) u (tops_mem.mpr hu)
        unfold upIn at z
        refine Classical.byContradiction fun c => ?_
        rw [if_pos ⟨su, c⟩] at z
        exact nomatch z
    · rw [if_pos hz] at h
      have e3 : meO R = none := by
        cases e : or2 none (if z = anyS then none else upO R) with
        | some d => rw [e] at h; exact nomatch h
        | none => rw [e] at h; exact h
      have z := List.findSome?_eq_none_iff.mp (List.findSome?_eq_none_iff.mp e3 p hp) o (lows_iff.mpr ho)
      unfold meIn at z
      refine Classical.byContradiction fun c => ?_
      rw [if_neg c] at z
      exact nomatch z
theorem least_in {R : List Pr} {g u : W} (mt : ∀ a b, (a, u) ∈ R → (b, u) ∈ R → (meet a b, u) ∈ R) : ∀ {ls : List W} {acc : W}, (∀ t ∈ ls, (t, u) ∈ R) → (acc, u) ∈ R → (leastA g acc ls, u) ∈ R
  | [], acc, _, ha => ha
  | t :: ls, acc, h, ha => by
    have ih := fun acc => least_in (g := g) mt (ls := ls) (acc := acc) fun x hx => h x (List.mem_cons_of_mem _ hx)
    show (leastA g (if sub g t = true then meet acc t else acc) ls, u) ∈ R
    by_cases c : sub g t = true
    · rw [if_pos c]
      exact ih _ (mt _ _ ha (h t List.mem_cons_self))
    · rw [if_neg c]
      exact ih _ ha
theorem w_one {a b : W} (ha : IsW a) (hb : IsW b) (h1 : ∀ z ∈ a, z ∈ b) (h2 : ∀ z ∈ b, z ∈ a) : a = b := upX_one ha.up hb.up fun z => ⟨h1 z, h2 z⟩
theorem heads_any {h t : W} {ls : List W} : headsA anyS h t ls = minus t h := by
  unfold headsA
  rw [if_neg (by decide)]
theorem made_stands {pool : W} {R : List Pr} {z : Str} (hp : IsW pool) (hR : ∀ p ∈ R, IsP pool p) (hy : whyO R z = none) {p : Pr} (hpR : p ∈ R) {r : Rl} (hr : r ∈ madeL pool R z) : standsB r p.1 p.2 = true := by
  obtain ⟨tot, upw, mee⟩ := why_none hy
  obtain ⟨h, t⟩ := p
  have ip := hR _ hpR
  have wh : IsW h := ip.w1
  have wt : IsW t := ip.w2
  have ht : ∀ x ∈ h, x ∈ t := sub_all.mp ip.le
  have tp : ∀ x ∈ t, x ∈ pool := sub_all.mp ip.up
  show standsB r h t = true
  obtain ⟨u, hu, hr⟩ := List.mem_flatMap.mp hr
  have us := mem_every.mp hu
  have wu : IsW u := isW_sl hp us
  refine Classical.byContradiction fun no => ?_
  rw [stands_iff] at no
  obtain ⟨n1, no⟩ := not_or.mp no
  obtain ⟨n2, no⟩ := not_or.mp no
  obtain ⟨n3, n4⟩ := not_or.mp no
  unfold rowsAt at hr
  by_cases c : u ∈ R.map (·.2)
  · rw [if_pos c] at hr
    obtain ⟨g, hg, rfl⟩ := List.mem_map.mp hr
    obtain ⟨g1, g2⟩ := List.mem_filter.mp hg
    have gs := mem_every.mp g1
    have wg : IsW g := isW_sl wu gs
    have gn : (g, u) ∉ R := fun q => by
      have := lows_iff.mpr q
      rw [decide_eq_true this] at g2
      exact nomatch g2
    have uu : (u, u) ∈ R := by
      obtain ⟨q, hq, e⟩ := List.mem_map.mp c
      have := tot q hq
      have e : q.2 = u := e
      rw [e] at this
      exact this
    have gh : ∀ x ∈ g, x ∈ h := fun x hx => Classical.byContradiction fun q => n1 ⟨x, hx, q⟩
    have tu : ∀ x ∈ t, x ∈ u := fun x hx => Classical.byContradiction fun q => n2 ⟨x, in_minus.mpr ⟨tp x hx, q⟩, hx⟩
    by_cases cz : z = singleS
    · have up := upw (by rw [cz]; decide) _ hpR u uu (sub_all.mpr tu)
      have li : (leastA g u (lows R u), u) ∈ R := least_in (fun a b ha hb => mee cz (a, u) ha b hb) (fun t ht => lows_mem ht) uu
      have lg : ∀ x ∈ g, x ∈ leastA g u (lows R u) := fun x hx => least_mem.mpr ⟨gs.subset hx, fun t _ st => sub_all.mp st x hx⟩
      have wl : IsW (leastA g u (lows R u)) := least_w wu _
      have lh : ∀ x ∈ leastA g u (lows R u), x ∈ h := fun x hx => (least_mem.mp hx).2 h (lows_iff.mpr up) (sub_all.mpr gh)
      cases e : minus (leastA g u (lows R u)) g with
      | nil =>
        refine gn ?_
        rw [w_one wg wl lg fun x hx => Classical.byContradiction fun q => by
          have : x ∈ minus (leastA g u (lows R u)) g := in_minus.mpr ⟨hx, q⟩
          rw [e] at this
          exact nomatch this]
        exact li
      | cons x xs =>
        have hx : x ∈ minus (leastA g u (lows R u)) g := by rw [e]; exact List.mem_cons_self
        refine n3 ⟨x, ?_, lh x (in_minus.mp hx).1⟩
        show x ∈ headsA z g u (lows R u)
        unfold headsA
        rw [if_pos cz, e]
        exact List.mem_cons_self
    · have eh : headsA z g u (lows R u) = minus u g := by unfold headsA; rw [if_neg cz]
      have hg' : ∀ x ∈ h, x ∈ g := fun x hx => Classical.byContradiction fun q => n3 ⟨x, by show x ∈ headsA z g u (lows R u); rw [eh]; exact in_minus.mpr ⟨tu x (ht x hx), q⟩, hx⟩
      have e : h = g := w_one wh wg hg' gh
      subst e
      by_cases ca : z = anyS
      · have ut : ∀ x ∈ u, x ∈ t := fun x hx => by
          by_cases q : x ∈ h
          · exact ht x q
          · refine Classical.byContradiction fun q2 => n4 ⟨x, ?_, q2⟩
            show x ∈ deniedA z h u
            unfold deniedA
            rw [if_pos ca]
            exact in_minus.mpr ⟨hx, q⟩
        have e : t = u := w_one wt wu tu ut
        subst e
        exact gn hpR
      · exact gn (upw ca _ hpR u uu (sub_all.mpr tu))
  · rw [if_neg c, List.mem_singleton] at hr
    subst hr
    have uh : ∀ x ∈ u, x ∈ h := fun x hx => Classical.byContradiction fun q => n1 ⟨x, hx, q⟩
    have tu : ∀ x ∈ t, x ∈ u := fun x hx => Classical.byContradiction fun q => n2 ⟨x, in_minus.mpr ⟨tp x hx, q⟩, hx⟩
    have e : t = u := w_one wt wu tu fun x hx => ht x (uh x hx)
    subst e
    exact c (List.mem_map.mpr ⟨_, hpR, rfl⟩)
theorem made_only {pool : W} {R : List Pr} {z : Str} {h t : W} (ht : t ∈ everyW pool) (hh : h ∈ everyW t) (s1 : ∀ r ∈ madeL pool R z, standsB r t t = true) (s2 : ∀ r ∈ madeL pool R z, standsB r h t = true) : (h, t) ∈ R := by
  by_cases c : t ∈ R.map (·.2)
  · refine Classical.byContradiction fun no => ?_
    have hr : (headsA z h t (lows R t), deniedA z h t, h, minus pool t) ∈ madeL pool R z := by
      refine List.mem_flatMap.mpr ⟨t, ht, ?_⟩
      unfold rowsAt
      rw [if_pos c]
      refine List.mem_map.mpr ⟨h, List.mem_filter.mpr ⟨hh, ?_⟩, rfl⟩
      rw [decide_eq_false fun q => no (lows_iff.mp q)]
      rfl
    have z1 := stands_iff.mp (s2 _ hr)
    rcases z1 with ⟨x, hx, q⟩ | ⟨x, hx, q⟩ | ⟨x, hx, q⟩ | ⟨x, hx, q⟩
    · exact q hx
    · exact (in_minus.mp hx).2 q
    · have hx : x ∈ headsA z h t (lows R t) := hx
      unfold headsA at hx
      split at hx
      · exact (in_minus.mp (List.mem_of_mem_take hx)).2 q
      · exact (in_minus.mp hx).2 q
    · have hx : x ∈ deniedA z h t := hx
      unfold deniedA at hx
      split at hx
      · exact q (in_minus.mp hx).1
      · exact nomatch hx
  · exfalso
    have hr : (([], [], t, minus pool t) : Rl) ∈ madeL pool R z := by
      refine List.mem_flatMap.mpr ⟨t, ht, ?_⟩
      unfold rowsAt
      rw [if_neg c]
      exact List.mem_cons_self
    rcases stands_iff.mp (s1 _ hr) with ⟨x, hx, q⟩ | ⟨x, hx, q⟩ | ⟨x, hx, q⟩ | ⟨x, hx, q⟩
    · exact q hx
    · exact (in_minus.mp hx).2 q
    · exact nomatch hx
    · exact nomatch hx
theorem holds_all {S : List Rl} {h t : W} : holdsB S h t = true ↔ (∀ r ∈ S, standsB r t t = true) ∧ ∀ r ∈ S, standsB r h t = true := by
  unfold holdsB
  rw [List.all_eq_true]
  constructor
  · intro g
    exact ⟨fun r hr => (Bool.and_eq_true_iff.mp (g r hr)).1, fun r hr => (Bool.and_eq_true_iff.mp (g r hr)).2⟩
  · rintro ⟨a, b⟩ r hr
    exact Bool.and_eq_true_iff.mpr ⟨a r hr, b r hr⟩
theorem sub_list {a b : W} (ha : IsW a) (hb : IsW b) (h : sub a b = true) : a.Sublist b := by
  have e : a = b.filter fun z => decide (z ∈ a) := w_one ha (isW_filter hb) (fun z hz => List.mem_filter.mpr ⟨sub_all.mp h z hz, decide_eq_true hz⟩) fun z hz => of_decide_eq_true (List.mem_filter.mp hz).2
  rw [e]
  exact List.filter_sublist
/-- the pairs of the made program are the pairs given -/
theorem made_pairs {pool : W} {R : List Pr} {z : Str} {S : List Rl} (hp : IsW pool) (hR : ∀ p ∈ R, IsP pool p) (hy : whyO R z = none) (hS : ∀ r, r ∈ S ↔ r ∈ madeL pool R z) (q : Pr) : q ∈ pairsL S (everyW pool) ↔ q ∈ R := by
  rw [mem_pairsL]
  constructor
  · rintro ⟨a, b, c, d⟩
    exact made_only a b (fun r hr => (holds_all.mp c).1 r ((hS r).mpr hr)) fun r hr => (holds_all.mp d).2 r ((hS r).mpr hr)
  · intro hq
    have ip := hR q hq
    have tt := (why_none hy).1 q hq
    have s1 : ∀ r ∈ S, standsB r q.2 q.2 = true := fun r hr => made_stands hp hR hy tt ((hS r).mp hr)
    have s2 : ∀ r ∈ S, standsB r q.1 q.2 = true := fun r hr => made_stands hp hR hy hq ((hS r).mp hr)
    exact ⟨mem_every.mpr (sub_list ip.w2 hp ip.up), mem_every.mpr (sub_list ip.w1 ip.w2 ip.le), holds_all.mpr ⟨s1, s1⟩, holds_all.mpr ⟨s1, s2⟩⟩
theorem made_one {pool : W} {R R' : List Pr} {z : Str} {S : List Rl} (hp : IsW pool) (hR : ∀ p ∈ R, IsP pool p) (hy : whyO R z = none) (hS : ∀ r, r ∈ S ↔ r ∈ madeL pool R z) (nR : R.Nodup) (rR : Rising (R.map pd)) (rR' : Rising (R'.map pd)) (perm : R'.Perm (pairsL S (everyW pool))) : R' = R :=
  pairs_one rR' rR (perm.nodup_iff.mpr (pairsL_nodup (fun t ht => (upX_nodup hp.up).sublist (mem_every.mp ht)) (every_nodup (upX_nodup hp.up)))) nR fun p => by rw [perm.mem_iff]; exact made_pairs hp hR hy hS p
/-! ### the kind of the made rules -/
def rowOk (z : Str) (r : Rl) : Prop := (z ≠ anyS → r.2.1 = []) ∧ (z = singleS → r.1.length ≤ 1)
theorem made_kind {pool : W} {R : List Pr} {z : Str} : ∀ r ∈ madeL pool R z, rowOk z r := fun r hr => by
  obtain ⟨u, _, hr⟩ := List.mem_flatMap.mp hr
  unfold rowsAt at hr
  split at hr
  · obtain ⟨g, _, rfl⟩ := List.mem_map.mp hr
    refine ⟨fun c => ?_, fun c => ?_⟩
    · show deniedA z g u = []
      unfold deniedA
      rw [if_neg c]
    · show (headsA z g u (lows R u)).length ≤ 1
      unfold headsA
      rw [if_pos c, List.length_take]
      omega
  · rw [List.mem_singleton.mp hr]
    exact ⟨fun _ => rfl, fun _ => by show 0 ≤ 1; decide⟩
theorem made_names {pool : W} {R : List Pr} {z : Str} : ∀ x ∈ namesL (madeL pool R z), x ∈ pool := fun x hx => by
  obtain ⟨r, hr, hx⟩ := List.mem_flatMap.mp hx
  obtain ⟨t, ht, hy⟩ := List.mem_flatMap.mp hx
  clear hx
  obtain ⟨u, hu, hr⟩ := List.mem_flatMap.mp hr
  have us := (mem_every.mp hu).subset
  unfold rowsAt at hr
  split at hr
  · obtain ⟨g, hg, rfl⟩ := List.mem_map.mp hr
    have gs := (mem_every.mp (List.mem_filter.mp hg).1).subset
    unfold parts at ht
    simp only [List.mem_cons, List.not_mem_nil, or_false] at ht
    rcases ht with rfl | rfl | rfl | rfl
    · unfold headsA at hy
      split at hy
      · exact us (least_mem.mp (in_minus.mp (List.mem_of_mem_take hy)).1).1
      · exact us (in_minus.mp hy).1
    · unfold deniedA at hy
      split at hy
      · exact us (in_minus.mp hy).1
      · exact nomatch hy
    · exact us (gs hy)
    · exact (in_minus.mp hy).1
  · rw [List.mem_singleton.mp hr] at ht
    unfold parts at ht
    simp only [List.mem_cons, List.not_mem_nil, or_false] at ht
    rcases ht with rfl | rfl | rfl | rfl
    · exact nomatch hy
    · exact nomatch hy
    · exact us hy
    · exact (in_minus.mp hy).1
end Rw
namespace Rw
open PySem PySem.Spec PyProof.Rows L2
abbrev dat (o : Option PyData) : PyData := o.getD .none
theorem told_dp {K : PySem.W.Frag} {H : Hp} {x : V} {o : Option PyData} (h : Told K H x o) : Dp K H x (dat o) := by
  cases o with
  | none =>
    rw [show x = V.non from h]
    exact .non
  | some d => exact h.2.2
theorem shaped_why {R : List Pr} (z : Str) (h : ∀ p ∈ R, IsW p.1 ∧ IsW p.2) : SeqAt.shaped (dat (whyO R z)) = true := by
  cases e : whyO R z with
  | none => decide
  | some d =>
    show SeqAt.shaped d = true
    rcases why_cases e with ⟨p, hp, _, rfl⟩ | ⟨p, hp, o, ho, _, _, rfl⟩ | ⟨p, hp, o, ho, _, rfl⟩
    · have l1 := lay_pd (h p hp).1 (h p hp).2
      have l0 : (PyData.str totalS).canLay0 = true := by decide +kernel
      refine shaped_of ?_ ?_
      · simp only [PyData.canLay0, PyData.canLayAll0] at l0 ⊢
        simp only [l0, l1]
        rfl
      · simp [PyData.depth, PyData.depthAll, depth_pd]
    · have l1 := lay_pd (h p hp).1 (h p hp).2
      have l2 := lay_wd (h _ ho).2.names
      have l0 : (PyData.str upwardS).canLay0 = true := by decide +kernel
      refine shaped_of ?_ ?_
      · simp only [PyData.canLay0, PyData.canLayAll0] at l0 ⊢
        simp only [l0, l1, l2]
        rfl
      · simp [PyData.depth, PyData.depthAll, depth_pd, depth_wd]
    · have l1 := lay_pd (h p hp).1 (h p hp).2
      have l2 := lay_pd (p := (o, p.2)) (h _ ho).1 (h _ ho).2
      have l0 : (PyData.str meetS).canLay0 = true := by decide +kernel
      refine shaped_of ?_ ?_
      · simp only [PyData.canLay0, PyData.canLayAll0] at l0 ⊢
        simp only [l0, l1, l2]
        rfl
      · simp [PyData.depth, PyData.depthAll, depth_pd]
theorem Own.draw {K : PySem.W.Frag} {H : Hp} {p l : Addr} {L : List Pr} {o : HO} (h : Own K H l L) (n : l ≠ p) (m : Mut (H p)) : Own K (upd H p o) l L := by
  obtain ⟨xs, h1, h2⟩ := h
  refine ⟨xs, ?_, (Stay.put m o).dpAll _ _ (okDs_pd _) h2⟩
  rw [upd_ne n]
  exact h1
theorem Own.ps {K : PySem.W.Frag} {H : Hp} {l : Addr} {L : List Pr} (h : Own K H l L) : PS2 K H l L := by
  obtain ⟨xs, h1, h2⟩ := h
  exact ⟨xs, .inl (SqL.of h1), h2⟩
theorem pools (j : Nat) (h : j < 5) : ∃ pool : W, ([[], [("a" : Str)], [("a" : Str), ("ab" : Str)], [("a" : Str), ("ab" : Str), ("b" : Str)], [("a" : Str), ("ab" : Str), ("b" : Str)]] : List W)[j]? = some pool ∧ IsPool pool := by
  have all : ∀ t : W, t.Sublist [("a" : Str), ("ab" : Str), ("b" : Str)] → IsPool t := fun t s => by
    have s4 : t.Sublist pool4 := s.trans (by unfold pool4; exact (List.Sublist.refl _).cons_cons _ |>.trans (by decide))
    have z := (parts_iff isW_pool4).mp (mem_subs.mpr s4)
    exact ⟨z.1, s.length_le, z.2⟩
  match j, h with
  | 0, _ => exact ⟨_, rfl, all _ (List.nil_sublist _)⟩
  | 1, _ => exact ⟨_, rfl, all _ (by decide)⟩
  | 2, _ => exact ⟨_, rfl, all _ (by decide)⟩
  | 3, _ => exact ⟨_, rfl, all _ (List.Sublist.refl _)⟩
  | 4, _ => exact ⟨_, rfl, all _ (List.Sublist.refl _)⟩
/-! ### _law_kind_right -/
abbrev nKindRight : List Str := ["rows", "kind", "heads", "denied", "needs", "bars"]
theorem scKindRight : FnScope nKindRight ["rows", "kind"] (defScope sKindRight) := ⟨rfl, rfl, rfl, by decide +kernel, rfl, by decide +kernel, by decide +kernel⟩
section
variable {P : Program} {w : World} {K : PySem.W.Frag} {mg : Str → Option Value} {base : Heap} {f : Addr} {fd : FuncData} {k : Nat}
def spKindRight (K : PySem.W.Frag) : Sp := fun vs H Q _ => ∃ (t : Addr) (xs : List V) (z : Str) (S : List Rl), vs = [.ref t, .str z] ∧ SqT K H t xs ∧ DpAll K H xs (S.map rd) ∧ (∀ r ∈ S, IsR r) ∧ (∀ r ∈ S, rowOk z r) ∧ ∀ H', Same H H' → Q (.bl true) H'
theorem ok_kindRight (F : Fun K "_law_kind_right" "_law_kind_right" sKindRight f fd) (T : Bl mg) : FnOk P w K mg base CX0 (k + 1) f fd ["rows", "kind"] (spKindRight K) := by
  refine F.ok scKindRight (fun vs H Q E h => ?_) (fun cdv A outer s H vs Q E hr h => ?_)
  · obtain ⟨t, xs, z, S, rfl, _⟩ := h
    rfl
  obtain ⟨t, xs, z, S, rfl, hT, hx, hI, hO, q⟩ := h
  refine ⟨_, pss_cons (ps_for PassesOwn.never rfl (pi_tup (pv 0)) (pg_tup (by rfl) (pgs_cons (pg_name (i := 2) scKindRight.nd rfl (.inl rfl)) (pgs_cons (pg_name (i := 3) scKindRight.nd rfl (.inl rfl)) (pgs_cons (pg_name (i := 4) scKindRight.nd rfl (.inl rfl)) (pgs_cons (pg_name (i := 5) scKindRight.nd rfl (.inl rfl)) pgs_nil)))))
      (pss_one (ps_if (PW.pt (pw_or (PW.pt (pw_and (pt_cmpR op_ne (pv 1) pe_str (nomark _)) (pw_and1 (pt_cmpR (op_neD hr.units) (pv 3) (pe_tup pa_nil) (nomark _)))))
        (pw_or1 (PW.pt (pw_and (pt_cmpR op_eq (pv 1) pe_str (nomark _)) (pw_and1 (pt_cmpR op_gt (pe_callB call_len_seq (by rfl) T.len PySem.boot_len (pa_cons (pv 2) pa_nil)) pe_int (nomark _))))))))
        pss_never pss_nil)))
    (pss_one (ps_ret pe_bl)), ?_⟩
  have ev : ∀ u v : Str, (!decide (V.str u = V.str v)) = !decide (u = v) := fun u v => by
    by_cases e : u = v
    · rw [e, decide_eq_true rfl, decide_eq_true rfl]
    · rw [decide_eq_false e, decide_eq_false fun q => e (by injection q)]
  have ee : ∀ u v : Str, decide (V.str u = V.str v) = decide (u = v) := fun u v => by
    have := ev u v
    cases h1 : decide (V.str u = V.str v) <;> cases h2 : decide (u = v) <;> simp_all
  have xl : xs.length = S.length := by rw [dpAll_len hx, List.length_map]
  refine ⟨.ref t, rfl, t, rfl, ⟨_, hT⟩, for_tup (xs := xs) (fun i σ H1 => (∃ y2 y3 y4 y5, σ = [some (.ref t), some (.str z), y2, y3, y4, y5]) ∧ Same H H1) ⟨⟨_, _, _, _, rfl⟩, fun _ _ e => e⟩ (fun i σ H1 _ hI => same_tup hI.2 hT) (fun i x σ H1 hxi hI1 => ?_) (fun σ H1 hI1 => ?_)⟩
  · obtain ⟨⟨y2, y3, y4, y5, rfl⟩, sm⟩ := hI1
    obtain ⟨dd, hdd, hxd⟩ := dpAll_at' hx hxi
    obtain ⟨r, hr0, rfl⟩ := map_at hdd
    have hrI := hI r (List.mem_of_getElem? hr0)
    obtain ⟨o1, o2⟩ := hO r (List.mem_of_getElem? hr0)
    obtain ⟨b0, v1, v2, v3, v4, rfl, hT0, h1, h2, h3, h4⟩ := of_rd ((Stay.same sm).rd hxd)
    refine ⟨b0, _, rfl, hT0, rfl, _, _, rfl, _, _, rfl, _, _, rfl, _, [], rfl, rfl, ?_⟩
    refine ⟨.str z, rfl, rfl, !decide (z = anyS), congrArg V.bl (ev _ _), ?_⟩
    obtain ⟨a1, rfl, t1⟩ := of_wd h1
    by_cases ca : z = anyS
    · rw [decide_eq_true ca]
      refine iteF ?_
      refine ⟨.str z, rfl, rfl, decide (z = singleS), congrArg V.bl (ee _ _), ?_⟩
      rw [decide_eq_false (by rw [ca]; decide)]
      exact iteF ⟨⟨_, _, _, _, rfl⟩, sm⟩
    · rw [decide_eq_false ca]
      refine iteT ?_
      refine ⟨v2, rfl, by show 0 ≤ sizeLine; decide, fun e he => ?_⟩
      have s2 := same_new he (.tup [])
      refine ⟨wd r.2.1, wd [], dp_same s2 _ _ h2, to_wd (ns := []) (SqT.of upd_same), shaped_wd hrI.d, by decide, _, rfl, ?_⟩
      rw [eqv_wd, decide_eq_true (o1 ca)]
      refine iteF ?_
      refine ⟨.str z, rfl, rfl, decide (z = singleS), congrArg V.bl (ee _ _), ?_⟩
      by_cases cs : z = singleS
      · rw [decide_eq_true cs]
        refine iteT ?_
        have hl := o2 cs
        refine ⟨.ref a1, rfl, a1, _, rfl, .inr (same_tup s2 t1), _, _, rfl, rfl, _, rfl, ?_⟩
        rw [List.length_map, decide_eq_false (by omega)]
        exact iteF ⟨⟨_, _, _, _, rfl⟩, sm.trans s2⟩
      · rw [decide_eq_false cs]
        exact iteF ⟨⟨_, _, _, _, rfl⟩, sm.trans s2⟩
  · obtain ⟨⟨y2, y3, y4, y5, rfl⟩, sm⟩ := hI1
    exact q H1 sm
end
end Rw
namespace Rw
open PySem PySem.Spec PyProof.Rows L2
/-! ### _law_made_right -/
structure ErrB (K : PySem.W.Frag) (mg : Str → Option Value) (CB : Addr) : Prop where
  mB : mg "Barred" = some (.ref CB)
  eB : PySem.W.exmOne K (.ref CB) (.ref CB) = some true
  cB : ExcC K CB
  nB : PySem.W.findIn K (.ref CB) "why" = some none
theorem xfB {K : PySem.W.Frag} {C : Addr} (h : ExcC K C) : XfC K C := ⟨h.hg, h.hk, h.hs, h.hd⟩
theorem scMadeRight : FnScope ["rows", "pool", "kind", "error", "told", "caught", "why"] ["rows", "pool", "kind"] (defScope sMadeRight) := ⟨rfl, rfl, rfl, by decide +kernel, rfl, by decide +kernel, by decide +kernel⟩
theorem names_of {S L : List Rl} (h : ∀ r, r ∈ S ↔ r ∈ L) {z : Str} (hz : z ∈ namesL S) : z ∈ namesL L := by
  obtain ⟨r, hr, hz⟩ := List.mem_flatMap.mp hz
  exact List.mem_flatMap.mpr ⟨r, (h r).mp hr, hz⟩
section
variable {P : Program} {w : World} {K : PySem.W.Frag} {mg : Str → Option Value} {base : Heap} {f : Addr} {fd : FuncData} {k : Nat}
def spMadeRight (K : PySem.W.Frag) : Sp := fun vs H Q _ => ∃ (l : Addr) (x : V) (pool : W) (z : Str) (L : List Pr), vs = [.ref l, x, .str z] ∧ PS2 K H l L ∧ Dp K H x (wd pool) ∧ IsPool pool ∧ (∀ p ∈ L, IsP pool p) ∧ z ∈ [anyS, plainS, singleS] ∧ L.length < 76 ∧
  ∀ H', Same H H' → Q (.bl true) H'
theorem ok_madeRight {C CB pR pN f1 f2 f3 f4 f5 fR fN : Addr} {fd1 fd2 fd3 fd4 fd5 fdR fdN : FuncData} (F : Fun K "_law_made_right" "_law_made_right" sMadeRight f fd) (T : Bl mg) (E : ErrB K mg CB) (GP : PgC K mg C) (c : Cls K C) (hpR : PropOf K C "rules" pR fR) (hpN : PropOf K C "names" pN fN)
    (G1 : FnOk P w K mg base (L2.CX P w) (k + 1) f1 fd1 ["pairs", "names", "kind"] (spPO K C CB)) (b1 : Binds K fd1 ["pairs", "names", "kind"] []) (k1 : PySem.W.keepIn K (.ref f1) = true) (m1 : mg "program_of" = some (.ref f1))
    (G2 : FnOk P w K mg base CX0 (k + 1) f2 fd2 ["pairs", "names", "kind"] (spBarred K)) (b2 : Binds K fd2 ["pairs", "names", "kind"] []) (k2 : PySem.W.keepIn K (.ref f2) = true) (m2 : mg "barred" = some (.ref f2))
    (G3 : FnOk P w K mg base CX0 (k + 1) f3 fd3 ["rows", "kind"] (spKindRight K)) (b3 : Binds K fd3 ["rows", "kind"] []) (k3 : PySem.W.keepIn K (.ref f3) = true) (m3 : mg "_law_kind_right" = some (.ref f3))
    (G4 : FnOk P w K mg base CX0 (k + 1) f4 fd4 ["one", "other"] (spLawIn K)) (b4 : Binds K fd4 ["one", "other"] []) (k4 : PySem.W.keepIn K (.ref f4) = true) (m4 : mg "_law_in" = some (.ref f4))
    (G5 : FnOk P w K mg base CX0 (k + 1) f5 fd5 ["rows", "pool"] (spLawPairs K)) (b5 : Binds K fd5 ["rows", "pool"] []) (k5 : PySem.W.keepIn K (.ref f5) = true) (m5 : mg "_law_pairs" = some (.ref f5))
    (GR : FnOk P w K mg base CX0 k fR fdR ["self"] (spRules K C)) (bR : Binds K fdR ["self"] []) (GN : FnOk P w K mg base CX0 k fN fdN ["self"] (spNames K C)) (bN : Binds K fdN ["self"] []) :
    FnOk P w K mg base CX0 (k + 2) f fd ["rows", "pool", "kind"] (spMadeRight K) := by
  refine F.ok scMadeRight (fun vs H Q E h => ?_) (fun cdv A outer s H vs Q E' hr h => ?_)
  · obtain ⟨l, x, pool, z, L, rfl, _⟩ := h
    rfl
  obtain ⟨l, x, pool, z, L, rfl, hS, hp, hpl, hL, hz, few, q⟩ := h
  refine ⟨_, pss_cons (ps_set (i := 3) scMadeRight.nd rfl (.inl rfl) pe_non)
    (pss_cons (ps_set (i := 4) scMadeRight.nd rfl (.inl rfl) pe_non)
    (pss_mid (ps_try_keep (i := 5) (j := 3) rfl rfl scMadeRight.nd rfl rfl ⟨rfl, by decide, .inl E.mB⟩ rfl rfl rfl rfl (by decide) (by decide) (by rfl) (fun W pn xe tk po =>
        pss_one (ps_set (i := 4) scMadeRight.nd rfl (.inl rfl) (pe_callS G1 hr (by rfl) m1 k1 b1 (fun σ => passAt tk σ) (pa_cons (pv 0) (pa_cons (pv 1) (pa_cons (pv 2) pa_nil)))))))
    (pss_cons (ps_set (i := 6) scMadeRight.nd rfl (.inl rfl) (pe_call G2 hr (by rfl) m2 k2 b2 .nil pass0 (pa_cons (pv 0) (pa_cons (pv 1) (pa_cons (pv 2) pa_nil)))))
    (pss_cons (ps_if (PW.pt (pw_or (pt_cmpR op_notN (pv 6) pe_non (nomark _)) (pw_or1 (pt_cmpR op_notN (pv 3) pe_non (nomark _)))))
      (pss_one (ps_ret (pe_and (pe_cmpR op_notN (pv 6) pe_non (nomark _)) (pe_and (pe_cmpR op_isN (pv 4) pe_non (nomark _)) (pe_and (pe_cmpR op_notN (pv 3) pe_non (nomark _)) (pe_one (pe_cmpR (op_eqD hr.units) (pe_fldH (xfB E.cB) E.nB (pv 3)) (pv 6) (nomark _)))))))) pss_nil)
    (pss_cons (ps_if (PW.pt (pw_or (pt_not (pt_val (pe_callB call_isi (by rfl) T.isi PyProof.Rows.boot_isinstance (pa_cons (pv 4) (pa_cons (pe_glob (v := .ref C) (by rfl) GP.m rfl) pa_nil)))))
        (pw_or (pt_not (pt_val (pe_call G3 hr (by rfl) m3 k3 b3 .nil pass0 (pa_cons (pe_prop (pv 4) c hpR GR hr bR .nil pass0 rfl) (pa_cons (pv 2) pa_nil)))))
        (pw_or1 (pt_not (pt_val (pe_call G4 hr (by rfl) m4 k4 b4 .nil pass0 (pa_cons (pe_prop (pv 4) c hpN GN hr bN .nil pass0 rfl) (pa_cons (pv 1) pa_nil)))))))))
      pss_never pss_nil)
    (pss_one (ps_ret (pe_cmpR (op_eqD hr.units) (pe_call G5 hr (by rfl) m5 k5 b5 .nil pass0 (pa_cons (pe_callTy call_list_of (by rfl) T.list (by decide +kernel) (pa_cons (pe_prop (pv 4) c hpR GR hr bR .nil pass0 rfl) pa_nil)) (pa_cons (pv 1) pa_nil)))
      (pe_callB (cr_sortT rfl hr.units) (by rfl) T.sorted (by decide +kernel) (pa_cons (pe_callTy (cr_setT rfl hr.units) (by rfl) T.set (by decide +kernel) (pa_cons (pv 0) pa_nil)) pa_nil)) (nomark _))))))))), ?_⟩
  let I : L2.St → Hp → Prop := fun σ H' => Same H H' ∧ ∃ R : List Pr, R.Nodup ∧ Rising (R.map pd) ∧ (∀ p, p ∈ R ↔ p ∈ L) ∧ ((∃ v S, σ = [some (.ref l), some x, some (.str z), some .non, some v, none, none] ∧ whyO R z = none ∧ Srt S (madeL pool R z) ∧ S.length < 76 ∧ PgAt K C H' v S) ∨
    ∃ (a dd : Addr) (y : V) (d : PyData), σ = [some (.ref l), some x, some (.str z), some (.ref a), some .non, none, none] ∧ whyO R z = some d ∧ Told K H' y (some d) ∧ H' a = some (ExH (.ref CB) (some dd) a) ∧ H' dd = some (.xd [("why", y)]))
  refine ⟨I, ?_, fun σ' H' hI => ?_⟩
  · refine ⟨.ref l, rfl, x, rfl, .str z, rfl, ?_⟩
    dsimp only [tNil]
    refine ⟨l, x, pool, z, L, rfl, hS, hp, hpl.w, hpl.few, hL, hz, few, fun R nR ris mem => ⟨fun e H' v S s hs hl hv => ?_, fun d e H' dx y s t hdx => ?_⟩⟩
    · exact ⟨s, R, nR, ris, mem, .inl ⟨v, S, rfl, e, hs, hl, hv⟩⟩
    · have s1 := same_new hdx (.xd [(("why" : Str), y)])
      refine ⟨E.eB, fun a ha => ?_⟩
      have s2 := same_new ha (ExH (.ref CB) (some dx) a)
      exact ⟨s.trans (s1.trans s2), R, nR, ris, mem, .inr ⟨a, dx, y, d, rfl, e, t.stay (.same (s1.trans s2)), upd_same, s2 _ _ upd_same⟩⟩
  · obtain ⟨sm, R, nR, ris, mem, hI⟩ := hI
    have wL : ∀ p ∈ L, IsW p.1 ∧ IsW p.2 := fun p hp => ⟨(hL p hp).w1, (hL p hp).w2⟩
    have wR : ∀ p ∈ R, IsW p.1 ∧ IsW p.2 := fun p hp => wL p ((mem p).mp hp)
    have hRP : ∀ p ∈ R, IsP pool p := fun p hp => hL p ((mem p).mp hp)
    have one : ∀ R', R'.Nodup → Rising (R'.map pd) → (∀ p, p ∈ R' ↔ p ∈ L) → R' = R := fun R' n r m => pairs_one r ris n nR fun p => (m p).trans (mem p).symm
    rcases hI with ⟨v, S, rfl, ew, hs, hl, hv⟩ | ⟨a, dd, y, d, rfl, ew, ty, ha, hd⟩
    · refine ⟨.ref l, rfl, x, rfl, .str z, rfl, ?_⟩
      dsimp only [tNil]
      refine ⟨l, x, pool, z, L, rfl, hS.same sm, (Stay.same sm).wd hp, hpl.w, hL, hz, few, fun H2 y2 R2 s2 n2 r2 m2 t2 => ?_⟩
      obtain rfl := one R2 n2 r2 m2
      rw [ew] at t2
      obtain rfl : y2 = .non := t2
      have sm2 := sm.trans s2
      have hv2 := hv.same s2
      refine ⟨.non, rfl, rfl, false, congrArg V.bl (by decide), iteF ?_⟩
      refine ⟨.non, rfl, rfl, false, congrArg V.bl (by decide), iteF ?_⟩
      obtain ⟨av, dx, t0, ys0, rfl, i1, i2, i3⟩ := id hv2
      have hSI : ∀ r ∈ S, IsR r := fun r hr => by
        obtain ⟨t, ht, hr⟩ := List.mem_flatMap.mp ((hs.mem r).mp hr)
        exact rows_isR hpl.w (isW_sl hpl.w (mem_every.mp ht)) r hr
      have hnm : ∀ n ∈ namesL S, n ∈ pool := fun n hn => made_names n (names_of hs.mem hn)
      have fpl := hpl.few
      have hO : ∀ r ∈ S, rowOk z r := fun r hr => made_kind r ((hs.mem r).mp hr)
      refine ⟨.ref av, rfl, .ref av, .ref C, .ref C, .ref C, true, rfl, .own C, .base (.ins i1 GP.cls GP.cg GP.sp GP.tk GP.mro), GP.yes, true, rfl, iteF ?_⟩
      refine ⟨.ref av, rfl, av, dx, _, rfl, i1, .ref av, S, rfl, hv2, fun t ys ht hys => ?_⟩
      refine ⟨.str z, rfl, ?_⟩
      dsimp only [tNil]
      refine ⟨t, ys, z, S, rfl, ht, hys, hSI, hO, fun H3 s3 => ⟨true, rfl, iteF ?_⟩⟩
      have hv3 := hv2.same s3
      have sm3 := sm2.trans s3
      refine ⟨.ref av, rfl, av, dx, _, rfl, s3 _ _ i1, .ref av, S, pool, rfl, hv3, hSI, hnm, by omega, fun H4 t4 own s4 ht4 hown hmem => ?_⟩
      have sm4 := sm3.trans s4
      refine ⟨x, rfl, ?_⟩
      dsimp only [tNil]
      refine ⟨.ref t4, x, own, pool, rfl, to_wd ht4, (Stay.same sm4).wd hp, hown, fun H5 s5 => ⟨_, rfl, ?_⟩⟩
      rw [show sub own pool = true from sub_all.mpr fun n hn => hnm n ((hmem n).mp hn)]
      refine iteF ?_
      have sm5 := sm4.trans s5
      have hv5 := hv3.same (s4.trans s5)
      refine ⟨.ref av, rfl, av, dx, _, rfl, (s3.trans (s4.trans s5)) _ _ i1, .ref av, S, rfl, hv5, fun t5 ys5 ht5 hys5 => ?_⟩
      refine ⟨t5, ys5, rfl, .inr ht5, fun l6 hl6 => ?_⟩
      have s6 := same_new hl6 (.lst ys5)
      have sm6 := sm5.trans s6
      refine ⟨x, rfl, ?_⟩
      dsimp only [tNil]
      refine ⟨l6, x, S, pool, rfl, ⟨ys5, upd_same, dpAll_same s6 _ _ hys5⟩, hSI, by omega, (Stay.same sm6).wd hp, hpl.w, by omega, fun H7 p7 R7 s7 hp7 hPL7 ris7 perm7 => ?_⟩
      have e7 : R7 = R2 := made_one hpl.w hRP ew hs.mem nR ris ris7 perm7
      subst e7
      have sm7 := sm6.trans s7
      obtain ⟨xs, hS7, hx7⟩ := hS.same sm7
      refine ⟨.ref l, rfl, l, xs, L.map pd, rfl, hS7, hx7, (fun d hd => by obtain ⟨p, _, rfl⟩ := List.mem_map.mp hd; exact good_pd p), by rw [List.length_map]; exact few, fun a M ha hM hall => ?_⟩
      have sa := same_new ha (TSetO w a M)
      have isP : ∀ e ∈ M, ∃ p ∈ L, e.2 = pd p := fun e he => by
        obtain ⟨p, hp, ep⟩ := List.mem_map.mp (hM e he).1
        exact ⟨p, hp, ep.symm⟩
      refine ⟨a, M, rfl, upd_same, fun e he => ?_, ?_, fun ys9 ds p9 perm nd lt ris9 hys9 hp9 => ?_⟩
      · obtain ⟨p, _, ep⟩ := isP e he
        refine ⟨by rw [ep]; exact good_pd p, (Stay.same sa).dp _ _ (by rw [ep]; exact ok_pd p) (hM e he).2⟩
      · refine fun d hd d' hd' => ?_
        obtain ⟨e, he, rfl⟩ := List.mem_map.mp hd
        obtain ⟨e', he', rfl⟩ := List.mem_map.mp hd'
        obtain ⟨p, _, ep⟩ := isP e he
        obtain ⟨p', _, ep'⟩ := isP e' he'
        rw [ep, ep']
        exact alike_pd p p'
      obtain ⟨R9, rfl⟩ := all_pd (ds := ds) fun d hd => by
        obtain ⟨e, he, rfl⟩ := List.mem_map.mp (perm.mem_iff.mp hd)
        obtain ⟨p, _, ep⟩ := isP e he
        exact ⟨p, ep⟩
      have mem9 : ∀ p, p ∈ R9 ↔ p ∈ L := fun p => by
        rw [← pd_mem, perm.mem_iff]
        constructor
        · intro hm
          obtain ⟨e, he, ee⟩ := List.mem_map.mp hm
          obtain ⟨p', hp', ep⟩ := isP e he
          rw [← pd_inj (ep.symm.trans ee)]
          exact hp'
        · intro hm
          exact hall _ (pd_mem.mpr hm)
      obtain rfl := one R9 (nodup_of_map nd) ris9 mem9
      have s9 := same_new hp9 (.lst ys9)
      have sR := shaped_pds wR
      obtain ⟨zs, hz7, hzs⟩ := hPL7
      refine ⟨.list (R9.map pd), .list (R9.map pd), .lst (SqL.of ((sa.trans s9) _ _ hz7)) ((Stay.same (sa.trans s9)).dpAll _ _ (okDs_pds _) hzs), .lst (SqL.of upd_same) ((Stay.same s9).dpAll _ _ (okDs_pds _) hys9), sR, sR, ?_⟩
      show Q (.bl (PyData.eqv (.list (R9.map pd)) (.list (R9.map pd)))) _
      rw [eqv_self sR]
      exact q _ (sm7.trans (sa.trans s9))
    · refine ⟨.ref l, rfl, x, rfl, .str z, rfl, ?_⟩
      dsimp only [tNil]
      refine ⟨l, x, pool, z, L, rfl, hS.same sm, (Stay.same sm).wd hp, hpl.w, hL, hz, few, fun H2 y2 R2 s2 n2 r2 m2 t2 => ?_⟩
      obtain rfl := one R2 n2 r2 m2
      rw [ew] at t2
      have sm2 := sm.trans s2
      have e2 : (!decide (y2 = V.non)) = true := by rw [told_isN t2]; rfl
      have sd : SeqAt.shaped d = true := by
        have := shaped_why z wR
        rw [ew] at this
        exact this
      refine ⟨y2, rfl, rfl, true, congrArg V.bl e2, iteT ?_⟩
      refine ⟨y2, rfl, rfl, true, congrArg V.bl e2, iteT ?_⟩
      refine ⟨.non, rfl, rfl, true, congrArg V.bl (by decide), iteT ?_⟩
      refine ⟨.ref a, rfl, rfl, true, congrArg V.bl (by rfl), iteT ?_⟩
      refine ⟨.ref a, rfl, a, dd, _, y, rfl, s2 _ _ ha, s2 _ _ hd, by rw [List.lookup_cons, beq_self_eq_true], ?_⟩
      have te := ty.stay (.same s2)
      refine ⟨y2, rfl, d, d, te.2.2, t2.2.2, sd, sd, ?_⟩
      show Q (.bl (PyData.eqv d d)) H2
      rw [eqv_self sd]
      exact q H2 sm2
end
end Rw
namespace Rw
open PySem PySem.Spec PyProof.Rows L2
/-! ### rules as data -/
theorem eqv_rds : ∀ a b : List Rl, PyData.eqvAll (a.map rd) (b.map rd) = decide (a = b)
  | [], [] => by simp [PyData.eqvAll]
  | [], _ :: _ => by simp [PyData.eqvAll]
  | _ :: _, [] => by simp [PyData.eqvAll]
  | x :: a, y :: b => by
    rw [List.map_cons, List.map_cons, PyData.eqvAll, eqv_rds a b, eqv_rd]
    by_cases h : x = y
    · subst h
      by_cases h2 : a = b <;> simp [h2]
    · simp [h]
theorem lay_rdsAll {S : List Rl} (h : ∀ r ∈ S, IsR r) : PyData.canLayAll0 (S.map rd) = true ∧ PyData.depthAll (S.map rd) ≤ 2 := by
  induction S with
  | nil => exact ⟨rfl, Nat.zero_le _⟩
  | cons r S ih =>
    obtain ⟨h1, h2⟩ := List.forall_mem_cons.mp h
    obtain ⟨i1, i2⟩ := ih h2
    have d := depth_rd r
    refine ⟨?_, ?_⟩
    · rw [List.map_cons, PyData.canLayAll0, lay_rd h1, i1]
      rfl
    · rw [List.map_cons, PyData.depthAll]
      omega
theorem shaped_rdT {S : List Rl} (h : ∀ r ∈ S, IsR r) : SeqAt.shaped (.tuple (S.map rd)) = true := by
  obtain ⟨i1, i2⟩ := lay_rdsAll h
  refine shaped_of ?_ ?_
  · rw [PyData.canLay0]
    exact i1
  · rw [PyData.depth]
    omega
theorem ty_ins {K : PySem.W.Frag} {C : Addr} {mg : Str → Option Value} (G : PgC K mg C) {H : Hp} {a dx : Addr} {fs : List (Str × V)} (h : H a = some (.ins C dx fs)) : TyX K H (.ref a) (.ref C) := .base (.ins h G.cls G.cg G.sp G.tk G.mro)
theorem scPEq : FnScope ["self", "other"] ["self", "other"] (defScope sPEq) := ⟨rfl, rfl, rfl, by decide +kernel, rfl, by decide +kernel, by decide +kernel⟩
section
variable {P : Program} {w : World} {K : PySem.W.Frag} {mg : Str → Option Value} {base : Heap} {f : Addr} {fd : FuncData} {k : Nat}
/-- one == other -/
def spPEqG (K : PySem.W.Frag) (C : Addr) : Sp := fun vs H Q _ => ∃ (x y : V) (S1 : List Rl), vs = [x, y] ∧ PgAt K C H x S1 ∧ (∀ r ∈ S1, IsR r) ∧ ((∃ S2, PgAt K C H y S2 ∧ (∀ r ∈ S2, IsR r) ∧ Q (.bl (decide (S1 = S2))) H) ∨ (∃ d, Dp K H y d ∧ Q (.bl false) H))
theorem ok_pEqG {C : Addr} (F : Fun K "__eq__" "Program.__eq__" sPEq f fd) (T : Bl mg) (G : PgC K mg C) (n : NoAttr K C "_rules") : FnOk P w K mg base CX0 (k + 1) f fd ["self", "other"] (spPEqG K C) := by
  refine F.ok scPEq (fun vs H Q E h => ?_) (fun cdv A outer s H vs Q E hr h => ?_)
  · obtain ⟨x, y, S, rfl, _⟩ := h
    rfl
  obtain ⟨x, y, S1, rfl, ⟨a, dx, t, ys, rfl, h1, h2, h3⟩, hI, h⟩ := h
  refine ⟨_, pss_one (ps_ret (pe_and (pe_callB call_isi (by rfl) T.isi PyProof.Rows.boot_isinstance (pa_cons (pv 1) (pa_cons (pe_glob (v := .ref C) (by rfl) G.m rfl) pa_nil))) (pe_one (pe_cmpR (op_eqD hr.units) (pe_fld (pv 0) rfl) (pe_fld (pv 1) rfl) (nomark _))))), ?_⟩
  rcases h with ⟨S2, ⟨b, dy, u, zs, rfl, g1, g2, g3⟩, hI2, q⟩ | ⟨d, hd, q⟩
  · refine ⟨.ref b, rfl, .ref b, .ref C, .ref C, .ref C, true, rfl, .own C, ty_ins G g1, G.yes, true, rfl, iteT ?_⟩
    refine ⟨.ref a, rfl, a, C, dx, _, .ref t, rfl, h1, G.cls, n, rfl, .ref b, rfl, b, C, dy, _, .ref u, rfl, g1, G.cls, n, rfl, ?_⟩
    refine ⟨.tuple (S1.map rd), .tuple (S2.map rd), .tup h2 h3, .tup g2 g3, shaped_rdT hI, shaped_rdT hI2, ?_⟩
    rw [PyData.eqv, eqv_rds]
    exact q
  · exact ⟨y, rfl, y, .ref C, .type (tyName d), .ref C, false, rfl, .own C, tyx_dp hd, G.odd d, false, rfl, iteF q⟩
end
end Rw
namespace Rw
open PySem PySem.Spec PyProof.Rows L2
/-! ### the law -/
theorem scLaw : FnScope ["script", "at", "purse", "turn", "pool", "rows", "way", "held", "kind"] ["script"] (defScope sLaw) := ⟨rfl, rfl, rfl, by decide +kernel, rfl, by decide +kernel, by decide +kernel⟩
section
variable {P : Program} {w : World} {K : PySem.W.Frag} {mg : Str → Option Value} {base : Heap} {f : Addr} {fd : FuncData} {k : Nat}
def spLaw (K : PySem.W.Frag) : Sp := fun vs H Q _ => ∃ (a : Addr) (ns : List Int), vs = [.ref a] ∧ SqL K H a (ns.map V.int) ∧ ns.length ≤ 63 ∧ ∀ H', Q (.bl true) H'
theorem ok_law {C CB gE f1 f2 f3 f4 f5 f6 : Addr} {fd1 fd2 fd3 fd4 fd5 fd6 : FuncData} {dv' : Value} (F : Fun K "law" "law" sLaw f fd) (T : Bl mg)
    (hE : PySem.W.findIn K (.ref C) "__eq__" = some (some (.ref gE))) (iE : PySem.W.isFn K (.ref gE) = true) (GE : FnR P w K mg base CX0 k gE (spPEqG K C))
    (G1 : FnOk P w K mg base CX0 k f1 fd1 ["script", "at"] (spLawPurse K)) (b1 : Binds K fd1 ["script", "at"] []) (k1 : PySem.W.keepIn K (.ref f1) = true) (m1 : mg "_law_purse" = some (.ref f1))
    (G2 : FnOk P w K mg base CX0 k f2 fd2 ["purse", "out_of"] spLawDraw) (b2 : Binds K fd2 ["purse", "out_of"] []) (k2 : PySem.W.keepIn K (.ref f2) = true) (m2 : mg "_law_draw" = some (.ref f2))
    (G3 : FnOk P w K mg base CX0 k f3 fd3 ["purse", "pool"] (spLawDrawn K)) (b3 : Binds K fd3 ["purse", "pool"] []) (k3 : PySem.W.keepIn K (.ref f3) = true) (m3 : mg "_law_drawn" = some (.ref f3))
    (G4 : FnOk P w K mg base CX0 k f4 fd4 ["rows", "kind"] (spLawClosed K)) (b4 : Binds K fd4 ["rows", "kind"] []) (k4 : PySem.W.keepIn K (.ref f4) = true) (m4 : mg "_law_closed" = some (.ref f4))
    (G5 : FnOk P w K mg base CX0 k f5 fd5 ["rows", "pool", "kind"] (spMadeRight K)) (b5 : Binds K fd5 ["rows", "pool", "kind"] []) (k5 : PySem.W.keepIn K (.ref f5) = true) (m5 : mg "_law_made_right" = some (.ref f5))
    (G6 : FnOk P w K mg base (L2.CX P w) k f6 fd6 ["pairs", "names", "kind"] (spPO K C CB)) (b6 : Binds K fd6 ["pairs", "names", "kind"] [])
    (kb1 : KBn K fd6 ["pairs", "names", "kind"] 0 ["pairs", "names"] (fun _ ws => ws ++ [dv']) (fun _ zs => zs ++ [.str anyS])) (k6 : PySem.W.keepIn K (.ref f6) = true) (m6 : mg "program_of" = some (.ref f6)) :
    FnOk P w K mg base CX0 (k + 1) f fd ["script"] (spLaw K) := by
  refine F.ok scLaw (fun vs H Q E h => ?_) (fun cdv A outer s H vs Q E hr h => ?_)
  · obtain ⟨a, ns, rfl, _⟩ := h
    rfl
  obtain ⟨a, ns, rfl, hS, hl, q⟩ := h
  refine ⟨_, pss_cons (ps_for PassesOwn.never rfl (pi_range1 rfl T.range (pa_cons (pe_op op_add pe_int (pe_callB (call_min2 rfl) (by rfl) T.min (by decide +kernel) (pa_cons pe_int (pa_cons (pe_callB call_len_seq (by rfl) T.len PySem.boot_len (pa_cons (pv 0) pa_nil)) pa_nil)))) pa_nil)) (pg_name (i := 1) scLaw.nd rfl (.inl rfl))
      (pss_cons (ps_set (i := 2) scLaw.nd rfl (.inl rfl) (pe_call G1 hr (by rfl) m1 k1 b1 .nil pass0 (pa_cons (pv 0) (pa_cons (pv 1) pa_nil))))
      (pss_one (ps_for PassesOwn.never rfl (pi_range1 rfl T.range (pa_cons pe_int pa_nil)) (pg_name (i := 3) scLaw.nd rfl (.inl rfl))
        (pss_cons (ps_set (i := 4) scLaw.nd rfl (.inl rfl) (pe_ix ix_list (pe_lst (pa_cons (pe_tup pa_nil) (pa_cons (pe_tup (pa_cons pe_str pa_nil)) (pa_cons (pe_tup (pa_cons pe_str (pa_cons pe_str pa_nil))) (pa_cons (pe_tup (pa_cons pe_str (pa_cons pe_str (pa_cons pe_str pa_nil)))) (pa_cons (pe_tup (pa_cons pe_str (pa_cons pe_str (pa_cons pe_str pa_nil)))) pa_nil)))))) (pe_call G2 hr (by rfl) m2 k2 b2 .nil pass0 (pa_cons (pv 2) (pa_cons pe_int pa_nil))) (fun _ _ => rfl)))
        (pss_cons (ps_set (i := 5) scLaw.nd rfl (.inl rfl) (pe_call G3 hr (by rfl) m3 k3 b3 .nil pass0 (pa_cons (pv 2) (pa_cons (pv 4) pa_nil))))
        (pss_cons (ps_set (i := 6) scLaw.nd rfl (.inl rfl) (pe_call G2 hr (by rfl) m2 k2 b2 .nil pass0 (pa_cons (pv 2) (pa_cons pe_int pa_nil))))
        (pss_mid (ps_if (pt_cmpR op_lt (pv 6) pe_int (nomark _)) (pss_one (ps_set (i := 5) scLaw.nd rfl (.inl rfl) (pe_call G4 hr (by rfl) m4 k4 b4 .nil pass0 (pa_cons (pv 5) (pa_cons (pe_ix ix_list (pe_lst (pa_cons pe_str (pa_cons pe_str (pa_cons pe_str pa_nil)))) (pv 6) (fun _ _ => rfl)) pa_nil))))) pss_nil)
        (pss_cons (ps_set (i := 5) scLaw.nd rfl (.inl rfl) (pe_op op_cat (pe_revL (pv 5)) (pe_slice sl_list (pv 5) po_none (po_some (pe_call G2 hr (by rfl) m2 k2 b2 .nil pass0 (pa_cons (pv 2) (pa_cons pe_int pa_nil)))))))
        (pss_cons (ps_set (i := 7) scLaw.nd rfl (.inl rfl) (pe_callTy call_list_of (by rfl) T.list (by decide +kernel) (pa_cons (pv 5) pa_nil)))
        (pss_cons (ps_for PassesOwn.never rfl (pi_tup (pe_tup (pa_cons pe_str (pa_cons pe_str (pa_cons pe_str pa_nil))))) (pg_name (i := 8) scLaw.nd rfl (.inl rfl))
          (pss_one (ps_if (PW.pt (pw_or (pt_not (pt_val (pe_call G5 hr (by rfl) m5 k5 b5 .nil pass0 (pa_cons (pv 5) (pa_cons (pv 4) (pa_cons (pv 8) pa_nil))))))
            (pw_or1 (pt_not (pt_val (pe_call G5 hr (by rfl) m5 k5 b5 .nil pass0 (pa_cons (pe_callTy call_tuple_of (by rfl) T.tuple (by decide +kernel) (pa_cons (pv 5) pa_nil)) (pa_cons (pv 4) (pa_cons (pv 8) pa_nil))))))))) pss_never pss_nil)))
        (pss_one (ps_if (pt_cmpR (op_neD hr.units) (pv 5) (pv 7) (nomark _)) pss_never pss_nil)))))))))))))
    (pss_one (ps_ret (pe_cmpR (op_eqP hE iE GE hr pass0) (pe_callK0 G6 hr (by rfl) m6 k6 kb1 passNo (pk_cons (pe_lst (pa_cons (pe_tup (pa_cons (pe_tup pa_nil) (pa_cons (pe_tup pa_nil) pa_nil))) pa_nil)) (pk_cons (pe_tup (pa_cons pe_str pa_nil)) pk_nil)) (by rfl) (by rfl) (by rfl) (by rfl) (by rfl))
      (pe_call G6 hr (by rfl) m6 k6 b6 .nil passNo (pa_cons (pe_lst (pa_cons (pe_tup (pa_cons (pe_tup pa_nil) (pa_cons (pe_tup pa_nil) pa_nil))) pa_nil)) (pa_cons (pe_tup (pa_cons pe_str pa_nil)) (pa_cons pe_str pa_nil)))) (nomark _)))), ?_⟩
  obtain ⟨n0, hn0, hn1⟩ : ∃ n0 : Nat, (1 + (if ((ns.map V.int).length : Int) < 5 then ((ns.map V.int).length : Int) else 5)) = (n0 : Int) ∧ n0 ≤ 6 := by
    rw [List.length_map]
    by_cases c : (ns.length : Int) < 5
    · rw [if_pos c]
      exact ⟨1 + ns.length, by omega, by omega⟩
    · rw [if_neg c]
      exact ⟨6, by omega, by omega⟩
  refine ⟨.ref a, rfl, a, _, rfl, .inl hS, 5, ((ns.map V.int).length : Int), rfl, _, _, rfl, rfl, _, rfl, ?_⟩
  rw [hn0]
  refine ⟨by omega, by omega, ?_⟩
  refine for_range (n := (n0 : Int).toNat) (fun i σ H1 => ∃ y1 y2 y3 y4 y5 y6 y7 y8, σ = [some (.ref a), y1, y2, y3, y4, y5, y6, y7, y8] ∧ Same H H1) ⟨_, _, _, _, _, _, _, _, rfl, fun _ _ e => e⟩ (fun i σ HA hi hI => ?_) (fun σ H1 hI => ?_)
  · obtain ⟨y1, y2, y3, y4, y5, y6, y7, y8, rfl, smA⟩ := hI
    have hi6 : i < 6 := by omega
    -- purse = _law_purse(script, at)
    refine ⟨.ref a, rfl, .int (0 + (i : Int)), rfl, a, ns, i, ?_, smA.seq hS, hl, by omega, fun HB p sAB hpn hP0 => ?_⟩
    · rw [Int.zero_add]
      rfl
    have up : ∀ H', Bar p HB H' → Same H H' := fun H' b c u e => b c u (fun z => by
      have := smA _ _ e
      rw [z, hpn] at this
      cases this) (sAB _ _ (smA _ _ e))
    refine ⟨3, rfl, by decide, by decide, for_range (n := 3) (fun j σ H1 => ∃ y3 y4 y5 y6 y7 y8, σ = [some (.ref a), some (.int (0 + (i : Int))), some (.ref p), y3, y4, y5, y6, y7, y8] ∧ Bar p HB H1 ∧ Pur H1 p (100000 + 2000 * j)) ⟨_, _, _, _, _, _, rfl, fun _ _ _ e => e, hP0.le (by omega)⟩ (fun j σ H1 hj hI => ?_) (fun σ H1 hI => ?_)⟩
    · obtain ⟨y3, y4, y5, y6, y7, y8, rfl, bar, pu⟩ := hI
      -- pool = [..][_law_draw(purse, 5)]
      refine ⟨by show 0 ≤ sizeLine; decide, fun t0 ht0 => ⟨by show 1 ≤ sizeLine; decide, fun t1 ht1 => ⟨by show 2 ≤ sizeLine; decide, fun t2 ht2 => ⟨by show 3 ≤ sizeLine; decide, fun t3 ht3 => ⟨by show 3 ≤ sizeLine; decide, fun t4 ht4 => ⟨by show 5 ≤ sizeLine; decide, fun l0 hl0 => ?_⟩⟩⟩⟩⟩⟩
      have u0 := same_new ht0 (.tup [])
      have u1 := same_new ht1 (.tup [.str "a"])
      have u2 := same_new ht2 (.tup [.str "a", .str "ab"])
      have u3 := same_new ht3 (.tup [.str "a", .str "ab", .str "b"])
      have u4 := same_new ht4 (.tup [.str "a", .str "ab", .str "b"])
      have u5 := same_new hl0 (.lst [.ref t0, .ref t1, .ref t2, .ref t3, .ref t4])
      have uA := u0.trans (u1.trans (u2.trans (u3.trans (u4.trans u5))))
      have pu4 := pu.same (u0.trans (u1.trans (u2.trans (u3.trans u4))))
      have nl0 : l0 ≠ p := pu4.some hl0
      have puA := pu4.same u5
      refine ⟨.ref p, rfl, p, 5, _, rfl, puA, by omega, by decide, by decide, fun r us r0 r1 puC => ?_⟩
      have stC : Stay _ (upd _ p (.lst us)) := .put puA.mut _
      have barC : Bar p HB (upd _ p (.lst us)) := (bar.trans (.same uA)).trans .draw
      obtain ⟨r', rfl⟩ : ∃ r' : Nat, r = r' := Int.eq_ofNat_of_zero_le r0
      obtain ⟨pool, hpool, hpl⟩ := pools r' (by omega)
      have items : DpAll K _ [.ref t0, .ref t1, .ref t2, .ref t3, .ref t4] (([[], [("a" : Str)], [("a" : Str), ("ab" : Str)], [("a" : Str), ("ab" : Str), ("b" : Str)], [("a" : Str), ("ab" : Str), ("b" : Str)]] : List W).map wd) :=
        .cons (to_wd (ns := []) (SqT.of ((u1.trans (u2.trans (u3.trans (u4.trans u5)))) _ _ upd_same))) (.cons (to_wd (ns := ["a"]) (SqT.of ((u2.trans (u3.trans (u4.trans u5))) _ _ upd_same))) (.cons (to_wd (ns := ["a", "ab"]) (SqT.of ((u3.trans (u4.trans u5)) _ _ upd_same)))
          (.cons (to_wd (ns := ["a", "ab", "b"]) (SqT.of ((u4.trans u5) _ _ upd_same))) (.cons (to_wd (ns := ["a", "ab", "b"]) (SqT.of (u5 _ _ upd_same))) .nil))))
      obtain ⟨x, hxi, hx0⟩ := dpAll_at items (i := r') (d := wd pool) (by rw [List.getElem?_map, hpool]; rfl)
      have hxC := stC.wd hx0
      refine ⟨l0, _, r', x, rfl, rfl, SqL.of (by rw [upd_ne nl0]; exact upd_same), atI_nat (j := r') hxi, ?_⟩
      generalize upd _ p (.lst us) = HC at puC barC hxC ⊢
      clear stC items hx0 uA u0 u1 u2 u3 u4 u5 puA pu4
      -- rows = _law_drawn(purse, pool)
      refine ⟨.ref p, rfl, x, rfl, p, x, pool, _, rfl, puC, by omega, hxC, hpl, fun HD l L barD nlD puD ownD nL iL => ?_⟩
      have barD' := barC.trans barD
      have hxD := (barD.stay puC.mut).wd hxC
      have nlp : l ≠ p := puC.some nlD
      -- way = _law_draw(purse, 4)
      refine ⟨.ref p, rfl, p, 4, _, rfl, puD, by omega, by decide, by decide, fun way us2 w0 w1 puE => ?_⟩
      have hxE := (Stay.put puD.mut (.lst us2)).wd hxD
      have ownE := ownD.draw (o := .lst us2) nlp puD.mut
      have barE := barD'.trans (Bar.draw (o := .lst us2))
      have nlB : HB l = none := none_bar barC puC nlD
      generalize upd HD p (.lst us2) = HE at puE hxE ownE barE ⊢
      obtain ⟨way', rfl⟩ : ∃ r' : Nat, way = r' := Int.eq_ofNat_of_zero_le w0
      -- if way < 3
      refine ⟨fun σ H1 => ∃ l L, σ = [some (.ref a), some (.int (0 + (i : Int))), some (.ref p), some (.int (0 + (j : Int))), some x, some (.ref l), some (.int way'), y7, y8] ∧ Bar p HB H1 ∧ Pur H1 p (102000 + 2000 * j - 900) ∧ Dp K H1 x (wd pool) ∧ Own K H1 l L ∧ HB l = none ∧ L.Nodup ∧ ∀ q ∈ L, IsP pool q, ?_, fun σ HF hI => ?_⟩
      · refine ⟨.int way', rfl, _, _, rfl, rfl, _, rfl, ite2 (fun e => ?_) (fun e => ?_)⟩
        · have hw3 : way' < 3 := by
            have := of_decide_eq_true e
            omega
          refine ⟨.ref l, rfl, by show 3 ≤ sizeLine; decide, fun l1 hl1 => ?_⟩
          have v1 := same_new hl1 (.lst [.str anyS, .str plainS, .str singleS])
          obtain ⟨z, hz⟩ : ∃ z, ([anyS, plainS, singleS] : W)[way']? = some z := ⟨_, List.getElem?_eq_getElem (by simpa using hw3)⟩
          refine ⟨.int way', rfl, l1, [.str anyS, .str plainS, .str singleS], way', .str z, rfl, rfl, SqL.of upd_same, atI_nat (j := way') ?_, l, z, pool, L, rfl, ownE.same v1, nL, iL, hpl, fun HF l' L' sF nl' own' nL' iL' => ?_⟩
          · show (([anyS, plainS, singleS] : W).map V.str)[way']? = some (V.str z)
            rw [List.getElem?_map, hz]
            rfl
          · have vF := v1.trans sF
            exact ⟨l', L', rfl, barE.trans (.same vF), (puE.same vF).le (by omega), (Stay.same vF).wd hxE, own', none_bar (barE.trans (.same v1)) (puE.same v1) nl', nL', iL'⟩
        · exact ⟨l, L, rfl, barE, puE.le (by omega), hxE, ownE, nlB, nL, iL⟩
      clear barE puE hxE ownE nlB nL iL nlp ownD nlD hxD barD' puD barD
      obtain ⟨l, L, rfl, barF, puF, hxF, ownF, nlB, nL, iL⟩ := hI
      have nlp : l ≠ p := by
        obtain ⟨xs, h, _⟩ := ownF
        obtain ⟨_, _, _, h', _⟩ := hP0
        intro e
        rw [e, h'] at nlB
        cases nlB
      obtain ⟨xs, ho, hxs⟩ := ownF
      have xl : xs.length = L.length := by rw [dpAll_len hxs, List.length_map]
      have fewL := pairs_few hpl nL iL
      -- rows = rows[::-1] + rows[:_law_draw(purse, 2)]
      refine ⟨.ref l, rfl, l, xs, rfl, SqL.of ho, fun l1 hl1 => ?_⟩
      have v1 := same_new hl1 (.lst xs.reverse)
      have nl1p : l1 ≠ p := puF.some hl1
      refine ⟨.ref l, rfl, .ref p, rfl, p, 2, _, rfl, puF.same v1, by omega, by decide, by decide, fun r4 us5 g0 g1 puH => ?_⟩
      obtain ⟨r', rfl⟩ : ∃ r' : Nat, r4 = r' := Int.eq_ofNat_of_zero_le g0
      have st5 : Stay (upd HF l1 (.lst xs.reverse)) (upd (upd HF l1 (.lst xs.reverse)) p (.lst us5)) := .put (puF.same v1).mut _
      have barH := (barF.trans (Bar.same v1)).trans (Bar.draw (o := .lst us5))
      have hoH : (upd (upd HF l1 (.lst xs.reverse)) p (.lst us5)) l = some (.lst xs) := by
        rw [upd_ne nlp]
        exact v1 _ _ ho
      have h1H : (upd (upd HF l1 (.lst xs.reverse)) p (.lst us5)) l1 = some (.lst xs.reverse) := by
        rw [upd_ne nl1p, upd_same]
      have hxsH := ((Stay.same v1).trans st5).dpAll _ _ (okDs_pd _) hxs
      have hxH := ((Stay.same v1).trans st5).wd hxF
      generalize upd (upd HF l1 (.lst xs.reverse)) p (.lst us5) = HH at puH barH hoH h1H hxsH hxH ⊢
      refine ⟨_, rfl, l, xs, rfl, SqL.of hoH, fun l2 hl2 => ?_⟩
      have v2 := same_new hl2 (.lst (cutV xs none (some (r' : Int))))
      have cl : (cutV xs none (some (r' : Int))).length ≤ 1 := by
        unfold cutV
        rw [List.length_take, HT.sIx_nat]
        omega
      refine ⟨l1, l2, xs.reverse, cutV xs none (some (r' : Int)), rfl, rfl, v2 _ _ h1H, upd_same, small_line (by rw [List.length_reverse]; omega), fun l3 hl3 => ?_⟩
      have v3 := same_new hl3 (.lst (xs.reverse ++ cutV xs none (some (r' : Int))))
      -- held = list(rows)
      refine ⟨.ref l3, rfl, l3, _, rfl, .inl (SqL.of upd_same), fun l4 hl4 => ?_⟩
      have v4 := same_new hl4 (.lst (xs.reverse ++ cutV xs none (some (r' : Int))))
      have vA := v2.trans (v3.trans v4)
      obtain ⟨L3, own3, own4, few3, iL3⟩ : ∃ L3, Own K _ l3 L3 ∧ Own K _ l4 L3 ∧ L3.length < 76 ∧ ∀ q ∈ L3, IsP pool q := by
        have dc : DpAll K HH (xs.reverse ++ cutV xs none (some (r' : Int))) ((L.reverse ++ (L.drop (HT.sIx xs.length 0 none)).take (HT.sIx xs.length xs.length (some (r' : Int)) - HT.sIx xs.length 0 none)).map pd) := by
          rw [List.map_append, List.map_reverse, List.map_take, List.map_drop]
          exact dpAll_app (dpAll_rev hxsH) (dpAll_take _ (dpAll_drop _ hxsH))
        have dA := (Stay.same vA).dpAll _ _ (okDs_pd _) dc
        refine ⟨_, ⟨_, v4 _ _ upd_same, dA⟩, ⟨_, upd_same, dA⟩, ?_, fun q hq => ?_⟩
        · have z := dpAll_len dc
          rw [List.length_map, List.length_append, List.length_reverse] at z
          omega
        · rcases List.mem_append.mp hq with hq | hq
          · exact iL q (List.mem_reverse.mp hq)
          · exact iL q (List.mem_of_mem_drop (List.mem_of_mem_take hq))
      have barR := barH.trans (Bar.same (p := p) vA)
      have puR := puH.same vA
      have hxR := (Stay.same vA).wd hxH
      have iLw : ∀ q ∈ L3, IsW q.1 ∧ IsW q.2 := fun q hq => ⟨(iL3 q hq).w1, (iL3 q hq).w2⟩
      have iL4 : ∀ q ∈ L3, IsP pool4 q := fun q hq => (iL3 q hq).to4 hpl
      generalize upd (upd (upd HH l2 (.lst (cutV xs none (some (r' : Int))))) l3 (.lst (xs.reverse ++ cutV xs none (some (r' : Int))))) l4 (.lst (xs.reverse ++ cutV xs none (some (r' : Int)))) = HR at barR puR hxR own3 own4 ⊢
      -- for kind in ('any', 'plain', 'single')
      refine ⟨by show 3 ≤ sizeLine; decide, fun t ht => ⟨t, rfl, ⟨_, SqT.of upd_same⟩, for_tup (xs := ([anyS, plainS, singleS] : W).map V.str) (fun n σ H1 => ∃ y8, σ = [some (.ref a), some (.int (0 + (i : Int))), some (.ref p), some (.int (0 + (j : Int))), some x, some (.ref l3), some (.int way'), some (.ref l4), y8] ∧ Same HR H1 ∧ SqT K H1 t (([anyS, plainS, singleS] : W).map V.str)) ⟨_, rfl, same_new ht _, SqT.of upd_same⟩ (fun n σ H1 _ hI => by obtain ⟨_, _, _, h⟩ := hI; exact h) (fun n u σ H1 hu hI => ?_) (fun σ H1 hI => ?_)⟩⟩
      · obtain ⟨y8, rfl, sm, hT⟩ := hI
        obtain ⟨z, hz, rfl⟩ := map_at hu
        have hzm : z ∈ [anyS, plainS, singleS] := List.mem_of_getElem? hz
        refine ⟨.ref l3, rfl, x, rfl, .str z, rfl, ?_⟩
        dsimp only [tNil]
        refine ⟨l3, x, pool, z, L3, rfl, (own3.same sm).ps, (Stay.same sm).wd hxR, hpl, iL3, hzm, few3, fun H2 s2 => ⟨true, rfl, iteF ?_⟩⟩
        have sm2 := sm.trans s2
        obtain ⟨xs3, ho3, hx3⟩ := own3.same sm2
        refine ⟨.ref l3, rfl, l3, xs3, rfl, .inl ⟨SqL.of ho3, fun t4 ht4 => ?_⟩⟩
        have v4 := same_new ht4 (.tup xs3)
        have sm4 := sm2.trans v4
        refine ⟨x, rfl, .str z, rfl, ?_⟩
        dsimp only [tNil]
        refine ⟨t4, x, pool, z, L3, rfl, ⟨xs3, .inr (SqT.of upd_same), (Stay.same v4).dpAll _ _ (okDs_pd _) hx3⟩, (Stay.same sm4).wd hxR, hpl, iL3, hzm, few3, fun H5 s5 => ⟨true, rfl, iteF ?_⟩⟩
        exact ⟨_, rfl, sm4.trans s5, same_tup (s2.trans (v4.trans s5)) hT⟩
      obtain ⟨y8, rfl, sm, hT⟩ := hI
      -- rows != held
      have sL := shaped_pds iLw
      refine ⟨.ref l3, rfl, .ref l4, rfl, .list (L3.map pd), .list (L3.map pd), (own3.same sm).pl.data, (own4.same sm).pl.data, sL, sL, _, rfl, ?_⟩
      rw [eqv_self sL]
      exact iteF ⟨_, _, _, _, _, _, rfl, barR.trans (.same sm), (puR.same sm).le (by omega)⟩
    · obtain ⟨y3, y4, y5, y6, y7, y8, rfl, bar, pu⟩ := hI
      exact ⟨_, _, _, _, _, _, _, _, rfl, up _ bar⟩
  · obtain ⟨y1, y2, y3, y4, y5, y6, y7, y8, rfl, sm⟩ := hI
    have wa : IsW [("a" : Str)] := ⟨by decide +kernel, by simp [UpX], by decide⟩
    have w0 : IsW [] := ⟨(fun _ z => nomatch z), List.Pairwise.nil, Nat.zero_le _⟩
    have ip : ∀ q ∈ ([([], [])] : List Pr), IsP [("a" : Str)] q := fun q hq => by
      rw [List.mem_singleton.mp hq]
      exact ⟨w0, w0, rfl, rfl⟩
    have ew : whyO [([], [])] anyS = none := by
      have e1 : totO [([], [])] = none := by
        unfold totO
        rw [List.findSome?_eq_none_iff]
        intro q hq
        rw [List.mem_singleton.mp hq]
        unfold totIn
        rw [if_pos List.mem_cons_self]
      unfold whyO
      rw [e1, if_pos rfl, if_neg (by decide)]
      rfl
    have oneR : ∀ R : List Pr, R.Nodup → Rising (R.map pd) → (∀ p, p ∈ R ↔ p ∈ ([([], [])] : List Pr)) → R = [([], [])] := fun R n r m => pairs_one r (List.pairwise_singleton _ _) n (by simp) m
    have isr : ∀ {S : List Rl}, Srt S (madeL [("a" : Str)] [([], [])] anyS) → ∀ r ∈ S, IsR r := fun {S} hs r hr => by
      obtain ⟨t, ht, hr⟩ := List.mem_flatMap.mp ((hs.mem r).mp hr)
      exact rows_isR wa (isW_sl wa (mem_every.mp ht)) r hr
    -- program_of(pairs=[((), ())], names=("a",))
    refine ⟨by show 0 ≤ sizeLine; decide, fun c1 h1 => ⟨by show 0 ≤ sizeLine; decide, fun c2 h2 => ⟨by show 2 ≤ sizeLine; decide, fun c3 h3 => ⟨by show 1 ≤ sizeLine; decide, fun l1 hl1 => ⟨by show 1 ≤ sizeLine; decide, fun t1 ht1 => ?_⟩⟩⟩⟩⟩
    have v1 := same_new h1 (.tup [])
    have v2 := same_new h2 (.tup [])
    have v3 := same_new h3 (.tup [.ref c1, .ref c2])
    have v4 := same_new hl1 (.lst [.ref c3])
    have v5 := same_new ht1 (.tup [.str "a"])
    refine ⟨rfl, l1, .ref t1, [("a" : Str)], anyS, [([], [])], rfl, ⟨[.ref c3], .inl (SqL.of (v5 _ _ upd_same)), .cons (to_pd (p := ([], [])) (SqT.of ((v4.trans v5) _ _ upd_same)) (to_wd (ns := []) (SqT.of ((v2.trans (v3.trans (v4.trans v5))) _ _ upd_same))) (to_wd (ns := []) (SqT.of ((v3.trans (v4.trans v5)) _ _ upd_same)))) .nil⟩, to_wd (SqT.of upd_same), wa, by decide, ip, by simp, by decide, fun R nR ris mem => ?_⟩
    obtain rfl := oneR R nR ris mem
    refine ⟨fun _ HA x1 S1 sA hs1 hl1 hx1 => ?_, fun d e => by rw [ew] at e; exact nomatch e⟩
    -- program_of([((), ())], ("a",), "any")
    refine ⟨by show 0 ≤ sizeLine; decide, fun d1 g1 => ⟨by show 0 ≤ sizeLine; decide, fun d2 g2 => ⟨by show 2 ≤ sizeLine; decide, fun d3 g3 => ⟨by show 1 ≤ sizeLine; decide, fun l2 hl2 => ⟨by show 1 ≤ sizeLine; decide, fun t2 ht2 => ?_⟩⟩⟩⟩⟩
    have u1 := same_new g1 (.tup [])
    have u2 := same_new g2 (.tup [])
    have u3 := same_new g3 (.tup [.ref d1, .ref d2])
    have u4 := same_new hl2 (.lst [.ref d3])
    have u5 := same_new ht2 (.tup [.str "a"])
    refine ⟨l2, .ref t2, [("a" : Str)], anyS, [([], [])], rfl, ⟨[.ref d3], .inl (SqL.of (u5 _ _ upd_same)), .cons (to_pd (p := ([], [])) (SqT.of ((u4.trans u5) _ _ upd_same)) (to_wd (ns := []) (SqT.of ((u2.trans (u3.trans (u4.trans u5))) _ _ upd_same))) (to_wd (ns := []) (SqT.of ((u3.trans (u4.trans u5)) _ _ upd_same)))) .nil⟩, to_wd (SqT.of upd_same), wa, by decide, ip, by simp, by decide, fun R nR ris mem => ?_⟩
    obtain rfl := oneR R nR ris mem
    refine ⟨fun _ HB x2 S2 sB hs2 hl2' hx2 => ?_, fun d e => by rw [ew] at e; exact nomatch e⟩
    have hx1' := hx1.same (u1.trans (u2.trans (u3.trans (u4.trans (u5.trans sB)))))
    obtain ⟨a1, dx1, t1', ys1, rfl, i1, _, _⟩ := id hx1'
    obtain ⟨a2, dx2, t2', ys2, rfl, j1, _, _⟩ := id hx2
    have es : S1 = S2 := Srt.one hs1 hs2 fun _ => Iff.rfl
    refine ⟨a1, dx1, _, a2, dx2, _, rfl, rfl, i1, j1, .ref a1, .ref a2, S1, rfl, hx1', isr hs1, .inl ⟨S2, hx2, isr hs2, ?_⟩⟩
    rw [decide_eq_true es]
    exact q _
end
end Rw
namespace Rw
open PySem PySem.Spec PyProof.Rows L2
/-! ### the error Barred -/
theorem scEBarred : FnScope ["self", "why"] ["self", "why"] (defScope sEBarred) := ⟨rfl, rfl, rfl, by decide +kernel, rfl, by decide +kernel, by decide +kernel⟩
section
variable {P : Program} {w : World} {K : PySem.W.Frag} {mg : Str → Option Value} {base : Heap} {f : Addr} {fd : FuncData} {k : Nat}
theorem ok_eBarred {C : Addr} (F : FunD K "__init__" "Barred.__init__" (defArgs sEBarred) (defBody sEBarred) (defScope sEBarred) [.non] [] f fd) (O : OexC K C) (no : PySem.W.findIn K (.ref C) "why" = some none) : FnOk P w K mg base CX0 (k + 1) f fd ["self", "why"] (spErr C "why") := by
  refine F.ok scEBarred (fun vs H Q E h => ?_) (fun cdv A outer s H vs Q E hr h => ?_)
  · obtain ⟨a, v, rfl, _⟩ := h
    rfl
  obtain ⟨a, v, rfl, ha, q⟩ := h
  exact ⟨_, PSs.nox (pss_one (ps_ost (pv 0) (pv 1))), v, rfl, .ref a, rfl, a, C, rfl, O, no, .inl ⟨ha, fun dx h1 h2 => q dx h1 h2⟩⟩
end
end Rw
namespace Rw
open PySem PySem.Spec PyProof.Rows L2 ClX
theorem exL_at {K : PySem.W.Frag} {C : Addr} (h : (exL K C).all id = true) (i : Nat) {b : Bool} (e : (exL K C)[i]? = some b) : b = true := List.all_eq_true.mp h b (List.mem_of_getElem? e)
theorem pgC_of {K : PySem.W.Frag} {mg : Str → Option Value} {C : Addr} (h : pgP K C) (m : mg "Program" = some (.ref C)) (c : Cls K C) : PgC K mg C := by
  obtain ⟨h1, h2, h3, h4, h5, h6, h7, h8, h9, h10, h11, h12⟩ := h
  exact ⟨h1, h2, h3, h4, h5, h6, h7, h8, m, c, h9, h10, h11, h12⟩
theorem hfacts {P : Program} {w : World} {K : PySem.W.Frag} {h : Heap} {mg : Str → Option Value} {f : Addr} (X : K.In h) (G : h.Ns mainGlobals mg) (hfa_ : mg ("law" : Str) = some (.ref f)) (c : He5.SaysA hfa hfn K) (ce : exB K = true) :
    ∃ fd : FuncData, (∀ (s : Shared) (v : Value), BindsTo s fd ⟨[v], []⟩ [("script", v)]) ∧ ∀ base : Heap, K.In base → base.Ns mainGlobals mg → FnOk P w K mg base CX0 12 f fd ["script"] (spLaw K) := by
  obtain ⟨fd0, D0⟩ := c.def_ 0 (d := dOf "is_name" sIsName) rfl
  have F0 : Fun K "is_name" "is_name" sIsName _ fd0 := fun_of D0
  have B0 := D0.bindsN (ps := ["thing"]) fun _ _ _ _ _ _ us hl => match us, hl with | [_], _ => rfl
  have M0 : mg "is_name" = _ := He.glo_ok X G (c.fact 20 (f := .glo "is_name") rfl)
  obtain ⟨fd1, D1⟩ := c.def_ 1 (d := dOf "_are_names" sAreNames) rfl
  have F1 : Fun K "_are_names" "_are_names" sAreNames _ fd1 := fun_of D1
  have B1 := D1.bindsN (ps := ["thing"]) fun _ _ _ _ _ _ us hl => match us, hl with | [_], _ => rfl
  have M1 : mg "_are_names" = _ := He.glo_ok X G (c.fact 21 (f := .glo "_are_names") rfl)
  obtain ⟨fd2, D2⟩ := c.def_ 2 (d := dOf "_set_of" sSetOf) rfl
  have F2 : Fun K "_set_of" "_set_of" sSetOf _ fd2 := fun_of D2
  have B2 := D2.bindsN (ps := ["names"]) fun _ _ _ _ _ _ us hl => match us, hl with | [_], _ => rfl
  have M2 : mg "_set_of" = _ := He.glo_ok X G (c.fact 22 (f := .glo "_set_of") rfl)
  obtain ⟨fd3, D3⟩ := c.def_ 3 (d := dOf "is_world" sIsWorld) rfl
  have F3 : Fun K "is_world" "is_world" sIsWorld _ fd3 := fun_of D3
  have B3 := D3.bindsN (ps := ["thing"]) fun _ _ _ _ _ _ us hl => match us, hl with | [_], _ => rfl
  have M3 : mg "is_world" = _ := He.glo_ok X G (c.fact 23 (f := .glo "is_world") rfl)
  obtain ⟨fd4, D4⟩ := c.def_ 4 (d := dOf "is_rule" sIsRule) rfl
  have F4 : Fun K "is_rule" "is_rule" sIsRule _ fd4 := fun_of D4
  have B4 := D4.bindsN (ps := ["thing"]) fun _ _ _ _ _ _ us hl => match us, hl with | [_], _ => rfl
  have M4 : mg "is_rule" = _ := He.glo_ok X G (c.fact 24 (f := .glo "is_rule") rfl)
  obtain ⟨fd5, D5⟩ := c.def_ 5 (d := dOf "is_pair" sIsPair) rfl
  have F5 : Fun K "is_pair" "is_pair" sIsPair _ fd5 := fun_of D5
  have B5 := D5.bindsN (ps := ["thing"]) fun _ _ _ _ _ _ us hl => match us, hl with | [_], _ => rfl
  have M5 : mg "is_pair" = _ := He.glo_ok X G (c.fact 25 (f := .glo "is_pair") rfl)
  obtain ⟨fd6, D6⟩ := c.def_ 6 (d := dOf "has_all" sHasAll) rfl
  have F6 : Fun K "has_all" "has_all" sHasAll _ fd6 := fun_of D6
  have B6 := D6.bindsN (ps := ["names", "wanted"]) fun _ _ _ _ _ _ us hl => match us, hl with | [_, _], _ => rfl
  have M6 : mg "has_all" = _ := He.glo_ok X G (c.fact 26 (f := .glo "has_all") rfl)
  obtain ⟨fd7, D7⟩ := c.def_ 7 (d := dOf "without" sWithout) rfl
  have F7 : Fun K "without" "without" sWithout _ fd7 := fun_of D7
  have B7 := D7.bindsN (ps := ["names", "left_out"]) fun _ _ _ _ _ _ us hl => match us, hl with | [_, _], _ => rfl
  have M7 : mg "without" = _ := He.glo_ok X G (c.fact 27 (f := .glo "without") rfl)
  obtain ⟨fd8, D8⟩ := c.def_ 8 (d := dOf "check_program" sCheckProgram) rfl
  have F8 : Fun K "check_program" "check_program" sCheckProgram _ fd8 := fun_of D8
  have B8 := D8.bindsN (ps := ["thing"]) fun _ _ _ _ _ _ us hl => match us, hl with | [_], _ => rfl
  have M8 : mg "check_program" = _ := He.glo_ok X G (c.fact 28 (f := .glo "check_program") rfl)
  obtain ⟨fd9, D9⟩ := c.def_ 9 (d := dOf "check_world" sCheckWorld) rfl
  have F9 : Fun K "check_world" "check_world" sCheckWorld _ fd9 := fun_of D9
  have B9 := D9.bindsN (ps := ["thing"]) fun _ _ _ _ _ _ us hl => match us, hl with | [_], _ => rfl
  have M9 : mg "check_world" = _ := He.glo_ok X G (c.fact 29 (f := .glo "check_world") rfl)
  obtain ⟨fd10, D10⟩ := c.def_ 10 (d := dOf "check_kind" sCheckKind) rfl
  have F10 : Fun K "check_kind" "check_kind" sCheckKind _ fd10 := fun_of D10
  have B10 := D10.bindsN (ps := ["thing", "kinds"]) fun _ _ _ _ _ _ us hl => match us, hl with | [_, _], _ => rfl
  have M10 : mg "check_kind" = _ := He.glo_ok X G (c.fact 30 (f := .glo "check_kind") rfl)
  obtain ⟨fd11, D11⟩ := c.def_ 11 (d := dOf "_chosen_names" sChosen) rfl
  have F11 : Fun K "_chosen_names" "_chosen_names" sChosen _ fd11 := fun_of D11
  have B11 := D11.bindsN (ps := ["program", "names"]) fun _ _ _ _ _ _ us hl => match us, hl with | [_, _], _ => rfl
  have M11 : mg "_chosen_names" = _ := He.glo_ok X G (c.fact 31 (f := .glo "_chosen_names") rfl)
  obtain ⟨fd12, D12⟩ := c.def_ 12 (d := dOf "_bits_of" sBitsOf) rfl
  have F12 : Fun K "_bits_of" "_bits_of" sBitsOf _ fd12 := fun_of D12
  have B12 := D12.bindsN (ps := ["names"]) fun _ _ _ _ _ _ us hl => match us, hl with | [_], _ => rfl
  have M12 : mg "_bits_of" = _ := He.glo_ok X G (c.fact 32 (f := .glo "_bits_of") rfl)
  obtain ⟨fd13, D13⟩ := c.def_ 13 (d := dOf "_number" sNumber) rfl
  have F13 : Fun K "_number" "_number" sNumber _ fd13 := fun_of D13
  have B13 := D13.bindsN (ps := ["world", "bits"]) fun _ _ _ _ _ _ us hl => match us, hl with | [_, _], _ => rfl
  have M13 : mg "_number" = _ := He.glo_ok X G (c.fact 33 (f := .glo "_number") rfl)
  obtain ⟨fd14, D14⟩ := c.def_ 14 (d := dOf "_numbered" sNumbered) rfl
  have F14 : Fun K "_numbered" "_numbered" sNumbered _ fd14 := fun_of D14
  have B14 := D14.bindsN (ps := ["program", "bits"]) fun _ _ _ _ _ _ us hl => match us, hl with | [_, _], _ => rfl
  have M14 : mg "_numbered" = _ := He.glo_ok X G (c.fact 34 (f := .glo "_numbered") rfl)
  obtain ⟨fd15, D15⟩ := c.def_ 15 (d := dOf "_every_world" sEvery) rfl
  have F15 : Fun K "_every_world" "_every_world" sEvery _ fd15 := fun_of D15
  have B15 := D15.bindsN (ps := ["names"]) fun _ _ _ _ _ _ us hl => match us, hl with | [_], _ => rfl
  have M15 : mg "_every_world" = _ := He.glo_ok X G (c.fact 35 (f := .glo "_every_world") rfl)
  obtain ⟨fd16, D16⟩ := c.def_ 16 (d := dOf "_agree" sAgree) rfl
  have F16 : Fun K "_agree" "_agree" sAgree _ fd16 := fun_of D16
  have B16 := D16.bindsN (ps := ["rows", "here", "there"]) fun _ _ _ _ _ _ us hl => match us, hl with | [_, _, _], _ => rfl
  have M16 : mg "_agree" = _ := He.glo_ok X G (c.fact 36 (f := .glo "_agree") rfl)
  obtain ⟨fd17, D17⟩ := c.def_ 17 (d := dOf "_check_asked" sAsked) rfl
  have F17 : Fun K "_check_asked" "_check_asked" sAsked _ fd17 := fun_of D17
  have B17 := D17.bindsN (ps := ["pairs", "names", "kind"]) fun _ _ _ _ _ _ us hl => match us, hl with | [_, _, _], _ => rfl
  have M17 : mg "_check_asked" = _ := He.glo_ok X G (c.fact 37 (f := .glo "_check_asked") rfl)
  obtain ⟨fd18, D18⟩ := c.def_ 18 (d := dOf "_why_not" sWhyNot) rfl
  have F18 : Fun K "_why_not" "_why_not" sWhyNot _ fd18 := fun_of D18
  have B18 := D18.bindsN (ps := ["chosen", "kind"]) fun _ _ _ _ _ _ us hl => match us, hl with | [_, _], _ => rfl
  have M18 : mg "_why_not" = _ := He.glo_ok X G (c.fact 38 (f := .glo "_why_not") rfl)
  obtain ⟨fd19, D19⟩ := c.def_ 19 (d := dOf "_not_total" sTotal) rfl
  have F19 : Fun K "_not_total" "_not_total" sTotal _ fd19 := fun_of D19
  have B19 := D19.bindsN (ps := ["chosen", "present"]) fun _ _ _ _ _ _ us hl => match us, hl with | [_, _], _ => rfl
  have M19 : mg "_not_total" = _ := He.glo_ok X G (c.fact 39 (f := .glo "_not_total") rfl)
  obtain ⟨fd20, D20⟩ := c.def_ 20 (d := dOf "_not_upward" sUpward) rfl
  have F20 : Fun K "_not_upward" "_not_upward" sUpward _ fd20 := fun_of D20
  have B20 := D20.bindsN (ps := ["chosen", "present"]) fun _ _ _ _ _ _ us hl => match us, hl with | [_, _], _ => rfl
  have M20 : mg "_not_upward" = _ := He.glo_ok X G (c.fact 40 (f := .glo "_not_upward") rfl)
  obtain ⟨fd21, D21⟩ := c.def_ 21 (d := dOf "_not_meeting" sMeeting) rfl
  have F21 : Fun K "_not_meeting" "_not_meeting" sMeeting _ fd21 := fun_of D21
  have B21 := D21.bindsN (ps := ["chosen", "present"]) fun _ _ _ _ _ _ us hl => match us, hl with | [_, _], _ => rfl
  have M21 : mg "_not_meeting" = _ := He.glo_ok X G (c.fact 41 (f := .glo "_not_meeting") rfl)
  obtain ⟨fd22, D22⟩ := c.def_ 22 (d := dOf "_heads_against" sHeadsA) rfl
  have F22 : Fun K "_heads_against" "_heads_against" sHeadsA _ fd22 := fun_of D22
  have B22 := D22.bindsN (ps := ["here", "there", "lows", "kind"]) fun _ _ _ _ _ _ us hl => match us, hl with | [_, _, _, _], _ => rfl
  have M22 : mg "_heads_against" = _ := He.glo_ok X G (c.fact 42 (f := .glo "_heads_against") rfl)
  obtain ⟨fd23, D23⟩ := c.def_ 23 (d := dOf "_worlds_below" sBelow) rfl
  have F23 : Fun K "_worlds_below" "_worlds_below" sBelow _ fd23 := fun_of D23
  have B23 := D23.bindsN (ps := ["chosen"]) fun _ _ _ _ _ _ us hl => match us, hl with | [_], _ => rfl
  have M23 : mg "_worlds_below" = _ := He.glo_ok X G (c.fact 43 (f := .glo "_worlds_below") rfl)
  obtain ⟨fd24, D24⟩ := c.def_ 24 (d := dOf "_common" sCommon) rfl
  have F24 : Fun K "_common" "_common" sCommon _ fd24 := fun_of D24
  have B24 := D24.bindsN (ps := ["one", "other"]) fun _ _ _ _ _ _ us hl => match us, hl with | [_, _], _ => rfl
  have M24 : mg "_common" = _ := He.glo_ok X G (c.fact 44 (f := .glo "_common") rfl)
  obtain ⟨fd25, D25⟩ := c.def_ 25 (d := dOf "_law_at" sLawAt) rfl
  have F25 : Fun K "_law_at" "_law_at" sLawAt _ fd25 := fun_of D25
  have B25 := D25.bindsN (ps := ["script", "k"]) fun _ _ _ _ _ _ us hl => match us, hl with | [_, _], _ => rfl
  have M25 : mg "_law_at" = _ := He.glo_ok X G (c.fact 45 (f := .glo "_law_at") rfl)
  obtain ⟨fd26, D26⟩ := c.def_ 26 (d := dOf "_law_mixed" sLawMixed) rfl
  have F26 : Fun K "_law_mixed" "_law_mixed" sLawMixed _ fd26 := fun_of D26
  have B26 := D26.bindsN (ps := ["cell", "k"]) fun _ _ _ _ _ _ us hl => match us, hl with | [_, _], _ => rfl
  have M26 : mg "_law_mixed" = _ := He.glo_ok X G (c.fact 46 (f := .glo "_law_mixed") rfl)
  obtain ⟨fd27, D27⟩ := c.def_ 27 (d := dOf "_law_purse" sLawPurse) rfl
  have F27 : Fun K "_law_purse" "_law_purse" sLawPurse _ fd27 := fun_of D27
  have B27 := D27.bindsN (ps := ["script", "at"]) fun _ _ _ _ _ _ us hl => match us, hl with | [_, _], _ => rfl
  have M27 : mg "_law_purse" = _ := He.glo_ok X G (c.fact 47 (f := .glo "_law_purse") rfl)
  obtain ⟨fd28, D28⟩ := c.def_ 28 (d := dOf "_law_draw" sLawDraw) rfl
  have F28 : Fun K "_law_draw" "_law_draw" sLawDraw _ fd28 := fun_of D28
  have B28 := D28.bindsN (ps := ["purse", "out_of"]) fun _ _ _ _ _ _ us hl => match us, hl with | [_, _], _ => rfl
  have M28 : mg "_law_draw" = _ := He.glo_ok X G (c.fact 48 (f := .glo "_law_draw") rfl)
  obtain ⟨fd29, D29⟩ := c.def_ 29 (d := dOf "_law_stands" sLawStands) rfl
  have F29 : Fun K "_law_stands" "_law_stands" sLawStands _ fd29 := fun_of D29
  have B29 := D29.bindsN (ps := ["row", "here", "there"]) fun _ _ _ _ _ _ us hl => match us, hl with | [_, _, _], _ => rfl
  have M29 : mg "_law_stands" = _ := He.glo_ok X G (c.fact 49 (f := .glo "_law_stands") rfl)
  obtain ⟨fd30, D30⟩ := c.def_ 30 (d := dOf "_law_holds" sLawHolds) rfl
  have F30 : Fun K "_law_holds" "_law_holds" sLawHolds _ fd30 := fun_of D30
  have B30 := D30.bindsN (ps := ["rows", "here", "there"]) fun _ _ _ _ _ _ us hl => match us, hl with | [_, _, _], _ => rfl
  have M30 : mg "_law_holds" = _ := He.glo_ok X G (c.fact 50 (f := .glo "_law_holds") rfl)
  obtain ⟨fd31, D31⟩ := c.def_ 31 (d := dOf "_law_parts" sLawParts) rfl
  have F31 : Fun K "_law_parts" "_law_parts" sLawParts _ fd31 := fun_of D31
  have B31 := D31.bindsN (ps := ["pool"]) fun _ _ _ _ _ _ us hl => match us, hl with | [_], _ => rfl
  have M31 : mg "_law_parts" = _ := He.glo_ok X G (c.fact 51 (f := .glo "_law_parts") rfl)
  obtain ⟨fd32, D32⟩ := c.def_ 32 (d := dOf "_law_pairs" sLawPairs) rfl
  have F32 : Fun K "_law_pairs" "_law_pairs" sLawPairs _ fd32 := fun_of D32
  have B32 := D32.bindsN (ps := ["rows", "pool"]) fun _ _ _ _ _ _ us hl => match us, hl with | [_, _], _ => rfl
  have M32 : mg "_law_pairs" = _ := He.glo_ok X G (c.fact 52 (f := .glo "_law_pairs") rfl)
  obtain ⟨fd33, D33⟩ := c.def_ 33 (d := dOf "_law_in" sLawIn) rfl
  have F33 : Fun K "_law_in" "_law_in" sLawIn _ fd33 := fun_of D33
  have B33 := D33.bindsN (ps := ["one", "other"]) fun _ _ _ _ _ _ us hl => match us, hl with | [_, _], _ => rfl
  have M33 : mg "_law_in" = _ := He.glo_ok X G (c.fact 53 (f := .glo "_law_in") rfl)
  obtain ⟨fd34, D34⟩ := c.def_ 34 (d := dOf "_law_meet" sLawMeet) rfl
  have F34 : Fun K "_law_meet" "_law_meet" sLawMeet _ fd34 := fun_of D34
  have B34 := D34.bindsN (ps := ["one", "other"]) fun _ _ _ _ _ _ us hl => match us, hl with | [_, _], _ => rfl
  have M34 : mg "_law_meet" = _ := He.glo_ok X G (c.fact 54 (f := .glo "_law_meet") rfl)
  obtain ⟨fd35, D35⟩ := c.def_ 35 (d := dOf "_law_why" sLawWhy) rfl
  have F35 : Fun K "_law_why" "_law_why" sLawWhy _ fd35 := fun_of D35
  have B35 := D35.bindsN (ps := ["rows", "kind"]) fun _ _ _ _ _ _ us hl => match us, hl with | [_, _], _ => rfl
  have M35 : mg "_law_why" = _ := He.glo_ok X G (c.fact 55 (f := .glo "_law_why") rfl)
  obtain ⟨fd36, D36⟩ := c.def_ 36 (d := dOf "_law_closed" sLawClosed) rfl
  have F36 : Fun K "_law_closed" "_law_closed" sLawClosed _ fd36 := fun_of D36
  have B36 := D36.bindsN (ps := ["rows", "kind"]) fun _ _ _ _ _ _ us hl => match us, hl with | [_, _], _ => rfl
  have M36 : mg "_law_closed" = _ := He.glo_ok X G (c.fact 56 (f := .glo "_law_closed") rfl)
  obtain ⟨fd37, D37⟩ := c.def_ 37 (d := dOf "_law_drawn" sLawDrawn) rfl
  have F37 : Fun K "_law_drawn" "_law_drawn" sLawDrawn _ fd37 := fun_of D37
  have B37 := D37.bindsN (ps := ["purse", "pool"]) fun _ _ _ _ _ _ us hl => match us, hl with | [_, _], _ => rfl
  have M37 : mg "_law_drawn" = _ := He.glo_ok X G (c.fact 57 (f := .glo "_law_drawn") rfl)
  obtain ⟨fd38, D38⟩ := c.def_ 38 (d := dOf "_law_kind_right" sKindRight) rfl
  have F38 : Fun K "_law_kind_right" "_law_kind_right" sKindRight _ fd38 := fun_of D38
  have B38 := D38.bindsN (ps := ["rows", "kind"]) fun _ _ _ _ _ _ us hl => match us, hl with | [_, _], _ => rfl
  have M38 : mg "_law_kind_right" = _ := He.glo_ok X G (c.fact 58 (f := .glo "_law_kind_right") rfl)
  obtain ⟨fd39, D39⟩ := c.def_ 39 (d := dOf "_law_made_right" sMadeRight) rfl
  have F39 : Fun K "_law_made_right" "_law_made_right" sMadeRight _ fd39 := fun_of D39
  have B39 := D39.bindsN (ps := ["rows", "pool", "kind"]) fun _ _ _ _ _ _ us hl => match us, hl with | [_, _, _], _ => rfl
  have M39 : mg "_law_made_right" = _ := He.glo_ok X G (c.fact 59 (f := .glo "_law_made_right") rfl)
  obtain ⟨fd40, D40⟩ := c.def_ 40 (d := dOf "law" sLaw) rfl
  have F40 : Fun K "law" "law" sLaw _ fd40 := fun_of D40
  have B40 := D40.bindsN (ps := ["script"]) fun _ _ _ _ _ _ us hl => match us, hl with | [_], _ => rfl
  have M40 : mg "law" = _ := He.glo_ok X G (c.fact 60 (f := .glo "law") rfl)
  obtain ⟨fdInit, DInit⟩ := c.def_ 41 (d := dMInit) rfl
  have FInit : Fun K "__init__" "Program.__init__" sInit _ fdInit := fun_of DInit
  obtain ⟨fdRules, DRules⟩ := c.def_ 42 (d := dMRules) rfl
  have FRules : Fun K "rules" "Program.rules" sRules _ fdRules := fun_of DRules
  have BRules := DRules.bindsN (ps := ["self"]) fun _ _ _ _ _ _ us hl => match us, hl with | [_], _ => rfl
  obtain ⟨fdNames, DNames⟩ := c.def_ 43 (d := dMNames) rfl
  have FNames : Fun K "names" "Program.names" sNames _ fdNames := fun_of DNames
  have BNames := DNames.bindsN (ps := ["self"]) fun _ _ _ _ _ _ us hl => match us, hl with | [_], _ => rfl
  obtain ⟨fdPEq, DPEq⟩ := c.def_ 44 (d := dMPEq) rfl
  have FPEq : Fun K "__eq__" "Program.__eq__" sPEq _ fdPEq := fun_of DPEq
  have BPEq := DPEq.bindsN (ps := ["self", "other"]) fun _ _ _ _ _ _ us hl => match us, hl with | [_, _], _ => rfl
  obtain ⟨fdENotProg, DENotProg⟩ := c.def_ 45 (d := dMENotProg) rfl
  have EENotProg : FunD K "__init__" "NotAProgram.__init__" (defArgs sENotProg) (defBody sENotProg) (defScope sENotProg) [.non] [] _ fdENotProg := DENotProg
  obtain ⟨dsENotProg, vENotProg, BENotProg⟩ := EENotProg.binds1 (ps := ["self", "thing"]) 2 1 (by simp) rfl fun T kV doc pm an cdv ct us its h1 h2 => match us, its, h1, h2 with | [_, _], [_], _, _ => ⟨_, rfl, rfl⟩
  cases vENotProg
  obtain ⟨fdEBarred, DEBarred⟩ := c.def_ 46 (d := dMEBarred) rfl
  have EEBarred : FunD K "__init__" "Barred.__init__" (defArgs sEBarred) (defBody sEBarred) (defScope sEBarred) [.non] [] _ fdEBarred := DEBarred
  obtain ⟨dsEBarred, vEBarred, BEBarred⟩ := EEBarred.binds1 (ps := ["self", "why"]) 2 1 (by simp) rfl fun T kV doc pm an cdv ct us its h1 h2 => match us, its, h1, h2 with | [_, _], [_], _, _ => ⟨_, rfl, rfl⟩
  cases vEBarred
  obtain ⟨fdWorlds, DWorlds⟩ := c.def_ 47 (d := dOfV "worlds" sWorlds (.non)) rfl
  have EWorlds : FunD K "worlds" "worlds" (defArgs sWorlds) (defBody sWorlds) (defScope sWorlds) [.non] [] _ fdWorlds := DWorlds
  have MWorlds : mg "worlds" = _ := He.glo_ok X G (c.fact 61 (f := .glo "worlds") rfl)
  obtain ⟨fdBarred, DBarred⟩ := c.def_ 48 (d := dOfV "barred" sBarred (.str anyS)) rfl
  have EBarred : FunD K "barred" "barred" (defArgs sBarred) (defBody sBarred) (defScope sBarred) [.str anyS] [] _ fdBarred := DBarred
  have MBarred : mg "barred" = _ := He.glo_ok X G (c.fact 62 (f := .glo "barred") rfl)
  obtain ⟨fdPO, DPO⟩ := c.def_ 49 (d := dOfV "program_of" sPO (.str anyS)) rfl
  have EPO : FunD K "program_of" "program_of" (defArgs sPO) (defBody sPO) (defScope sPO) [.str anyS] [] _ fdPO := DPO
  have MPO : mg "program_of" = _ := He.glo_ok X G (c.fact 63 (f := .glo "program_of") rfl)
  obtain ⟨dsW, vW, BW⟩ := EWorlds.binds1 (ps := ["program", "names"]) 2 1 (by simp) rfl fun T kV doc pm an cdv ct us its h1 h2 => match us, its, h1, h2 with | [_, _], [_], _, _ => ⟨_, rfl, rfl⟩
  cases vW
  obtain ⟨dsB, vB, BB⟩ := EBarred.binds1 (ps := ["pairs", "names", "kind"]) 3 1 (by simp) rfl fun T kV doc pm an cdv ct us its h1 h2 => match us, its, h1, h2 with | [_, _, _], [_], _, _ => ⟨_, rfl, rfl⟩
  cases vB
  obtain ⟨dsP, vP, BP⟩ := EPO.binds1 (ps := ["pairs", "names", "kind"]) 3 1 (by simp) rfl fun T kV doc pm an cdv ct us its h1 h2 => match us, its, h1, h2 with | [_, _, _], [_], _, _ => ⟨_, rfl, rfl⟩
  cases vP
  obtain ⟨it1, w1, KB1⟩ := kbn_def (ps := ["pairs", "names", "kind"]) EPO (by simp) 0 ["pairs", "names"] (fun _ its ws => ws ++ its) (fun _ zs => zs ++ [.str anyS]) (fun T kV doc pm an cdv ct us its ws h1 h2 h3 => match us, its, ws, h1, h2, h3 with | [], [_], [_, _], _, _, _ => ⟨_, rfl, rfl⟩) (fun _ b c => c.append b)
  obtain ⟨dv', rfl⟩ : ∃ dv', it1 = [dv'] := by
    cases w1 with
    | cons r t =>
      cases t
      exact ⟨_, rfl⟩
  have mProgram : mg "Program" = _ := He.glo_ok X G (c.fact 17 (f := .glo "Program") rfl)
  have mNotAProgram : mg "NotAProgram" = _ := He.glo_ok X G (c.fact 18 (f := .glo "NotAProgram") rfl)
  have mBarred : mg "Barred" = _ := He.glo_ok X G (c.fact 19 (f := .glo "Barred") rfl)
  have T : Bl mg := ⟨He.free_ok X G (c.fact 0 (f := .free "len") rfl), He.free_ok X G (c.fact 1 (f := .free "isinstance") rfl), He.free_ok X G (c.fact 2 (f := .free "all") rfl), He.free_ok X G (c.fact 3 (f := .free "any") rfl), He.free_ok X G (c.fact 4 (f := .free "tuple") rfl), He.free_ok X G (c.fact 5 (f := .free "list") rfl), He.free_ok X G (c.fact 6 (f := .free "sorted") rfl), He.free_ok X G (c.fact 7 (f := .free "set") rfl), He.free_ok X G (c.fact 8 (f := .free "str") rfl), He.free_ok X G (c.fact 9 (f := .free "int") rfl), He.free_ok X G (c.fact 10 (f := .free "max") rfl), He.free_ok X G (c.fact 11 (f := .free "min") rfl), He.free_ok X G (c.fact 12 (f := .free "range") rfl), He.free_ok X G (c.fact 13 (f := .free "enumerate") rfl)⟩
  have Ts := He.free_ok X G (c.fact 14 (f := .free "sum") rfl)
  have mL := He.str_ok X G (c.fact 15 (f := .str "LETTERS" lettersS) rfl)
  have mK : mg "KINDS" = _ := He.glo_ok X G (c.fact 16 (f := .glo "KINDS") rfl)
  have cP := He.cls_ok (c.fact 64 (f := .cls "Program") rfl)
  have nR := He.noat_ok (c.fact 65 (f := .noat "Program" "_rules") rfl)
  have MK := He.mkr_ok (c.fact 66 (f := .mkr "Program") rfl)
  have noNotAProgram := He.noat_ok (c.fact 67 (f := .noat "NotAProgram" "thing") rfl)
  have noBarred := He.noat_ok (c.fact 68 (f := .noat "Barred" "why") rfl)
  have exB := He.exm_ok (c.fact 69 (f := .exm "Barred" "Barred" true) rfl)
  have ce' : (exL K (He.ga K "Program")).all id = true := ce
  have PG := pgC_of (of_decide_eq_true (exL_at ce' 0 rfl)) mProgram cP
  have hK := He.tupB_ok (exL_at ce' 1 rfl)
  have PR := propP_ok (of_decide_eq_true (exL_at ce' 8 rfl)) (exL_at ce' 9 rfl)
  have PN := propP_ok (of_decide_eq_true (exL_at ce' 10 rfl)) (exL_at ce' 11 rfl)
  have heq := (of_decide_eq_true (exL_at ce' 12 rfl))
  have jeq := (exL_at ce' 13 rfl)
  obtain ⟨iNotAProgram1, iNotAProgram2⟩ := (of_decide_eq_true (exL_at ce' 3 rfl))
  obtain ⟨iBarred1, iBarred2⟩ := (of_decide_eq_true (exL_at ce' 6 rfl))
  have EB : ErrB K mg (He.ga K "Barred") := ⟨mBarred, exB, excP_ok (of_decide_eq_true (exL_at ce' 7 rfl)), noBarred⟩
  have e := hfa_.symm.trans M40
  cases e
  refine ⟨fd40, fun s v => ?_, fun base _ _ => ?_⟩
  · exact FunD.bindsA (ps := ["script"]) D40 (fun _ _ _ _ _ _ us hl => match us, hl with | [_], _ => rfl) s [v] rfl
  have gIsName : ∀ k, FnOk P w K mg base CX0 (k + 1) _ fd0 ["thing"] (spIsName K) := fun k => ok_isName (k := k) F0 T mL
  have gAre : ∀ k, FnOk P w K mg base CX0 (k + 2) _ fd1 ["thing"] (spAreNames K) := fun k => ok_areNames (k := k + 1) F1 T (gIsName k) B0 F0.kp M0
  have gSet : ∀ k, FnOk P w K mg base CX0 (k + 1) _ fd2 ["names"] (spSetOf K) := fun k => ok_setOf (k := k) F2 T
  have gIsW : ∀ k, FnOk P w K mg base CX0 (k + 3) _ fd3 ["thing"] (spIsWorld K) := fun k => ok_isWorld (k := k + 2) F3 T (gAre k) B1 F1.kp M1 (gSet (k + 1)) B2 F2.kp M2
  have gIsR : ∀ k, FnOk P w K mg base CX0 (k + 4) _ fd4 ["thing"] (spIsRule K) := fun k => ok_isRule (k := k + 3) F4 T (gIsW k) B3 F3.kp M3
  have gIsWD : ∀ k, FnOk P w K mg base CX0 (k + 3) _ fd3 ["thing"] (spIsWorldD K) := fun k => ok_isWorldD (gIsW k)
  have gHas : ∀ k, FnOk P w K mg base CX0 (k + 1) _ fd6 ["names", "wanted"] (spHasAll K) := fun k => ok_hasAll (k := k) F6 T
  have gHasD : ∀ k, FnOk P w K mg base CX0 (k + 1) _ fd6 ["names", "wanted"] (spHasAllD K) := fun k => ok_hasAllD (gHas k)
  have gIsP : ∀ k, FnOk P w K mg base CX0 (k + 4) _ fd5 ["thing"] (spIsPair K) := fun k => ok_isPair (k := k + 3) F5 T (gIsWD k) B3 F3.kp M3 (gHasD (k + 2)) B6 F6.kp M6
  have gWout : ∀ k, FnOk P w K mg base CX0 (k + 1) _ fd7 ["names", "left_out"] (spWithout K) := fun k => ok_without (k := k) F7 T
  have gCW : ∀ k, FnOk P w K mg base CX0 (k + 4) _ fd9 ["thing"] (spCheckWorldD K) := fun k => ok_checkWorldD (k := k + 3) F9 (gIsWD k) B3 F3.kp M3
  have gCK : ∀ k, FnOk P w K mg base CX0 (k + 1) _ fd10 ["thing", "kinds"] (spCheckKind K) := fun k => ok_checkKind (k := k) F10
  have gTot : ∀ k, FnOk P w K mg base CX0 (k + 1) _ fd19 ["chosen", "present"] (spTotal K P w) := fun k => ok_total (k := k) F19
  have gUp : ∀ k, FnOk P w K mg base CX0 (k + 2) _ fd20 ["chosen", "present"] (spUpward K P w) := fun k => ok_upward (k := k + 1) F20 (gHasD k) B6 F6.kp M6
  have gCom : ∀ k, FnOk P w K mg base CX0 (k + 1) _ fd24 ["one", "other"] (spCommon K) := fun k => ok_common (k := k) F24 T
  have gBel : ∀ k, FnOk P w K mg base CX0 (k + 1) _ fd23 ["chosen"] (spBelow K P w) := fun k => ok_below (k := k) F23
  have gMe : ∀ k, FnOk P w K mg base CX0 (k + 2) _ fd21 ["chosen", "present"] (spMeeting K P w) := fun k => ok_meeting (k := k + 1) F21 (gBel k) B23 F23.kp M23 (gCom k) B24 F24.kp M24
  have gWhy : ∀ k, FnOk P w K mg base CX0 (k + 3) _ fd18 ["chosen", "kind"] (spWhyNot K) := fun k => ok_whyNot (k := k + 2) F18 (gTot (k + 1)) B19 F19.kp M19 (gUp k) B20 F20.kp M20 (gMe k) B21 F21.kp M21
  have gAsk : ∀ k, FnOk P w K mg base CX0 (k + 5) _ fd17 ["pairs", "names", "kind"] (spAsked K) := fun k => ok_asked (k := k + 4) F17 (gCW k) B9 F9.kp M9 (gIsP k) B5 F5.kp M5 (gHasD (k + 3)) B6 F6.kp M6 (gCK (k + 3)) B10 F10.kp M10 mK hK
  have gHeads : ∀ k, FnOk P w K mg base CX0 (k + 2) _ fd22 ["here", "there", "lows", "kind"] (spHeadsA K) := fun k => ok_headsA (k := k + 1) F22 (gWout k) B7 F7.kp M7 (gHasD k) B6 F6.kp M6 (gCom k) B24 F24.kp M24
  have gBits : ∀ k, FnOk P w K mg base CX0 (k + 1) _ fd12 ["names"] (spBitsOf K) := fun k => ok_bitsOf (k := k) F12 T
  have gNum : ∀ k, FnOk P w K mg base CX0 (k + 1) _ fd13 ["world", "bits"] (spNumber K) := fun k => ok_number (k := k) F13 T Ts
  have gEvery : ∀ k, FnOk P w K mg base CX0 (k + 1) _ fd15 ["names"] (spEvery K) := fun k => ok_every (k := k) F15
  have gAgree : ∀ k, FnOk P w K mg base CX0 (k + 1) _ fd16 ["rows", "here", "there"] (spAgree K) := fun k => ok_agree (k := k) F16
  have xNotAProgram : ∀ k, ErrT P w K mg base (k + 1) "NotAProgram" "thing" (He.ga K "NotAProgram") := fun k => ⟨oexB_ok (exL_at ce' 2 rfl), ⟨_, _, iNotAProgram1, iNotAProgram2, ok_eNotProg (k := k) EENotProg (oexB_ok (exL_at ce' 2 rfl)) noNotAProgram, BENotProg⟩, mNotAProgram⟩
  have xBarred : ∀ k, ErrT P w K mg base (k + 1) "Barred" "why" (He.ga K "Barred") := fun k => ⟨oexB_ok (exL_at ce' 5 rfl), ⟨_, _, iBarred1, iBarred2, ok_eBarred (k := k) EEBarred (oexB_ok (exL_at ce' 5 rfl)) noBarred, BEBarred⟩, mBarred⟩
  have gInit : ∀ k, FnR P w K mg base CX0 (k + 5) _ (spInit K (He.ga K "Program")) := fun k => by
    obtain ⟨oc, od, kV, doc, pm, an, cdv, ct, osl, e, lk, hcd⟩ := FInit.ex
    subst e
    exact ok_init (k := k + 4) lk hcd T cP nR (gIsR k) B4 F4.kp M4
  have gRules : ∀ k, FnOk P w K mg base CX0 (k + 1) _ fdRules ["self"] (spRules K (He.ga K "Program")) := fun k => ok_rules (k := k) FRules cP nR
  have gNames : ∀ k, FnOk P w K mg base CX0 (k + 1) _ fdNames ["self"] (spNames K (He.ga K "Program")) := fun k => ok_names (k := k) FNames T cP nR
  have gEq : ∀ k, FnR P w K mg base CX0 (k + 1) _ (spPEqG K (He.ga K "Program")) := fun k => fnr_of (ok_pEqG (k := k) FPEq T PG nR) BPEq
  have gCP : ∀ k, FnOk P w K mg base (L2.CX P w) (k + 3) _ fd8 ["thing"] (spCheckProgram K (He.ga K "Program") (He.ga K "NotAProgram")) := fun k => ok_checkProgram (k := k + 1) F8 T PG (xNotAProgram k)
  have gChosen : ∀ k, FnOk P w K mg base CX0 (k + 5) _ fd11 ["program", "names"] (spChosen K (He.ga K "Program")) := fun k => ok_chosen (k := k + 3) F11 cP PN (gCP (k + 1)) B8 F8.kp M8 (gNames (k + 2)) BNames (gIsW (k + 1)) B3 F3.kp M3 (gHas (k + 3)) B6 F6.kp M6
  have gNumd : ∀ k, FnOk P w K mg base CX0 (k + 3) _ fd14 ["program", "bits"] (spNumbered K (He.ga K "Program")) := fun k => ok_numbered (k := k + 1) F14 T cP PR (gNum (k + 1)) B13 F13.kp M13 (gRules k) BRules
  have gWorlds : ∀ k, GFn P w K mg base (k + 6) _ fdWorlds ["program", "names"] (spWorlds K (He.ga K "Program")) := fun k => ok_worlds (k := k + 5) EWorlds (gChosen k) B11 F11.kp M11 (gBits (k + 4)) B12 F12.kp M12 (gNumd (k + 2)) B14 F14.kp M14 (gEvery (k + 4)) B15 F15.kp M15 (gNum (k + 4)) B13 F13.kp M13 (gAgree (k + 4)) B16 F16.kp M16
  have gBar : ∀ k, FnOk P w K mg base CX0 (k + 6) _ fdBarred ["pairs", "names", "kind"] (spBarred K) := fun k => ok_barred (k := k + 5) EBarred T (gAsk k) B17 F17.kp M17 (gWhy (k + 2)) B18 F18.kp M18
  have gPO : ∀ k, FnOk P w K mg base (L2.CX P w) (k + 10) _ fdPO ["pairs", "names", "kind"] (spPO K (He.ga K "Program") (He.ga K "Barred")) := fun k => ok_PO (k := k + 6) EPO T (xBarred (k + 7)) MK (gInit (k + 3)) mProgram (gAsk (k + 4)) B17 F17.kp M17 (gWhy (k + 6)) B18 F18.kp M18 (gBel (k + 8)) B23 F23.kp M23 (gWout (k + 8)) B7 F7.kp M7 (gHeads (k + 7)) B22 F22.kp M22 (gWorlds k) BW EWorlds.kp MWorlds
  have gAt : ∀ k, FnOk P w K mg base CX0 (k + 1) _ fd25 ["script", "k"] (spLawAt K) := fun k => ok_lawAt (k := k) F25 T
  have gMix : ∀ k, FnOk P w K mg base CX0 (k + 1) _ fd26 ["cell", "k"] (spLawMixed) := fun k => ok_lawMixed (k := k) F26 T
  have gPur : ∀ k, FnOk P w K mg base CX0 (k + 2) _ fd27 ["script", "at"] (spLawPurse K) := fun k => ok_lawPurse (k := k + 1) F27 T (gAt k) B25 F25.kp M25
  have gDraw : ∀ k, FnOk P w K mg base CX0 (k + 2) _ fd28 ["purse", "out_of"] (spLawDraw) := fun k => ok_lawDraw (k := k + 1) F28 T (gMix k) B26 F26.kp M26
  have gStands : ∀ k, FnOk P w K mg base CX0 (k + 1) _ fd29 ["row", "here", "there"] (spLawStands K) := fun k => ok_lawStands (k := k) F29
  have gHolds : ∀ k, FnOk P w K mg base CX0 (k + 2) _ fd30 ["rows", "here", "there"] (spLawHolds K) := fun k => ok_lawHolds (k := k + 1) F30 (gStands k) B29 F29.kp M29
  have gPartsE : ∀ k, FnOk P w K mg base CX0 (k + 1) _ fd31 ["pool"] (spLawPartsE K) := fun k => ok_lawPartsE (k := k) F31 T
  have gLPairs : ∀ k, FnOk P w K mg base CX0 (k + 3) _ fd32 ["rows", "pool"] (spLawPairs K) := fun k => ok_lawPairs (k := k + 2) F32 T (gPartsE (k + 1)) B31 F31.kp M31 (gHolds k) B30 F30.kp M30
  have gParts : ∀ k, FnOk P w K mg base CX0 (k + 1) _ fd31 ["pool"] (spLawParts K) := fun k => ok_lawParts (k := k) F31 T
  have gIn : ∀ k, FnOk P w K mg base CX0 (k + 1) _ fd33 ["one", "other"] (spLawIn K) := fun k => ok_lawIn (k := k) F33
  have gMeet : ∀ k, FnOk P w K mg base CX0 (k + 1) _ fd34 ["one", "other"] (spCommon K) := fun k => ok_lawMeet (k := k) F34 T
  have gLWhy : ∀ k, FnOk P w K mg base CX0 (k + 2) _ fd35 ["rows", "kind"] (spLawWhy K) := fun k => ok_lawWhy (k := k + 1) F35 T (gParts k) B31 F31.kp M31 (gIn k) B33 F33.kp M33 (gMeet k) B34 F34.kp M34
  have gClo : ∀ k, FnOk P w K mg base CX0 (k + 3) _ fd36 ["rows", "kind"] (spLawClosed K) := fun k => ok_lawClosed (k := k + 2) F36 T (gLWhy k) B35 F35.kp M35 (gMeet (k + 1)) B34 F34.kp M34
  have gDrawn : ∀ k, FnOk P w K mg base CX0 (k + 3) _ fd37 ["purse", "pool"] (spLawDrawn K) := fun k => ok_lawDrawn (k := k + 2) F37 T (gDraw k) B28 F28.kp M28 (gParts (k + 1)) B31 F31.kp M31
  have gKR : ∀ k, FnOk P w K mg base CX0 (k + 1) _ fd38 ["rows", "kind"] (spKindRight K) := fun k => ok_kindRight (k := k) F38 T
  have gMR : ∀ k, FnOk P w K mg base CX0 (k + 11) _ fd39 ["rows", "pool", "kind"] (spMadeRight K) := fun k => ok_madeRight (k := k + 9) F39 T EB PG cP PR PN (gPO k) BP EPO.kp MPO (gBar (k + 4)) BB EBarred.kp MBarred (gKR (k + 9)) B38 F38.kp M38 (gIn (k + 9)) B33 F33.kp M33 (gLPairs (k + 7)) B32 F32.kp M32 (gRules (k + 8)) BRules (gNames (k + 8)) BNames
  exact ok_law (k := 11) F40 T heq jeq (gEq 10) (gPur 9) B27 F27.kp M27 (gDraw 9) B28 F28.kp M28 (gDrawn 8) B37 F37.kp M37 (gClo 8) B36 F36.kp M36 (gMR 0) B39 F39.kp M39 (gPO 1) BP KB1 EPO.kp MPO
end Rw
open PySem PySem.W PySem.Calls PyProof.Rows
theorem PySem.Challenge.cw_ruleworlds_k26_programs_made_of_pairs_holds : PySem.Challenge.rw_ruleworlds_k26_programs_made_of_pairs.Holds := by
  w_on; o_law
  refine HandSHeadRun.head_any (r := OpenLaw.row PySem.Challenge.rw_ruleworlds_k26_programs_made_of_pairs) (q := view (OpenLaw.row PySem.Challenge.rw_ruleworlds_k26_programs_made_of_pairs).prog [68]) (H := Rw.hH) (ob := Rw.hob) (M := 9000) (loose := Rw.hloose) (d := HandSHeadRun.topDef (OpenLaw.row PySem.Challenge.rw_ruleworlds_k26_programs_made_of_pairs).prog 68) (kwd := []) Rw.hob_eq
    (by kernel_rfl) (fun s => by kernel_rfl) Rw.hrun (by kernel_rfl) (by kernel_rfl) (by kernel_rfl) (by rfl) (by first | assumption | decide +kernel) (by decide +kernel) ⟨rfl, rfl, rfl, rfl, rfl, by decide +kernel⟩ ?hw ?hc
  case hw => w_witness2
  case hc =>
    refine L2.walk_ofE (l := PySem.Challenge.rw_ruleworlds_k26_programs_made_of_pairs) (n := 63) (k := 12) (x := "script") (CX := L2.CX0) rfl (by decide) (by kernel_rfl) ⟨rfl, by decide, by decide⟩ ?F (fun _ _ _ _ z => z)
    intro w mg fa h Y G hmg0
    obtain ⟨K, KX, c, ce⟩ := Y
    have hmg : mg ("law" : PySem.Str) = some (.ref fa) := by
      have e : (HandSHeadRun.topDef (OpenLaw.row PySem.Challenge.rw_ruleworlds_k26_programs_made_of_pairs).prog 68).name = ("law" : PySem.Str) := by kernel_rfl
      rw [← e]
      exact hmg0
    obtain ⟨fd, hb, hF⟩ := Rw.hfacts (P := (PySem.Challenge.rw_ruleworlds_k26_programs_made_of_pairs).prog) (w := w) KX G hmg c ce
    exact ⟨K, fd, Rw.spLaw K, KX, hb, fun H a ns hl _ hS => ⟨a, ns, rfl, hS, hl, fun _ => rfl⟩, hF⟩
