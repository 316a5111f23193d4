import PyProof.Rows.All
import Wide.All
import OpenK.AllK
import Wide.FinOn
import HandS.TupSets
import KE.KeyNested
import KE.KDictKeyed
import KE.SortData
import HandS.SetTxt0
import KE.DataCmp
import HandS.ForMost
import HandS.DictComp
import KE.GoesComp
import KE.GoesMore
import HandS.IsInst
import HandS.Defaults
import HandS.TupAny
import HandS.Deep
import HandS.Style
import HandS.Star
import HandS.ClsMeth
import HandS.Property
import HandS.CallLocal
import HandS.SlotsOwn
import HandS.Exc
import HandS.ExcInit
import HandS.ExcValue
import HandS.ExcIs
import HandS.ExcField
import KE.KStateDown
import HandS.Head0
import HandS.Head1
import HandS.Head2
import HandS.HeadEnd
import HandS.HeadHook1
import HandS.HeadHook2
import HandS.HeadHook3
import HandS.HeadHook4
import HandS.HeadNt
import PySem.Challenge.RW_ruleworlds_k03_programs_written_and_read
import HandS.SetBool
import HandS.WordsExc
import HandS.Text
import HandS.StrMore
import HandS.FStr
import HandS.Flow
import HandS.Call
import HandS.DeepEq
import KE.GoesEnumKw
import PyProof.Rows.CallKwBuiltin
import HandS.ExcOwn
set_option Elab.async false
set_option linter.all false
set_option maxRecDepth 100000
set_option maxHeartbeats 0
namespace Rw
open PySem PySem.Spec PyProof.Rows L2 ClX
/-! ### the head, run -/
def hookY (n : Nat) (fa : List He.Fa) (fn : List He5.DefA) (ex : PySem.W.Frag → Bool) : PySem.W.Hook where
  α := He.AlD × Bool
  obs s := (He5.obsAG n fa fn s.heap.get?, ex (He.frG s.heap.get? (He5.asA s.heap.get? n)))
  val _ := (He5.valA fn, true)
  says _ h := ∃ K : PySem.W.Frag, K.In h ∧ He5.SaysA fa fn K ∧ ex K = true
  of _ s e := ⟨_, He.frG_in, (Prod.mk.inj e).1, (Prod.mk.inj e).2⟩
  keeps _ _ _ | ⟨K, X, a, b⟩, k => ⟨K, fun c o e => k _ _ (X c o e), a, b⟩
def obY (n : Nat) (fa : List He.Fa) (fn : List He5.DefA) (ex : PySem.W.Frag → Bool) (g : Addr → Option Obj) : He.AlD × Bool := (He5.obsAG n fa fn g, ex (He.frG g (He5.asA g n)))
theorem obY_eq {n : Nat} {fa : List He.Fa} {fn : List He5.DefA} {ex : PySem.W.Frag → Bool} {g : Addr → Option Obj} {s : Shared} (h : ∀ a, g a = s.heap.get? a) : obY n fa fn ex g = (hookY n fa fn ex).obs s := by
  have e : g = s.heap.get? := funext h
  subst e
  rfl
def clsB (K : PySem.W.Frag) (C : Addr) (f : List Value → Addr → Bool → Bool) (nid : String) : Bool :=
  match K.lookup C with
  | some ⟨.type t, _, .cls cd, sl⟩ => decide (t = "type" ∧ cd.hasDel = false) && (decide (cd.mro = .ref C :: cd.mro.tail) && (f cd.mro.tail cd.ns cd.hasDict && (match sl with | ⟨[_, _, _, _, some (.builtin i), _]⟩ => decide (i = nid) | _ => false)))
  | _ => false
def oexB (K : PySem.W.Frag) (C : Addr) : Bool := clsB K C (fun bm _ hd => hd && HandSPX.refsVE bm) "ValueError.__new__" && (decide (PySem.W.findIn K (.ref C) "__setattr__" = some (some (.builtin "object.__setattr__"))) && (decide (PySem.W.subIn K (.ref C) (.type "BaseException") = some true) && (decide (PySem.W.typeIn K (.ref C) = some (.type "type")) && PySem.W.keepIn K (.ref C))))
def excP (K : PySem.W.Frag) (D : Addr) : Prop := PySem.W.findIn K (.ref D) "__getattribute__" = some (some (.builtin "BaseException.__getattribute__")) ∧ PySem.W.findIn K (.ref D) "__getattr__" = some none ∧ PySem.W.subIn K (.ref D) (.type "BaseException") = some true ∧ PySem.W.hasDictIn K D = true ∧
  PySem.W.findIn K (.ref D) "__class__" = some (some (.builtin "object.__class__")) ∧ PySem.W.specialIn K (.builtin "object.__class__") "__get__" = some (some (.builtin "getset_descriptor.__get__")) ∧ PySem.W.takesIn K (.builtin "object.__class__") = some true ∧ PySem.W.mroIn K D (.type "object") = some true
instance (K : PySem.W.Frag) (D : Addr) : Decidable (excP K D) := by unfold excP; infer_instance
def initP (K : PySem.W.Frag) (C : Addr) : Prop := PySem.W.findIn K (.ref C) "__init__" = some (some (.ref (He.ma K C "__init__"))) ∧ PySem.W.typeIn K (.ref (He.ma K C "__init__")) = some (.type "function")
instance (K : PySem.W.Frag) (D : Addr) : Decidable (initP K D) := by unfold initP; infer_instance
def propP (K : PySem.W.Frag) (C : Addr) (f : Str) : Prop := PySem.W.findIn K (.ref C) f = some (some (.ref (He.ma K C f))) ∧ PySem.W.specialIn K (.ref (He.ma K C f)) "__get__" = some (some (.builtin "property.__get__")) ∧ PySem.W.takesIn K (.ref (He.ma K C f)) = some true
instance (K : PySem.W.Frag) (D : Addr) (f : Str) : Decidable (propP K D f) := by unfold propP; infer_instance
def recB (K : PySem.W.Frag) (p : Addr) (T : String) : Bool := match PySem.W.recIn K p T with | some (.ref _ :: _) => true | _ => false
def strKeysB (es : Array DictEntry) : Bool := es.toList.all fun e => match e.key with | .str _ _ => true | _ => false
def nsB (K : PySem.W.Frag) (N g : Addr) : Bool :=
  match K.lookup N with
  | some ⟨_, _, .dict es _, _⟩ => strKeysB es && (decide (nsFind es "__eq__" = some (.ref g)) && decide (nsFind es "__ne__" = none))
  | _ => false
def fnB (K : PySem.W.Frag) (g : Addr) : Bool :=
  match K.lookup g with
  | some o => decide (o.cls = .type "function")
  | none => false
def notSp : Str := "not "
def lettersS : Str := ("abcdefghijklmnopqrstuvwxyz" : Str)
def topS (i : Nat) : Stmt := PySem.Challenge.pw_ruleworlds_k03_programs_written_and_read.main.body.getD i (.Pass ⟨0, 0, 0, 0⟩)
abbrev sIsName : Stmt := topS 9
abbrev sIsWorld : Stmt := topS 10
abbrev sIsRule : Stmt := topS 11
abbrev sAreNames : Stmt := topS 13
abbrev sSetOf : Stmt := topS 14
abbrev sInit : Stmt := inClass (topS 12) 0
abbrev sOf : Stmt := inClass (topS 12) 1
abbrev sRules : Stmt := inClass (topS 12) 5
abbrev sNames : Stmt := inClass (topS 12) 6
abbrev sENotProg : Stmt := inClass (topS 4) 0
abbrev sKind : Stmt := inClass (topS 12) 7
abbrev sAdd : Stmt := inClass (topS 12) 8
abbrev sContains : Stmt := inClass (topS 12) 10
abbrev sPLen : Stmt := inClass (topS 12) 11
abbrev sPEq : Stmt := inClass (topS 12) 12
abbrev sWithNot : Stmt := topS 16
abbrev sWritten1 : Stmt := topS 15
abbrev sHalves : Stmt := topS 18
abbrev sWithout : Stmt := topS 19
abbrev sReadRule : Stmt := topS 17
abbrev sWritten : Stmt := inClass (topS 12) 4
abbrev sEUnread : Stmt := inClass (topS 5) 0
abbrev sLawWritten : Stmt := topS 28
abbrev sLawIsWorld : Stmt := topS 29
abbrev sLawSplit : Stmt := topS 30
abbrev sLawRead : Stmt := topS 31
abbrev sLawDue : Stmt := topS 32
abbrev sRead : Stmt := inClass (topS 12) 3
abbrev sLawAsked : Stmt := topS 33
abbrev sLawAt : Stmt := topS 21
abbrev sLawMixed : Stmt := topS 22
abbrev sLawPurse : Stmt := topS 23
abbrev sLawDraw : Stmt := topS 24
abbrev sLawSome : Stmt := topS 25
abbrev sLawRow : Stmt := topS 26
abbrev sLawRows : Stmt := topS 27
abbrev sLawBent : Stmt := topS 34
abbrev sLaw : Stmt := topS 35
/-! ### what the top has written -/
def dOf (x : Str) (st : Stmt) : He5.DefA := ⟨fun K => He.ga K x, x, x, defArgs st, defBody st, defScope st, [], []⟩
def dOfR (x : Str) (st : Stmt) : He5.DefA := ⟨fun K => He.ga K x, x, x, defArgs st, defBody st, defScope st, [.str "rules"], []⟩
def dMInit : He5.DefA := ⟨fun K => He.ma K (He.ga K "Program") "__init__", "__init__", "Program.__init__", defArgs sInit, defBody sInit, defScope sInit, [], []⟩
def dMOf : He5.DefA := ⟨fun K => He5.wf K (He.ga K "Program") "classmethod" "of", "of", "Program.of", defArgs sOf, defBody sOf, defScope sOf, [], []⟩
def dMRead : He5.DefA := ⟨fun K => He5.wf K (He.ga K "Program") "classmethod" "read", "read", "Program.read", defArgs sRead, defBody sRead, defScope sRead, [], []⟩
def dMWritten : He5.DefA := ⟨fun K => He.ma K (He.ga K "Program") "written", "written", "Program.written", defArgs sWritten, defBody sWritten, defScope sWritten, [], []⟩
def dMRules : He5.DefA := ⟨fun K => He5.wf K (He.ga K "Program") "property" "rules", "rules", "Program.rules", defArgs sRules, defBody sRules, defScope sRules, [], []⟩
def dMNames : He5.DefA := ⟨fun K => He5.wf K (He.ga K "Program") "property" "names", "names", "Program.names", defArgs sNames, defBody sNames, defScope sNames, [], []⟩
def dMKind : He5.DefA := ⟨fun K => He5.wf K (He.ga K "Program") "property" "kind", "kind", "Program.kind", defArgs sKind, defBody sKind, defScope sKind, [], []⟩
def dMAdd : He5.DefA := ⟨fun K => He.ma K (He.ga K "Program") "__add__", "__add__", "Program.__add__", defArgs sAdd, defBody sAdd, defScope sAdd, [], []⟩
def dMPLen : He5.DefA := ⟨fun K => He.ma K (He.ga K "Program") "__len__", "__len__", "Program.__len__", defArgs sPLen, defBody sPLen, defScope sPLen, [], []⟩
def dMPEq : He5.DefA := ⟨fun K => He.ma K (He.ga K "Program") "__eq__", "__eq__", "Program.__eq__", defArgs sPEq, defBody sPEq, defScope sPEq, [], []⟩
def dMENotProg : He5.DefA := ⟨fun K => He.ma K (He.ga K "NotAProgram") "__init__", "__init__", "NotAProgram.__init__", defArgs sENotProg, defBody sENotProg, defScope sENotProg, [.non], []⟩
def dMEUnread : He5.DefA := ⟨fun K => He.ma K (He.ga K "Unreadable") "__init__", "__init__", "Unreadable.__init__", defArgs sEUnread, defBody sEUnread, defScope sEUnread, [.non], []⟩
def hfn1 : List He5.DefA := [dOf "is_name" sIsName, dOf "_are_names" sAreNames, dOf "_set_of" sSetOf, dOf "is_world" sIsWorld, dOf "is_rule" sIsRule, dOf "_written_rule" sWritten1, dOf "_with_not" sWithNot, dOf "_read_rule" sReadRule, dOf "_halves" sHalves, dOf "_without_not" sWithout, dOf "_law_at" sLawAt, dOf "_law_mixed" sLawMixed, dOf "_law_purse" sLawPurse, dOf "_law_draw" sLawDraw, dOf "_law_some" sLawSome, dOf "_law_row" sLawRow, dOf "_law_rows" sLawRows, dOf "_law_written" sLawWritten, dOf "_law_is_world" sLawIsWorld, dOf "_law_split" sLawSplit, dOf "_law_read" sLawRead, dOf "_law_due" sLawDue, dOf "_law_asked" sLawAsked, dOf "_law_bent" sLawBent, dOf "law" sLaw]
def hfn2 : List He5.DefA := [dMInit, dMOf, dMRead, dMWritten, dMRules, dMNames, dMKind, dMAdd, dMPLen, dMPEq, dMENotProg, dMEUnread]
def hfn : List He5.DefA := hfn1 ++ hfn2
def hfa1 : List He.Fa := [.free "len", .free "isinstance", .free "all", .free "any", .free "tuple", .free "list", .free "sorted", .free "set", .free "str", .free "int", .free "max", .free "min", .free "range", .free "enumerate", .str "LETTERS" lettersS, .str "NOT" notSp, .glo "Program", .glo "NotAProgram", .glo "Unreadable", .glo "RuleError", .glo "is_name", .glo "_are_names", .glo "_set_of", .glo "is_world", .glo "is_rule"]
def hfa2 : List He.Fa := [.glo "_written_rule", .glo "_with_not", .glo "_read_rule", .glo "_halves", .glo "_without_not", .glo "_law_at", .glo "_law_mixed", .glo "_law_purse", .glo "_law_draw", .glo "_law_some", .glo "_law_row", .glo "_law_rows", .glo "_law_written", .glo "_law_is_world", .glo "_law_split", .glo "_law_read", .glo "_law_due", .glo "_law_asked", .glo "_law_bent", .glo "law", .cls "Program", .noat "Program" "_rules", .mkr "Program", .noat "NotAProgram" "thing", .noat "Unreadable" "line"]
def hfa3 : List He.Fa := [.exm "NotAProgram" "RuleError" true, .exm "Unreadable" "RuleError" true]
def hfa : List He.Fa := hfa1 ++ hfa2 ++ hfa3
/-- more of the classes -/
def pgP (K : PySem.W.Frag) (C : Addr) : Prop := PySem.W.kitOne K (.ref C) (.ref C) = some true ∧ PySem.W.kitOne K (.type "NoneType") (.ref C) = some false ∧ PySem.W.kitOne K (.type "bool") (.ref C) = some false ∧ PySem.W.kitOne K (.type "int") (.ref C) = some false ∧ PySem.W.kitOne K (.type "str") (.ref C) = some false ∧
  PySem.W.kitOne K (.type "list") (.ref C) = some false ∧ PySem.W.kitOne K (.type "tuple") (.ref C) = some false ∧ PySem.W.kitOne K (.type "dict") (.ref C) = some false ∧ PySem.W.findIn K (.ref C) "__class__" = some (some (.builtin "object.__class__")) ∧
  PySem.W.specialIn K (.builtin "object.__class__") "__get__" = some (some (.builtin "getset_descriptor.__get__")) ∧ PySem.W.takesIn K (.builtin "object.__class__") = some true ∧ PySem.W.mroIn K C (.type "object") = some true
instance (K : PySem.W.Frag) (C : Addr) : Decidable (pgP K C) := by unfold pgP; infer_instance
def readP (K : PySem.W.Frag) (C : Addr) : Prop := PySem.W.readsIn K C (.type "type") = true ∧ PySem.W.specialIn K (.ref C) "__getattribute__" = some (some (.builtin "type.__getattribute__"))
instance (K : PySem.W.Frag) (C : Addr) : Decidable (readP K C) := by unfold readP; infer_instance
def emptyB (K : PySem.W.Frag) (a : Addr) : Bool := match K.lookup a with
  | some ⟨.type c, _, .seq its _, _⟩ => decide (c = "tuple") && its.toList.isEmpty
  | _ => false
def exL0 (K : PySem.W.Frag) (C : Addr) : List Bool := [decide (pgP K C), decide (readP K C), PySem.W.selfFirst K C, oexB K (He.ga K "NotAProgram"), decide (initP K (He.ga K "NotAProgram")), decide (excP K (He.ga K "NotAProgram")), oexB K (He.ga K "Unreadable"), decide (initP K (He.ga K "Unreadable")), decide (excP K (He.ga K "Unreadable")), decide (PySem.W.kitOne K (.ref (He.ga K "Unreadable")) (.ref (He.ga K "Unreadable")) = some true), decide (PySem.W.kitOne K (.type "NoneType") (.ref (He.ga K "Unreadable")) = some false), decide (propP K C "rules")]
def exL1 (K : PySem.W.Frag) (C : Addr) : List Bool := [recB K (He.ma K C "rules") "property", decide (propP K C "names"), recB K (He.ma K C "names") "property", decide (propP K C "kind"), recB K (He.ma K C "kind") "property", He5.wrapB K C "classmethod" "classmethod.__get__" "of", PySem.W.fnIn K (He5.wf K C "classmethod" "of"), He5.wrapB K C "classmethod" "classmethod.__get__" "read", PySem.W.fnIn K (He5.wf K C "classmethod" "read"), clsB K C (fun bm N _ => decide (bm = [.type "object"]) && nsB K N (He.ma K C "__eq__")) "object.__new__", fnB K (He.ma K C "__eq__"), decide (PySem.W.findIn K (.ref C) "__eq__" = some (some (.ref (He.ma K C "__eq__"))))]
def exL2 (K : PySem.W.Frag) (C : Addr) : List Bool := [PySem.W.isFn K (.ref (He.ma K C "__eq__")), decide (PySem.W.findIn K (.ref C) "__add__" = some (some (.ref (He.ma K C "__add__")))), PySem.W.isFn K (.ref (He.ma K C "__add__")), decide (PySem.W.findIn K (.ref C) "__len__" = some (some (.ref (He.ma K C "__len__")))), PySem.W.isFn K (.ref (He.ma K C "__len__")), decide (PySem.W.findIn K (.ref C) "written" = some (some (.ref (He.ma K C "written")))), PySem.W.isFn K (.ref (He.ma K C "written")), PySem.W.keepIn K (.ref (He.ma K C "written"))]
def exL (K : PySem.W.Frag) (C : Addr) : List Bool := exL0 K C ++ exL1 K C ++ exL2 K C
def exB (K : PySem.W.Frag) : Bool := (exL K (He.ga K "Program")).all id
abbrev hR : PySem.W.OpenRow := PySem.W.OpenLaw.row PySem.Challenge.rw_ruleworlds_k03_programs_written_and_read
abbrev hH : PySem.W.Hook := hookY 6 hfa hfn exB
def hob (s : PySem.W.SharedT) : He.AlD × Bool := obY 6 hfa hfn exB (HandSHeadRun.getT s)
theorem hob_eq (s : PySem.W.SharedT) : hob s = hH.obs s.abs := obY_eq (HandSHeadRun.getT_eq s)
def hloose1 : List Str := ["_wall", "RuleError", "InvalidRule", "NotAProgram", "Unreadable", "LETTERS", "NOT", "is_name", "is_world", "is_rule", "Program", "_are_names", "_set_of", "_written_rule", "_with_not", "_read_rule", "_halves", "_without_not", "_law_at", "_law_mixed", "_law_purse", "_law_draw", "_law_some", "_law_row", "_law_rows", "_law_written", "_law_is_world", "_law_split", "_law_read", "_law_due"]
def hloose2 : List Str := ["_law_asked", "_law_bent"]
def hloose : List Str := hloose1 ++ hloose2
theorem hrun (w : World) : HandSHeadRun.RunEq hR (PySem.W.view hR.prog [35]) hH hob 9000 hloose w := by
  intro os
  kernel_rfl
end Rw
/-! Sets whose members are texts, or tuples of texts and of such tuples: made of a list or a tuple, and gathered again. -/
namespace Rw
open PySem PySem.Spec PyProof.Rows L2
abbrev NK := NestedKey
section
variable {P : Program} {w : World}
/-! no class statement stands in a key -/
mutual
theorem noCls : ∀ (k : NK) (v : Value) (n : Nat) (A : Around) (E : Value → Shared → Prop) (s : Shared) (Q : Bool → Shared → Prop), NestedIs s.heap k v → k.depth ≤ n → Q false s → wpAny (model P w) A (ofAClassStatement n v) Q E s
  | .none, _, n, A, E, s, Q, x, _, h => by
    cases x
    cases n <;> exact wpAny_pure h
  | .num i, _, n, A, E, s, Q, x, _, h => by
    cases x <;> cases n <;> exact wpAny_pure h
  | .text y, _, n, A, E, s, Q, x, _, h => by
    cases x
    cases n <;> exact wpAny_pure h
  | .tup ks, _, n, A, E, s, Q, x, hn, h => by
    cases x with
    | @tup a o vs m _ hg hc hd hk =>
      simp only [NestedKey.depth] at hn
      cases n with
      | zero => omega
      | succ n =>
        have hT : s.TypeIs (.ref a) "tuple" := ⟨o, hg, hc⟩
        unfold ofAClassStatement
        refine wpAny_bind (wpAny_typeOf hT ?_)
        dsimp only
        have e : (("tuple" : String) == "tuple") = true := by decide
        simp only [e, if_true, Bool.not_true, Bool.false_eq_true, if_false]
        try refine wpAny_bind (wpAny_pure ?_)
        try simp only [Bool.not_true, Bool.false_eq_true, if_false]
        show wpAny _ _ (seqItems? (.ref a) >>= _) _ _ s
        refine wpAny_bind (wpAny_seqItems hg hd ?_)
        dsimp only
        refine wpAny_bind ?_
        show wpAny _ _ (forIn vs _ _) _ _ s
        rw [← Array.forIn_toList]
        refine noClsAll ks vs.toList n A E s _ hk (by omega) ?_
        exact wpAny_pure h
theorem noClsAll : ∀ (ks : List NK) (vs : List Value) (n : Nat) (A : Around) (E : Value → Shared → Prop) (s : Shared) (Q : Option Bool × Unit → Shared → Prop), NestedAll s.heap ks vs → NestedKey.depthAll ks ≤ n → Q (none, ()) s →
    wpAny (model P w) A (forIn vs ((none, ()) : Option Bool × Unit) fun y r => do if ← ofAClassStatement n y then pure (ForInStep.done (some true, ())) else pure (ForInStep.yield (none, ()))) Q E s
  | [], _, n, A, E, s, Q, x, _, h => by
    cases x
    exact wpAny_pure h
  | k :: ks, _, n, A, E, s, Q, x, hn, h => by
    cases x with
    | cons x1 x2 =>
      simp only [NestedKey.depthAll] at hn
      rw [List.forIn_cons]
      refine wpAny_bind (wpAny_bind (noCls k _ n A E s _ x1 (by omega) ?_))
      simp only [Bool.false_eq_true, if_false]
      refine wpAny_pure ?_
      exact noClsAll ks _ n A E s Q x2 (by omega) h
end
/-! whether a key is hashed by its value: either answer -/
mutual
theorem byVal : ∀ (k : NK) (v : Value) (n : Nat) (A : Around) (E : Value → Shared → Prop) (s : Shared) (Q : Bool → Shared → Prop), NestedIs s.heap k v → (∀ b, Q b s) → wpAny (model P w) A (hashByValue n v) Q E s
  | .none, _, n, A, E, s, Q, x, h => by
    cases x
    cases n <;> exact wpAny_pure (h _)
  | .num i, _, n, A, E, s, Q, x, h => by
    cases x <;> cases n <;> exact wpAny_pure (h _)
  | .text y, _, n, A, E, s, Q, x, h => by
    cases x
    cases n <;> exact wpAny_pure (h _)
  | .tup ks, _, n, A, E, s, Q, x, h => by
    cases x with
    | @tup a o vs m _ hg hc hd hk =>
      cases n with
      | zero => exact wpAny_pure (h _)
      | succ n =>
        have hT : s.TypeIs (.ref a) "tuple" := ⟨o, hg, hc⟩
        unfold hashByValue
        refine wpAny_bind (wpAny_specialOf hT F.slot_tuple_hash.lookup ?_)
        show wpAny _ _ (seqItems? (.ref a) >>= _) _ _ s
        refine wpAny_bind (wpAny_seqItems hg hd ?_)
        refine wpAny_bind ?_
        show wpAny _ _ (forIn vs _ _) _ _ s
        rw [← Array.forIn_toList]
        refine byValAll ks vs.toList n A E s _ hk ?_ ?_
        · exact wpAny_pure (h _)
        · exact wpAny_pure (h _)
theorem byValAll : ∀ (ks : List NK) (vs : List Value) (n : Nat) (A : Around) (E : Value → Shared → Prop) (s : Shared) (Q : Option Bool × Unit → Shared → Prop), NestedAll s.heap ks vs → Q (none, ()) s → Q (some false, ()) s →
    wpAny (model P w) A (forIn vs ((none, ()) : Option Bool × Unit) fun y r => do if !(← hashByValue n y) then pure (ForInStep.done (some false, ())) else pure (ForInStep.yield (none, ()))) Q E s
  | [], _, n, A, E, s, Q, x, h, _ => by
    cases x
    exact wpAny_pure h
  | k :: ks, _, n, A, E, s, Q, x, h, h2 => by
    cases x with
    | cons x1 x2 =>
      rw [List.forIn_cons]
      refine wpAny_bind (wpAny_bind (byVal k _ n A E s _ x1 fun b => ?_))
      cases b with
      | true =>
        simp only [Bool.not_true, Bool.false_eq_true, if_false]
        refine wpAny_pure ?_
        exact byValAll ks _ n A E s Q x2 h h2
      | false =>
        simp only [Bool.not_false, if_true]
        exact wpAny_pure (wpAny_pure h2)
end
end
/-! ### sets of tuples -/
/-- a tuple that is a key, not too deep -/
def TupK (h : Heap) (k : NK) (a : Addr) : Prop := NestedIs h k (.ref a) ∧ k.depth ≤ 8
theorem TupK.one {h : Heap} {k k' : NK} {a : Addr} (x : TupK h k a) (y : TupK h k' a) : k = k' := NestedIs.inj _ _ _ x.1 y.1
theorem TupK.kept {h h' : Heap} {k : NK} {a : Addr} (x : TupK h k a) (u : ∀ b o, h.get? b = some o → h'.get? b = some o) : TupK h' k a :=
  ⟨NestedIs.at (fun b o _ _ e _ => u b o e) _ _ x.1, x.2⟩
/-- all but a set stays -/
theorem TupK.butSet {h h' : Heap} {k : NK} {a b : Addr} {o : Obj} {es : Array (Int × Value)} {ep : Nat} {t : SetTable} (x : TupK h k b) (ho : h.get? a = some o) (hd : o.data = .set es ep t) (sb : Heap.SameBut a h h') : TupK h' k b := by
  refine ⟨NestedIs.at (fun c u vs n e es' => (sb.2 c ?_).trans e) _ _ x.1, x.2⟩
  intro z
  subst z
  have q : u = o := Option.some.inj (e.symm.trans ho)
  rw [q, hd] at es'
  exact nomatch es'
/-- the entries of a table -/
def ents (w : World) (L : List (Addr × NK)) : List (Int × Value) := L.map fun p => (p.2.hash w, Value.ref p.1)
def hashes (w : World) (L : List (Addr × NK)) : List Int := L.map fun p => p.2.hash w
theorem ents_len (w : World) (L : List (Addr × NK)) : (ents w L).length = L.length := List.length_map _
theorem hashes_len (w : World) (L : List (Addr × NK)) : (hashes w L).length = L.length := List.length_map _
structure TSet (P : Program) (w : World) (h : Heap) (a : Addr) (L : List (Addr × NK)) (es : Array (Int × Value)) (ep : Nat) (t : SetTable) : Prop where
  ob : ∃ o, h.get? a = some o ∧ o.ExactSet ∧ o.data = .set es ep t
  en : es.toList = ents w L
  tab : TabOk t (hashes w L)
  nd : (L.map (·.2)).Nodup
  ks : ∀ p ∈ L, TupK h p.2 p.1
  led : w.params.followText "set-order" = true ∨ t.led = true
  room : L.length * 5 < t.mask * 3
  few : L.length < 76
section
variable {P : Program} {w : World} {A : Around} {E : Value → Shared → Prop} {s : Shared} {a : Addr} {L : List (Addr × NK)} {es : Array (Int × Value)} {ep : Nat} {t : SetTable}
theorem size_of_ents (h : es.toList = ents w L) : es.size = L.length := by
  rw [← Array.length_toList, h, ents_len]
theorem TSet.fits (R : TSet P w s.heap a L es ep t) : t.fits es.size = true := by
  have a1 := R.tab.sz
  have a2 := size_of_ents R.en
  have a3 := R.room
  rw [hashes_len] at a1
  unfold SetTable.fits SetTable.fill
  rw [R.tab.dm, Bool.and_eq_true, beq_iff_eq, decide_eq_true_eq]
  refine ⟨by omega, ?_⟩
  show t.place.size + 0 ≤ t.mask
  omega
theorem TSet.at (R : TSet P w s.heap a L es ep t) {i : Nat} {p : Addr × NK} (h : L[i]? = some p) : es[i]? = some (p.2.hash w, Value.ref p.1) := by
  rw [← Array.getElem?_toList, R.en]
  unfold ents
  rw [List.getElem?_map, h]
  rfl
/-- nobody sees a search among such tuples -/
theorem unseen {k : NK} {b : Addr} {Q : Bool → Shared → Prop} (hk : TupK s.heap k b) {ys : List Value} (hy : ∀ y ∈ ys, ∃ k' c, y = Value.ref c ∧ TupK s.heap k' c) (h : Q false s) : wpAny (model P w) A (searchCouldBeSeen (.ref b) ys) Q E s := by
  unfold searchCouldBeSeen
  refine wpAny_bind ?_
  refine wpAny_forIn_list _ (fun rest r s' => r.1 = none ∧ s' = s ∧ ∀ y ∈ rest, ∃ k' c, y = Value.ref c ∧ TupK s.heap k' c) _ ?turn ?last _ _ ⟨rfl, rfl, hy⟩
  case turn =>
    rintro v rest r s' ⟨hr, rfl, all⟩
    obtain ⟨k', c, rfl, hc⟩ := all v List.mem_cons_self
    have more : ∀ y ∈ rest, ∃ k' c, y = Value.ref c ∧ TupK s'.heap k' c := fun u hu => all u (List.mem_cons_of_mem _ hu)
    dsimp only
    by_cases hv : (b == c || (carriedByValue (.ref b) && carriedByValue (.ref c))) = true
    · exact wp_if_pos hv (wpAny_pure ⟨rfl, rfl, more⟩)
    · refine wp_if_neg hv (wpAny_bind ((nestedKind P w).quiet (k := k) hk ?_))
      simp only [Bool.not_true, Bool.false_eq_true, if_false]
      refine wpAny_bind ((nestedKind P w).quiet (k := k') hc ?_)
      simp only [Bool.not_true, Bool.false_eq_true, if_false]
      refine wpAny_bind (noCls k _ 8 _ _ _ _ hk.1 hk.2 ?_)
      simp only [Bool.false_eq_true, if_false]
      refine wpAny_bind (noCls k' _ 8 _ _ _ _ hc.1 hc.2 ?_)
      simp only [Bool.false_eq_true, if_false]
      exact wpAny_pure ⟨rfl, rfl, more⟩
  case last =>
    rintro ⟨r1, r2⟩ s' ⟨hr, rfl, _⟩
    simp only at hr
    subst hr
    exact wpAny_pure h
end
/-! ### the search -/
/-- the states of a search for the hash g, one after the other -/
def st (m : Nat) (g : Int) (c : Nat) : SetTable.Probe := nth m (runAt m (SetTable.bits g % (m + 1)) (SetTable.bits g)) c
theorem st_way (m : Nat) (g : Int) (c : Nat) : (st m g c).j = way m g c := rfl
theorem st_more (m : Nat) (g : Int) (c q : Nat) : nth m (st m g c) q = st m g (c + q) := (nth_add m c _ q).symm
theorem nth_dummy (m : Nat) : ∀ (n : Nat) (p : SetTable.Probe), p.dummy = none → (nth m p n).dummy = none
  | 0, _, h => h
  | n + 1, p, h => nth_dummy m n (adv m p) (by unfold adv; split <;> exact h)
theorem st_dummy (m : Nat) (g : Int) (c : Nat) : (st m g c).dummy = none := nth_dummy m c _ rfl
section
variable {P : Program} {w : World} {A : Around} {E : Value → Shared → Prop} {s : Shared} {a : Addr} {L : List (Addr × NK)} {es : Array (Int × Value)} {ep : Nat} {t : SetTable}
theorem hunt (R : TSet P w s.heap a L es ep t) {x : Addr} {k : NK} (hx : TupK s.heap k x) (hu : A.units + 8 < cLine) {g : Int} (hg : g = k.hash w) {K : Nat} (hf : K < 10 * SetTable.turns t.mask)
    (free : way t.mask g K ∉ t.place.toList) (full : ∀ c, c < K → way t.mask g c ∈ t.place.toList) {Q : SetFound → Shared → Prop}
    (yes : k ∈ L.map (·.2) → Q (.there none) s) (no : k ∉ L.map (·.2) → Q (.free (way t.mask g K) false) s) :
    ∀ (f c : Nat) (stand : Option SetTable.Probe), stand.getD (t.probeStart g) = st t.mask g c → c ≤ K → K - c < f →
      (∀ (i : Nat) p, L[i]? = some p → p.2 = k → ∃ c', c ≤ c' ∧ c' < K ∧ t.place.toList[i]? = some (way t.mask g c')) →
      wpAny (model P w) A (setSearchFrom a (.ref x) g true f stand) Q E s
  | 0, c, stand, _, _, h, _ => absurd h (Nat.not_lt_zero _)
  | f + 1, c, stand, hst, hc, hlt, ahead => by
    obtain ⟨o, ho, hex, hd⟩ := R.ob
    have big := R.fits
    have hashOf : ∀ (i : Nat) p, L[i]? = some p → (es[i]?.map (·.1)).getD 0 = p.2.hash w := fun i p hp => by
      rw [R.at hp]
      rfl
    have oddM := mask_odd R.tab.mok
    rw [setSearchFrom_succ]
    refine wpAny_bind (wpAny_setState_of ho hd big ?_)
    dsimp only
    refine wp_if_neg (by unfold SetTable.gaveWay; rw [oddM]; decide) ?_
    try refine wpAny_bind (wpAny_pure ?_)
    have jAt : ∀ q, (nth t.mask (st t.mask g c) q).j = way t.mask g (c + q) := fun q => congrArg SetTable.Probe.j (st_more t.mask g c q)
    rcases go_spec t R.tab.ris R.tab.dm (fun i => (es[i]?.map (·.1)).getD 0) g (10 * SetTable.turns t.mask) (K - c) (st t.mask g c) (st_dummy _ _ _) (by omega)
      (fun q hq => by rw [jAt]; exact full (c + q) (by omega)) (by rw [jAt, show c + (K - c) = K by omega]; exact free) with ⟨q, i, hq, hi, hh, first, met⟩ | ⟨none_, met⟩
    · -- an entry of this hash
      have met' : t.probe (fun i => (es[i]?.map (·.1)).getD 0) g (stand.getD (t.probeStart g)) = some (.candidate (way t.mask g (c + q)) i (st t.mask g (c + (q + 1)))) := by
        rw [hst, ← jAt, ← st_more]
        exact met
      rw [met']
      dsimp only
      rw [jAt] at hi
      have il : i < L.length := by
        have z1 : i < t.place.toList.length := (List.getElem?_eq_some_iff.mp hi).1
        have z2 := R.tab.sz
        rw [hashes_len] at z2
        rw [Array.length_toList] at z1
        omega
      obtain ⟨p, hp⟩ : ∃ p, L[i]? = some p := ⟨L[i], List.getElem?_eq_getElem il⟩
      have pm : p ∈ L := List.mem_of_getElem? hp
      have pk := R.ks p pm
      have go : wpAny (model P w) A (searchRest a (.ref x) g true f es t (way t.mask g (c + q)) i (st t.mask g (c + (q + 1)))) Q E s := by
        unfold searchRest
        rw [R.at hp]
        dsimp only
        refine wpAny_bind (wpAny_holding ((nestedKind P w).eqBool (x := p.2) (y := k) hu pk hx ?_))
        refine wpAny_bind (wpAny_setState_of ho hd big ?_)
        dsimp only
        by_cases same : p.2 = k
        · refine wp_if_pos (by simp [same]) (wpAny_pure (yes ?_))
          exact List.mem_map.mpr ⟨p, pm, same⟩
        · refine wp_if_neg (by simp [same]) ?_
          try refine wpAny_bind (wpAny_pure ?_)
          rw [sameMem]
          dsimp only
          have live : t.slot (way t.mask g (c + q)) = .live i := slot_live R.tab.ris hi
          simp only [if_true, live, R.at hp]
          refine wpAny_bind (wpAny_isSame_ref_self (wpAny_bind (wpAny_pure ?_)))
          simp only [if_true]
          refine wp_if_neg (by simp [same]) ?_
          refine hunt R hx hu hg hf free full yes no f (c + (q + 1)) _ rfl (by omega) (by omega) fun i0 p0 h0 k0 => ?_
          obtain ⟨c', b1, b2, b3⟩ := ahead i0 p0 h0 k0
          refine ⟨c', ?_, b2, b3⟩
          by_cases ec : c' = c + q
          · exfalso
            rw [ec] at b3
            have l0 := slot_live R.tab.ris b3
            rw [live] at l0
            injection l0 with l0
            rw [← l0, hp] at h0
            exact same ((congrArg Prod.snd (Option.some.inj h0)).trans k0)
          · by_cases lt : c' < c + q
            · exfalso
              refine first (c' - c) i0 (by omega) (by rw [jAt, show c + (c' - c) = c' by omega]; exact b3) ?_
              show (es[i0]?.map (·.1)).getD 0 = g
              rw [hashOf i0 p0 h0, k0, hg]
            · omega
      by_cases hl : t.led = true
      · refine wp_if_neg (by simp [hl]) ?_
        try refine wpAny_bind (wpAny_pure ?_)
        exact go
      · refine wp_if_pos (by simp [hl]) (wpAny_bind (unseen hx (fun y hy => ?_) ?_))
        · obtain ⟨e, he, ee⟩ := List.mem_map.mp hy
          have he1 : e ∈ es ∧ e.1 = g := by simpa using he
          have he2 : e ∈ es.toList := by simpa using he1.1
          rw [R.en] at he2
          obtain ⟨p2, hp2, e2⟩ := List.mem_map.mp he2
          exact ⟨p2.2, p2.1, by rw [← ee, ← e2], R.ks p2 hp2⟩
        · refine wp_if_neg (by decide) ?_
          try refine wpAny_bind (wpAny_pure ?_)
          exact go
    · -- a free slot
      have met' : t.probe (fun i => (es[i]?.map (·.1)).getD 0) g (stand.getD (t.probeStart g)) = some (.empty (way t.mask g K) none) := by
        have e2 : way t.mask g K = (nth t.mask (st t.mask g c) (K - c)).j := by
          rw [jAt, show c + (K - c) = K by omega]
        rw [hst, e2]
        exact met
      rw [met']
      dsimp only
      refine wpAny_pure (no fun hm => ?_)
      obtain ⟨p0, m0, k0⟩ := List.mem_map.mp hm
      obtain ⟨i0, hi0, e0⟩ := List.getElem_of_mem m0
      have h0 : L[i0]? = some p0 := by rw [List.getElem?_eq_getElem hi0, e0]
      obtain ⟨c', b1, b2, b3⟩ := ahead i0 p0 h0 k0
      refine none_ (c' - c) i0 (by omega) (by rw [jAt, show c + (c' - c) = c' by omega]; exact b3) ?_
      show (es[i0]?.map (·.1)).getD 0 = g
      rw [hashOf i0 p0 h0, k0, hg]
theorem hunted (R : TSet P w s.heap a L es ep t) {x : Addr} {k : NK} (hx : TupK s.heap k x) (hu : A.units + 8 < cLine) {Q : SetFound → Shared → Prop} (yes : k ∈ L.map (·.2) → Q (.there none) s)
    (no : ∀ K, k ∉ L.map (·.2) → way t.mask (k.hash w) K ∉ t.place.toList → (∀ c, c < K → way t.mask (k.hash w) c ∈ t.place.toList) → Q (.free (way t.mask (k.hash w) K) false) s) :
    wpAny (model P w) A (setSearch a (.ref x) (k.hash w) true) Q E s := by
  have space := R.room
  obtain ⟨K, kf, free, full⟩ := R.tab.first (by rw [hashes_len]; omega) (k.hash w)
  have small : K < 100000 := by
    have : 10 * SetTable.turns t.mask ≤ 1420 := by
      unfold SetTable.turns
      rcases R.tab.mok with e | e | e <;> omega
    omega
  unfold setSearch
  refine hunt R hx hu rfl kf free full yes (fun hn => no K hn free full) 100000 0 none rfl (Nat.zero_le _) (by omega) fun i p hp hk => ?_
  have hi : (hashes w L)[i]? = some (k.hash w) := by
    unfold hashes
    rw [List.getElem?_map, hp, ← hk]
    rfl
  have il : i < t.place.toList.length := by
    have z1 : i < L.length := (List.getElem?_eq_some_iff.mp hp).1
    have z2 := R.tab.sz
    rw [hashes_len] at z2
    rw [Array.length_toList]
    omega
  have hj := List.getElem?_eq_getElem il
  obtain ⟨c, hc, e⟩ := R.tab.before free hi hj
  exact ⟨c, Nat.zero_le _, hc, by rw [hj, e]⟩
end
/-! ### one put in -/
theorem relist {w : World} (L : List (Addr × NK)) (es : Array (Int × Value)) (order : Array Nat) (he : es.toList = ents w L) (hp : order.toList.Perm (List.range L.length)) :
    ∃ L2, (order.filterMap (es[·]?)).toList = ents w L2 ∧ L2.Perm L ∧ hashes w L2 = order.toList.map fun i => (es.map (·.1)).getD i 0 := by
  have one : ∀ i (h : i < L.length), es[i]? = some ((L[i]).2.hash w, Value.ref (L[i]).1) := fun i h => by
    rw [← Array.getElem?_toList, he]
    unfold ents
    rw [List.getElem?_map, List.getElem?_eq_getElem h]
    rfl
  have all : ∀ l : List Nat, (∀ i ∈ l, i < L.length) → l.filterMap (fun i => es[i]?) = ents w (l.filterMap fun i => L[i]?) ∧ hashes w (l.filterMap fun i => L[i]?) = l.map fun i => (es.map (·.1)).getD i 0 := by
    intro l
    induction l with
    | nil => exact fun _ => ⟨rfl, rfl⟩
    | cons i l ih =>
      intro hl
      have hi := hl i List.mem_cons_self
      obtain ⟨e1, e2⟩ := ih fun j hj => hl j (List.mem_cons_of_mem _ hj)
      rw [List.filterMap_cons_some (List.getElem?_eq_getElem hi), List.filterMap_cons_some (one i hi), e1, List.map_cons, ← e2]
      refine ⟨rfl, ?_⟩
      have e5 : (es.map (·.1))[i]? = some ((L[i]).2.hash w) := by
        rw [Array.getElem?_map, one i hi]
        rfl
      have e4 : (es.map (·.1)).getD i 0 = (L[i]).2.hash w := by simp [Array.getD_eq_getD_getElem?, e5]
      rw [e4]
      rfl
  obtain ⟨e1, e2⟩ := all order.toList fun i hi => List.mem_range.mp (hp.mem_iff.mp hi)
  refine ⟨order.toList.filterMap fun i => L[i]?, by first | (rw [Array.toList_filterMap]; exact e1) | simpa using e1, ?_, e2⟩
  have z := hp.filterMap fun i => L[i]?
  rw [List.filterMap_getElem?_range_length] at z
  exact z
theorem TabOk.unplain {t : SetTable} {hs : List Int} (T : TabOk t hs) : TabOk { t with plain := false } hs := ⟨T.ris, T.dm, T.sz, T.mok, T.bd, T.reach⟩
section
variable {P : Program} {w : World} {A : Around} {E : Value → Shared → Prop} {s : Shared} {a : Addr} {L : List (Addr × NK)} {es : Array (Int × Value)} {ep : Nat} {t : SetTable}
theorem relaid_at {o : Obj} (ho : s.heap.get? a = some o) (hex : o.ExactSet) (hd : o.data = .set es ep t) (en : es.toList = ents w L) (tab : TabOk t (hashes w L)) (hfl : L.length ≤ t.mask)
    (nd : (L.map (·.2)).Nodup) (ks : ∀ p ∈ L, TupK s.heap p.2 p.1) (ld : w.params.followText "set-order" = true ∨ t.led = true) (few : L.length < 76) {wanted M : Nat}
    (hw : SetTable.sizeAbove wanted - 1 = M) (hM : MaskOk M) (hw2 : SetTable.sizeAbove wanted ≤ 128) (hn : L.length * 5 < M * 3) {Q : Unit → Shared → Prop}
    (hQ : ∀ h' L' es' ep' t', Heap.SameBut a s.heap h' → TSet P w h' a L' es' ep' t' → L'.Perm L → Q () { s with heap := h' }) : wpAny (model P w) A (setRelay a wanted) Q E s := by
  have hsl := size_of_ents en
  have hps : t.place.size = es.size := by rw [tab.sz, hashes_len, hsl]
  have fits : t.fits es.size = true := by
    unfold SetTable.fits SetTable.fill
    rw [tab.dm, Bool.and_eq_true, beq_iff_eq, decide_eq_true_eq]
    refine ⟨hps, ?_⟩
    show t.place.size + 0 ≤ t.mask
    omega
  obtain ⟨t', order, e, hp, T, em, el, _, _⟩ := relaid_ok t (hs := es.map (·.1)) (wanted := wanted) hw hM (by rw [Array.size_map, hsl]; omega)
  rw [Array.size_map, hsl] at hp
  obtain ⟨L2, r1, r2, r3⟩ := relist L es order en hp
  rw [← r3] at T
  have hs2 : (order.filterMap (es[·]?)).size = es.size := by rw [size_of_ents r1, r2.length_eq, hsl]
  rw [setRelay_eq]
  refine wpAny_bind (wpAny_setState_of ho hd fits ?_)
  dsimp only
  refine wp_if_neg (by rw [sizeLine_eq]; omega) ?_
  try refine wpAny_bind (wpAny_pure ?_)
  rw [e]
  dsimp only
  refine wpAny_bind (wp_if_neg (by rw [hs2]; simp) ?_)
  try refine wpAny_bind (wpAny_pure ?_)
  refine wpAny_pure ?_
  dsimp only
  refine wpAny_storeSet_of ho hd ?_ (by rw [hs2, hsl, sizeLine_eq]; omega)
  have sb : Heap.SameBut a s.heap (s.heap.update a (Obj.putSet (order.filterMap (es[·]?)) t')) := Heap.SameBut.update ..
  refine hQ _ L2 (order.filterMap (es[·]?)) (ep + 1) t' sb ⟨⟨_, store_at ho hd, ⟨hex.1, hex.2.1, hex.2.2⟩, rfl⟩, r1, T, (r2.map (·.2)).nodup_iff.mpr nd, fun p hpm => (ks p (r2.mem_iff.mp hpm)).butSet ho hd sb, by rw [el]; exact ld, ?_, by rw [r2.length_eq]; exact few⟩ r2
  rw [r2.length_eq, em]
  exact hn
/-- adding -/
theorem added (R : TSet P w s.heap a L es ep t) {x : Addr} {k : NK} (hx : TupK s.heap k x) (hu : A.units + 8 < cLine) (hfew : L.length + 1 < 76) {Q : Bool → Shared → Prop}
    (hQ : ∀ b h' L' es' ep' t', Heap.SameBut a s.heap h' → TSet P w h' a L' es' ep' t' → (k ∈ L.map (·.2) → L' = L) → (k ∉ L.map (·.2) → L'.Perm ((x, k) :: L)) → Q b { s with heap := h' }) :
    wpAny (model P w) A (setAddHashed a (.ref x) (k.hash w)) Q E s := by
  obtain ⟨o, ho, hex, hd⟩ := R.ob
  have hsl := size_of_ents R.en
  have hroom := R.room
  unfold setAddHashed
  refine wpAny_holding ?_
  rw [show (100000 : Nat) = 99999 + 1 from rfl, setAddHashedIn_succ]
  refine wpAny_bind (wpAny_setState_of ho hd R.fits ?_)
  dsimp only
  refine wp_if_neg (by simp [byScan, Value.scannable]) ?_
  try refine wpAny_bind (wpAny_pure ?_)
  refine wpAny_bind (hunted R hx hu (fun hm => ?_) fun K hm hK hb => ?_)
  · dsimp only
    exact wpAny_pure (hQ false s.heap L es ep t (Heap.SameBut.refl a s.heap) R (fun _ => rfl) fun z => absurd hm z)
  · dsimp only
    refine wpAny_bind (wpAny_setState_of ho hd R.fits ?_)
    dsimp only
    obtain ⟨q1, q2, q3, q4, q5, _, _, _, q9⟩ := R.tab.put hK hb
    generalize hpt : t.put (way t.mask (k.hash w) K) = pt at q1 q3 q4 q5 q9 ⊢
    obtain ⟨t1, p⟩ := pt
    dsimp only at q1 q3 q4 q5 q9 ⊢
    subst q1
    generalize hpp : SetTable.below t.place (way t.mask (k.hash w) K) = p at q2 q3 ⊢
    have hin : (SetTable.insertAt es p (k.hash w, Value.ref x)).toList = ents w (L.take p ++ (x, k) :: L.drop p) := by
      rw [SetTable.toList_insertAt, R.en]
      unfold ents
      rw [List.map_append, List.map_cons, List.map_take, List.map_drop]
    have pm := put_perm L p (x, k)
    have hlen : (L.take p ++ (x, k) :: L.drop p).length = L.length + 1 := pm.length_eq
    have hhs : hashes w (L.take p ++ (x, k) :: L.drop p) = (hashes w L).take p ++ k.hash w :: (hashes w L).drop p := by
      unfold hashes
      rw [List.map_append, List.map_cons, List.map_take, List.map_drop]
    rw [← hhs] at q3
    have nd1 : ((L.take p ++ (x, k) :: L.drop p).map (·.2)).Nodup := by
      refine (pm.map (·.2)).nodup_iff.mpr ?_
      rw [List.map_cons]
      exact List.nodup_cons.mpr ⟨hm, R.nd⟩
    have hes : (SetTable.insertAt es p (k.hash w, Value.ref x)).size = L.length + 1 := by rw [size_of_ents hin, hlen]
    generalize SetTable.insertAt es p (k.hash w, Value.ref x) = es1 at hin hes ⊢
    generalize L.take p ++ (x, k) :: L.drop p = L1 at pm hlen q3 nd1 hin
    have ld1 : w.params.followText "set-order" = true ∨ t1.led = true := by rw [q5]; exact R.led
    -- behind the question whether the hash is by value: t2 is t1, but for one mark
    have rest : ∀ t2 : SetTable, TabOk t2 (hashes w L1) → t2.mask = t.mask → t2.fill = L.length + 1 → (w.params.followText "set-order" = true ∨ t2.led = true) →
        wpAny (model P w) A (do
          storeSet a es1 t2
          if (!false && t2.tooFull) = true then do
              setRelay a (SetTable.grown (es.size + 1))
              pure true
            else pure true) Q E s := by
      intro t2 T2 m2 f2 l2
      refine wpAny_bind (wpAny_storeSet_of ho hd ?_ (by rw [hes, sizeLine_eq]; omega))
      have sb : Heap.SameBut a s.heap (s.heap.update a (Obj.putSet es1 t2)) := Heap.SameBut.update ..
      have ho1 := store_at (es' := es1) (t' := t2) ho hd
      generalize s.heap.update a (Obj.putSet es1 t2) = h1 at sb ho1 ⊢
      have ks1 : ∀ p ∈ L1, TupK h1 p.2 p.1 := fun p hp => by
        rcases List.mem_cons.mp (pm.mem_iff.mp hp) with e | hp
        · rw [e]
          exact hx.butSet ho hd sb
        · exact (R.ks p hp).butSet ho hd sb
      by_cases hf : t2.tooFull = true
      · refine wp_if_pos (by simp [hf]) ?_
        have hfull : (L.length + 1) * 5 ≥ t2.mask * 3 := by
          have h := hf
          unfold SetTable.tooFull at h
          rw [decide_eq_true_eq, f2] at h
          exact h
        rw [hsl]
        have two : (t.mask = 7 ∧ L.length = 4) ∨ (t.mask = 31 ∧ L.length = 18) := by
          rcases R.tab.mok with e | e | e
          · left; rw [m2, e] at hfull; rw [e] at hroom; exact ⟨e, by omega⟩
          · right; rw [m2, e] at hfull; rw [e] at hroom; exact ⟨e, by omega⟩
          · exfalso; rw [m2, e] at hfull; omega
        have go : ∀ M, SetTable.sizeAbove (SetTable.grown (L.length + 1)) - 1 = M → MaskOk M → SetTable.sizeAbove (SetTable.grown (L.length + 1)) ≤ 128 → (L.length + 1) * 5 < M * 3 →
            wpAny (model P w) A (do setRelay a (SetTable.grown (L.length + 1)); pure true) Q E { s with heap := h1 } := fun M e1 e2 e3 e4 => by
          refine wpAny_bind (relaid_at (s := { s with heap := h1 }) ho1 ⟨hex.1, hex.2.1, hex.2.2⟩ rfl hin T2 (by rw [hlen, m2]; rcases two with ⟨e, e'⟩ | ⟨e, e'⟩ <;> omega) nd1 ks1 l2 (by rw [hlen]; exact hfew) e1 e2 e3 (by rw [hlen]; exact e4) ?_)
          intro h2 L2 es2 ep2 t2 sb2 R2 pm2
          exact wpAny_pure (hQ true h2 L2 es2 ep2 t2 (sb.trans sb2) R2 (fun z => absurd z hm) fun _ => pm2.trans pm)
        rcases two with ⟨_, e2⟩ | ⟨_, e2⟩
        · exact go 31 (by rw [e2, size_20]) (.inr (.inl rfl)) (by rw [e2, size_20]; decide) (by omega)
        · exact go 127 (by rw [e2, size_76]) (.inr (.inr rfl)) (by rw [e2, size_76]; decide) (by omega)
      · refine wp_if_neg (by simp [hf]) ?_
        refine wpAny_pure (hQ true h1 L1 es1 (ep + 1) t2 sb ⟨⟨_, ho1, ⟨hex.1, hex.2.1, hex.2.2⟩, rfl⟩, hin, T2, nd1, ks1, l2, ?_, by rw [hlen]; exact hfew⟩ (fun z => absurd z hm) fun _ => pm)
        have h := hf
        unfold SetTable.tooFull at h
        rw [decide_eq_true_eq, f2] at h
        rw [hlen]
        omega
    have f1 : t1.fill = L.length + 1 := by rw [q9, hashes_len]
    have close : ∀ b : Bool, wpAny (model P w) A (do
          storeSet a es1 (if b = true then t1 else { t1 with plain := false })
          if (!false && (if b = true then t1 else { t1 with plain := false }).tooFull) = true then do
              setRelay a (SetTable.grown (es.size + 1))
              pure true
            else pure true) Q E s := fun b => by
      cases b with
      | true => exact rest t1 q3 q4 f1 ld1
      | false => exact rest { t1 with plain := false } (TabOk.unplain q3) q4 f1 ld1
    by_cases hpl : t1.plain = true
    · first
        | exact wpAny_bind (wp_if_pos hpl (byVal k _ 8 _ _ _ _ hx.1 fun b => close b))
        | exact wp_if_pos hpl (wpAny_bind (byVal k _ 8 _ _ _ _ hx.1 fun b => close b))
    · first
        | exact wpAny_bind (wp_if_neg hpl (wpAny_pure (close true)))
        | exact wp_if_neg hpl (wpAny_bind (wpAny_pure (close true)))
end
end Rw
namespace Rw
open PySem PySem.Spec PyProof.Rows L2
/-! ### set(xs): filled item by item -/
/-- a new set -/
abbrev newSetObj (w : World) : Obj := { cls := .type "set", dict := none, data := .set #[] 0 (.fresh 0 0 (!w.params.followText "set-order")) }
/-- G i: the set at S has got the first i items -/
structure Fill (P : Program) (w : World) (S : Addr) (h0 : Heap) (items : List Value) (G : Nat → Heap → Prop) : Prop where
  start : ∀ h, h.get? S = some (newSetObj w) → G 0 h
  keep : ∀ i h h', G i h → (∀ o, h.get? S = some o → h'.get? S = some o) → (∀ b o, h0.get? b = some o → h'.get? b = some o) → G i h'
  put : ∀ i v (A : Around) (E : Value → Shared → Prop) (s : Shared) (Q : Bool → Shared → Prop), A.units + 8 < cLine → items[i]? = some v → G i s.heap → (∀ b o, h0.get? b = some o → s.heap.get? b = some o) →
    (∀ b h' tk, s.toks ≤ tk → Heap.SameBut S s.heap h' → G (i + 1) h' → Q b { s with heap := h', toks := tk }) → wpAny (model P w) A (setAdd S v) Q E s
section
variable {P : Program} {w : World} {A : Around} {E : Value → Shared → Prop} {s : Shared}
theorem fill_loop {I : Addr} {fp wr : List Addr} {GG : Array GenState → Array GenState → Prop} {n : Nat} {Pv : Nat → Value → Prop} {St : Nat → Shared → Prop} {R : Result → Shared → Prop} {S : Addr} {h0 : Heap} {items : List Value} {G : Nat → Heap → Prop}
    (W : WalksS P w A.in1 I fp wr GG n Pv St) (hSf : S ∉ fp) (T : Fill P w S h0 items G) (hval : ∀ i v, Pv i v → items[i]? = some v) (hS0 : h0.get? S = none) (hw0 : ∀ b ∈ wr, h0.get? b = none) (hu : A.in1.units + 8 < cLine) :
    ∀ (k i : Nat) (s : Shared), n - i = k → i ≤ n → St i s → (∀ b o, h0.get? b = some o → s.heap.get? b = some o) → G i s.heap →
      (∀ s', Moved (S :: wr) GG s s' → G n s'.heap → (∀ b o, h0.get? b = some o → s'.heap.get? b = some o) → R (.ok (.ret .none)) s') →
      codeAny (model P w) A (.builtin "set.update.loop" ⟨[.ref S, .ref I], []⟩) R s := by
  have hSw : S ∉ wr := fun h => hSf (W.sub _ h)
  have wider : ∀ b ∈ wr, b ∈ S :: wr := fun b hb => List.mem_cons_of_mem _ hb
  have old : ∀ {s s' : Shared}, Moved wr GG s s' → (∀ b o, h0.get? b = some o → s.heap.get? b = some o) → ∀ b o, h0.get? b = some o → s'.heap.get? b = some o := fun hm hkp b o e =>
    hm.heap b o (fun hb => by rw [hw0 b hb] at e; cases e) (hkp b o e)
  intro k
  induction k with
  | zero =>
    intro i s hk' hi hst hkp g hR
    have hin : i = n := by omega
    subst hin
    refine codeAny_builtin F.entry_set_update_loop ?_
    rw [Around.under_plainId F.plain_set_update_loop _]
    show wpAny _ A.in1 (pyNext (.ref I) >>= _) _ _ s
    refine wpAny_bind (W.done s _ _ hst fun s' hm => ?_)
    show wpAny _ A.in1 (ret Value.none) _ _ s'
    exact wpAny_pure (hR s' (hm.mono wider) (T.keep _ _ _ g (fun o e => hm.heap S o hSw e) (old hm hkp)) (old hm hkp))
  | succ k ih =>
    intro i s hk' hi hst hkp g hR
    have hlt : i < n := by omega
    refine codeAny_builtin F.entry_set_update_loop ?_
    rw [Around.under_plainId F.plain_set_update_loop _]
    show wpAny _ A.in1 (pyNext (.ref I) >>= _) _ _ s
    refine wpAny_bind (W.item i s _ _ hlt hst fun v s' hP hst' hm => ?_)
    have hkp' := old hm hkp
    show wpAny _ A.in1 (holding [v] (setAdd S v) >>= _) _ _ s'
    refine wpAny_bind (wpAny_holding (T.put i v A.in1 _ s' _ hu (hval i v hP) (T.keep _ _ _ g (fun o e => hm.heap S o hSw e) hkp') hkp' fun b h' tk htk hsb g' => ?_))
    have hkp2 : ∀ b o, h0.get? b = some o → h'.get? b = some o := fun b o e => (hsb.2 b (fun z => by rw [z, hS0] at e; cases e)).trans (hkp' b o e)
    refine wpAny_pure ⟨plainId_quiet F.plain_set_update_loop _, ih (i + 1) _ (by omega) hlt (W.frame _ s' _ _ hst' htk fun b hb o e => ?_) hkp2 g' fun s'' hm'' g'' hkp'' => ?_⟩
    · rw [hsb.2 b (fun h : b = S => hSf (by rw [← h]; exact hb))]
      exact e
    · refine hR s'' (Moved.trans W.gtrans ((hm.mono wider).then_heap htk fun b o hb e => ?_) hm'') g'' hkp''
      rw [hsb.2 b (fun h : b = S => hb (by rw [h]; exact List.mem_cons_self))]
      exact e
theorem call_fill_list {l : Addr} {items : Array Value} {G : Nat → Heap → Prop} {Q : Value → Shared → Prop} (hh : A.handled = none) (hl : s.heap.IsList l items) (T : Fill P w s.heap.objs.size s.heap items.toList G) (hu : A.units + 16 < cLine)
    (h : ∀ (h' : Heap) (tk : Nat), G items.size h' → (∀ b o, s.heap.get? b = some o → h'.get? b = some o) → Q (.ref s.heap.objs.size) { s with heap := h', toks := tk }) :
    wpAny (model P w) A (call (.type "set") [.ref l]) Q E s := by
  obtain ⟨c, tl, hmro⟩ := F.called_set.mro
  have hmade := F.called_set.made
  have hsub := F.called_set.sub
  refine wpAny_call (codeAny_of_tree ?_)
  show wpAny _ _ (callAny (.type "set") _) _ _ _
  refine wpAny_pure ⟨Code.quiet_builtin _ (by decide +kernel), codeAny_builtin F.entry_type_call ?_⟩
  rw [Around.under_plain (weight_type_call_type "set" [.ref l] []) rfl]
  have f1 := F.called_set.notType
  have f2 := F.called_set.canCreate
  have f3 := F.typeCall_set_1 (.ref l)
  repeat (any_goals (first | assumption | wp_step))
  refine codeAny_mono (code_set_led1 (.ref l) (E := E) (Q₁ := fun obj s₁ => obj = .ref s.heap.objs.size ∧ s₁ = { s with heap := s.heap.push (newSetObj w) }) ⟨rfl, rfl⟩) fun r s₁ hr => ?_
  cases r with
  | error e => exact hr
  | ok fl =>
    cases fl with
    | ret obj =>
      obtain ⟨rfl, rfl⟩ := hr
      have hS : (s.heap.push (newSetObj w)).get? s.heap.objs.size = some (newSetObj w) := Heap.get?_push_size _ rfl
      have hT : Shared.TypeIs { s with heap := s.heap.push (newSetObj w) } (.ref s.heap.objs.size) "set" := ⟨_, hS, rfl⟩
      have f4 := F.called_set.init.lookup
      have f5 := F.called_set.init.bind (.ref s.heap.objs.size)
      repeat (any_goals (first | assumption | wp_step))
      refine codeAny_mono (codeAny_call_builtin (R := wants (fun r s₂ => r = .none ∧ ∃ h' tk, s₂ = { s with heap := h', toks := tk } ∧ G items.size h' ∧ (∀ b o, s.heap.get? b = some o → h'.get? b = some o)) E) F.called_set.init.plain F.entry_set_init (check_set_init_1 hT ?_)) fun r₂ s₂ hr₂ => ?_
      · obtain ⟨ol, hol, hcl, nl, hdl⟩ := hl
        obtain ⟨ocls, odict, odata, oslots⟩ := ol
        simp only at hcl hdl
        subst hcl; subst hdl
        have hol' : (s.heap.push (newSetObj w)).get? l = some { cls := .type "list", dict := odict, data := .seq items nl, slots := oslots } := Heap.get?_push_of_some _ hol
        have f6 := F.sub_list_set
        have f7 := F.sub_list_frozenset
        have f8 : (Value.type "list" == Value.type "dict") = false := by decide
        have hl1 : (s.heap.push (newSetObj w)).IsList l items := ⟨_, hol', rfl, nl, rfl⟩
        unfold Builtin.«set.__init__» noKeywords Builtin.Frozenset.updateFrom
        generalize hPI : pyIter = PI
        wp_walk
        subst hPI
        refine wpAny_pyIter_list hl1 ?_
        refine wpAny_bind (wpAny_runValue ?_)
        have hlS : l < s.heap.objs.size := Heap.lt_size hol
        have hh3 : A.in1.in1.in1.handled = none := by simp [hh]
        have hz1 : (s.heap.push (newSetObj w)).objs.size = s.heap.objs.size + 1 := Heap.size_push ..
        have hneI : l ≠ (s.heap.push (newSetObj w)).objs.size := by
          rw [Heap.size_push]
          exact Nat.ne_of_lt (Nat.lt_succ_of_lt hlS)
        have hSf : s.heap.objs.size ∉ [(s.heap.push (newSetObj w)).objs.size, l] := by
          rw [Heap.size_push]
          simp only [List.mem_cons, List.mem_singleton, List.not_mem_nil, or_false, not_or]
          exact ⟨Nat.ne_of_lt (Nat.lt_succ_self _), Nat.ne_of_gt hlS⟩
        have none_of : ∀ b, s.heap.objs.size ≤ b → s.heap.get? b = none := fun b hb => by
          cases q : s.heap.get? b with
          | none => rfl
          | some o => exact absurd (Nat.lt_of_lt_of_le (Heap.lt_size q) hb) (Nat.lt_irrefl _)
        refine fill_loop ((Walks.list hh3 _ l hneI items).toS) hSf T (fun i v hv => by rw [Array.getElem?_toList]; exact hv) (none_of _ (Nat.le_refl _)) (fun b hb => none_of b (by
            rw [List.mem_singleton.mp hb, Heap.size_push]
            exact Nat.le_succ _)) (by simp only [Around.in1_units]; omega) (items.size - 0) 0 _ (by omega) (Nat.zero_le _)
          ⟨⟨_, Heap.get?_push_size _ rfl, rfl, rfl⟩, (hl1.push _)⟩ (fun b o e => Heap.get?_push_of_some _ (Heap.get?_push_of_some _ e)) (T.start _ (Heap.get?_push_of_some _ hS)) ?hR
        intro s' hm g' hkp
        obtain ⟨h', g2, d', tk', os'⟩ := s'
        have eg : g2 = s.gens := hm.gens
        have ed : d' = s.drawn := hm.drawn
        have eo : os' = s.os := hm.os
        subst eg; subst ed; subst eo
        show wpAny _ _ _ _ _ _
        refine wpAny_pure ?_
        show wpAny _ _ (ret Value.none) _ _ _
        exact wpAny_pure ⟨rfl, h', tk', rfl, g', hkp⟩
      · cases r₂ with
        | error e => exact hr₂
        | ok fl₂ =>
          cases fl₂ with
          | ret r =>
            obtain ⟨rfl, h', tk, rfl, g', hk'⟩ := hr₂
            repeat (any_goals (first | assumption | wp_step))
            exact h _ _ g' hk'
          | _ => exact hr₂.elim
    | _ => exact hr.elim
theorem call_fill_tuple {l : Addr} {items : Array Value} {G : Nat → Heap → Prop} {Q : Value → Shared → Prop} (hh : A.handled = none) (hl : s.heap.IsTuple l items) (T : Fill P w s.heap.objs.size s.heap items.toList G) (hu : A.units + 16 < cLine)
    (h : ∀ (h' : Heap) (tk : Nat), G items.size h' → (∀ b o, s.heap.get? b = some o → h'.get? b = some o) → Q (.ref s.heap.objs.size) { s with heap := h', toks := tk }) :
    wpAny (model P w) A (call (.type "set") [.ref l]) Q E s := by
  obtain ⟨c, tl, hmro⟩ := F.called_set.mro
  have hmade := F.called_set.made
  have hsub := F.called_set.sub
  refine wpAny_call (codeAny_of_tree ?_)
  show wpAny _ _ (callAny (.type "set") _) _ _ _
  refine wpAny_pure ⟨Code.quiet_builtin _ (by decide +kernel), codeAny_builtin F.entry_type_call ?_⟩
  rw [Around.under_plain (weight_type_call_type "set" [.ref l] []) rfl]
  have f1 := F.called_set.notType
  have f2 := F.called_set.canCreate
  have f3 := F.typeCall_set_1 (.ref l)
  repeat (any_goals (first | assumption | wp_step))
  refine codeAny_mono (code_set_led1 (.ref l) (E := E) (Q₁ := fun obj s₁ => obj = .ref s.heap.objs.size ∧ s₁ = { s with heap := s.heap.push (newSetObj w) }) ⟨rfl, rfl⟩) fun r s₁ hr => ?_
  cases r with
  | error e => exact hr
  | ok fl =>
    cases fl with
    | ret obj =>
      obtain ⟨rfl, rfl⟩ := hr
      have hS : (s.heap.push (newSetObj w)).get? s.heap.objs.size = some (newSetObj w) := Heap.get?_push_size _ rfl
      have hT : Shared.TypeIs { s with heap := s.heap.push (newSetObj w) } (.ref s.heap.objs.size) "set" := ⟨_, hS, rfl⟩
      have f4 := F.called_set.init.lookup
      have f5 := F.called_set.init.bind (.ref s.heap.objs.size)
      repeat (any_goals (first | assumption | wp_step))
      refine codeAny_mono (codeAny_call_builtin (R := wants (fun r s₂ => r = .none ∧ ∃ h' tk, s₂ = { s with heap := h', toks := tk } ∧ G items.size h' ∧ (∀ b o, s.heap.get? b = some o → h'.get? b = some o)) E) F.called_set.init.plain F.entry_set_init (check_set_init_1 hT ?_)) fun r₂ s₂ hr₂ => ?_
      · obtain ⟨ol, hol, hcl, nl, hdl⟩ := hl
        obtain ⟨ocls, odict, odata, oslots⟩ := ol
        simp only at hcl hdl
        subst hcl; subst hdl
        have hol' : (s.heap.push (newSetObj w)).get? l = some { cls := .type "tuple", dict := odict, data := .seq items nl, slots := oslots } := Heap.get?_push_of_some _ hol
        have f6 := F.sub_tuple_set
        have f7 := F.sub_tuple_frozenset
        have f8 : (Value.type "tuple" == Value.type "dict") = false := by decide
        have hl1 : (s.heap.push (newSetObj w)).IsTuple l items := ⟨_, hol', rfl, nl, rfl⟩
        unfold Builtin.«set.__init__» noKeywords Builtin.Frozenset.updateFrom
        generalize hPI : pyIter = PI
        wp_walk
        subst hPI
        refine wpAny_pyIter_tuple hl1 ?_
        refine wpAny_bind (wpAny_runValue ?_)
        have hlS : l < s.heap.objs.size := Heap.lt_size hol
        have hh3 : A.in1.in1.in1.handled = none := by simp [hh]
        have hz1 : (s.heap.push (newSetObj w)).objs.size = s.heap.objs.size + 1 := Heap.size_push ..
        have hneI : l ≠ (s.heap.push (newSetObj w)).objs.size := by
          rw [Heap.size_push]
          exact Nat.ne_of_lt (Nat.lt_succ_of_lt hlS)
        have hSf : s.heap.objs.size ∉ [(s.heap.push (newSetObj w)).objs.size, l] := by
          rw [Heap.size_push]
          simp only [List.mem_cons, List.mem_singleton, List.not_mem_nil, or_false, not_or]
          exact ⟨Nat.ne_of_lt (Nat.lt_succ_self _), Nat.ne_of_gt hlS⟩
        have none_of : ∀ b, s.heap.objs.size ≤ b → s.heap.get? b = none := fun b hb => by
          cases q : s.heap.get? b with
          | none => rfl
          | some o => exact absurd (Nat.lt_of_lt_of_le (Heap.lt_size q) hb) (Nat.lt_irrefl _)
        refine fill_loop ((Walks.tuple hh3 _ l hneI items).toS) hSf T (fun i v hv => by rw [Array.getElem?_toList]; exact hv) (none_of _ (Nat.le_refl _)) (fun b hb => none_of b (by
            rw [List.mem_singleton.mp hb, Heap.size_push]
            exact Nat.le_succ _)) (by simp only [Around.in1_units]; omega) (items.size - 0) 0 _ (by omega) (Nat.zero_le _)
          ⟨⟨_, Heap.get?_push_size _ rfl, rfl, rfl⟩, (hl1.push _)⟩ (fun b o e => Heap.get?_push_of_some _ (Heap.get?_push_of_some _ e)) (T.start _ (Heap.get?_push_of_some _ hS)) ?hR
        intro s' hm g' hkp
        obtain ⟨h', g2, d', tk', os'⟩ := s'
        have eg : g2 = s.gens := hm.gens
        have ed : d' = s.drawn := hm.drawn
        have eo : os' = s.os := hm.os
        subst eg; subst ed; subst eo
        show wpAny _ _ _ _ _ _
        refine wpAny_pure ?_
        show wpAny _ _ (ret Value.none) _ _ _
        exact wpAny_pure ⟨rfl, h', tk', rfl, g', hkp⟩
      · cases r₂ with
        | error e => exact hr₂
        | ok fl₂ =>
          cases fl₂ with
          | ret r =>
            obtain ⟨rfl, h', tk, rfl, g', hk'⟩ := hr₂
            repeat (any_goals (first | assumption | wp_step))
            exact h _ _ g' hk'
          | _ => exact hr₂.elim
    | _ => exact hr.elim
end
end Rw
namespace Rw
open PySem PySem.Spec PyProof.Rows PySem.W PySem.SeqAt
/-! ### tuples, perhaps empty ones among them, sorted -/
section
variable {prog : Program} {w : World} {A : Around} {E : Value → Shared → Prop} {s : Shared}
/-- each value is a tuple, and these are their first items -/
inductive Firsts (h : Heap) : List Value → List (Option Value) → Prop
  | nil : Firsts h [] []
  | cons {a : Addr} {o : Obj} {xs : Array Value} {n : Nat} {vs : List Value} {fs : List (Option Value)} : h.get? a = some o → o.cls = .type "tuple" → o.data = .seq xs n → Firsts h vs fs → Firsts h (.ref a :: vs) (xs[0]? :: fs)
theorem Firsts.len {h : Heap} {vs : List Value} {fs : List (Option Value)} (x : Firsts h vs fs) : fs.length = vs.length := by
  induction x with
  | nil => rfl
  | cons _ _ _ _ ih => rw [List.length_cons, List.length_cons, ih]
theorem firsts_run {M : Model} : ∀ (vs : List Value) (fs : List (Option Value)) {Q : List (Option Value) → Shared → Prop}, Firsts s.heap vs fs → Q fs s → wpAny M A (vs.mapM firstOfTuple') Q E s
  | _, _, _, .nil, h => by
    rw [List.mapM_nil]
    exact wpAny_pure h
  | _, _, Q, .cons (a := a) (xs := xs) (vs := vs) (fs := fs) ho hc hd t, h => by
    rw [List.mapM_cons]
    refine wpAny_bind ?_
    rw [kas_first_eq]
    refine wpAny_bind (Looks.here (show Looks M s.heap (typeOf (.ref a)) _ from (Looks.ld ho).andThen .now) ?_)
    rw [hc, if_neg (by first | decide | simp)]
    refine wpAny_bind (listItems_at ho hd (wpAny_pure ?_))
    exact wpAny_bind (firsts_run vs fs (Q := fun bs s' => wpAny M A (pure (xs[0]? :: bs)) Q E s') t (wpAny_pure h))
theorem firsts_ty {M : Model} {h : Heap} {vs : List Value} {fs : List (Option Value)} (x : Firsts h vs fs) : ∀ v ∈ vs, Looks M h (typeOf v) (.type "tuple") := by
  induction x with
  | nil => exact fun v hv => nomatch hv
  | cons ho hc hd _ ih =>
    intro v hv
    rcases List.mem_cons.mp hv with rfl | hv
    · show Looks M h (typeOf (Value.ref _)) (Value.type "tuple")
      exact hc ▸ (Looks.ld ho).andThen .now
    · exact ih v hv
/-- an empty one among the others, not the first -/
theorem kind_general {M : Model} {vs : List Value} {fs : List (Option Value)} {f : Value} {Q : SortKind → Shared → Prop} (x : Firsts s.heap vs fs) (h0 : fs[0]? = some (some f)) (hn : none ∈ fs) (h : Q general' s) : wpAny M A (keyKind' vs.toArray) Q E s := by
  rw [kat_kind_eq, List.mapM_toArray, map_eq_pure_bind]
  refine wpAny_bind (wpAny_bind (firsts_run vs fs x (wpAny_pure ?_)))
  have c : ¬ ((fs.toArray.all fun x => x.isSome) = true) := by
    intro q
    rw [List.all_toArray, List.all_eq_true] at q
    exact absurd (q none hn) (by simp)
  rw [if_neg c]
  have c2 : ((fs.toArray[0]?.bind id).isSome) = true := by
    have e : fs.toArray[0]? = some (some f) := by simpa using h0
    rw [e]
    rfl
  rw [if_pos c2]
  exact wpAny_pure h
/-- the first is empty -/
theorem kind_one {M : Model} {vs : List Value} {fs : List (Option Value)} {Q : SortKind → Shared → Prop} (x : Firsts s.heap vs fs) (h0 : fs[0]? = some none) (h : Q oneType' s) : wpAny M A (keyKind' vs.toArray) Q E s := by
  rw [kat_kind_eq, List.mapM_toArray, map_eq_pure_bind]
  refine wpAny_bind (wpAny_bind (firsts_run vs fs x (wpAny_pure ?_)))
  have c : ¬ ((fs.toArray.all fun x => x.isSome) = true) := by
    intro q
    rw [List.all_toArray, List.all_eq_true] at q
    exact absurd (q none (List.mem_of_getElem? h0)) (by simp)
  rw [if_neg c]
  have e : fs.toArray[0]? = some none := by simpa using h0
  have c2 : ¬ ((fs.toArray[0]?.bind id).isSome) = true := by
    rw [e]
    simp
  rw [if_neg c2, oneTypeOnly'_eq, List.mapM_toArray, map_eq_pure_bind]
  refine wpAny_bind (wpAny_bind (wpAny_bind (kas_mapM (r := Value.type "tuple") _ (fun v hv Q' hq => (firsts_ty x v hv).here hq) (wpAny_pure ?_))))
  have all : ((List.map (fun _ => Value.type "tuple") vs).toArray.all fun x => x == Value.type "tuple") = true := by
    simp only [List.all_toArray, List.all_map, List.all_eq_true]
    intro _ _
    show (Value.type "tuple" == Value.type "tuple") = true
    decide
  obtain ⟨v, r, ev⟩ : ∃ v r, vs = v :: r := by
    cases x with
    | nil => simp at h0
    | cons _ _ _ _ => exact ⟨_, _, rfl⟩
  have z : (List.map (fun _ => Value.type "tuple") vs).toArray[0]? = some (Value.type "tuple") := by
    rw [ev]
    simp
  rw [z]
  simp only [all, if_true]
  exact wpAny_pure (wpAny_pure h)
/-- by the type's own < -/
theorem oneLt_tuples {xs ys : List PyData} {a b : Value} {as bs : List Addr} {Q : Bool → Shared → Prop} (ra : Reads s.heap a (.tuple xs) as) (rb : Reads s.heap b (.tuple ys) bs) (hal : alikeAll xs ys = true)
    (hu : A.units + min (PyData.tuple xs).depth (PyData.tuple ys).depth < cLine) (hq : Q (dataLt (.tuple xs) (.tuple ys)) s) : wpAny (model prog w) A (oneLt' true a b) Q E s := by
  cases ra with
  | @tuple l o vs n _ _ h1 h2 h3 h4 =>
    cases rb with
    | @tuple l' o' vs' n' _ _ k1 k2 k3 k4 =>
      have n1 : vs.size = xs.length := by simpa using SeqAt.ReadsAll.length _ _ _ h4
      have n2 : vs'.size = ys.length := by simpa using SeqAt.ReadsAll.length _ _ _ k4
      rw [dataLt_tuple, ← firstLt_toks xs ys hal, ← n1, ← n2] at hq
      rw [oneLt'_eq]
      simp only [if_true]
      refine wpAny_bind (wpAny_cRoomFor (SeqAt.room_here hu) ?_)
      obtain ⟨ocls, odict, odata, oslots⟩ := o
      obtain ⟨pcls, pdict, pdata, pslots⟩ := o'
      simp only at h2 h3 k2 k3
      subst h2 h3 k2 k3
      refine wpAny_bind (wpAny_callSpecialIfBound?_slot (T := "tuple") ⟨_, h1, rfl⟩ F.slot_tuple_lt (call_meets F.slot_tuple_lt ⟨_, h1, rfl⟩ F.entry_tuple_lt (F.args_tuple_lt_2 _ _)
        (SeqAt.tuple_ltAt l l' vs vs' n n' odict pdict oslots pslots (pairEq xs ys) (fun j => dataLt (xs.getD j .none) (ys.getD j .none))) ⟨h1, k1, fun j j1 j2 => ?_, fun j j1 j2 hj => ?_, ?_⟩))
      · have := eqAt_alikeAll xs ys A.in1 s vs.toList vs'.toList _ _ h4 k4 hal (SeqAt.room_in hu) j (by simpa using j1) (by simpa using j2)
        simpa using this
      · have := rcLt_alikeAll xs ys A.in1 s vs.toList vs'.toList _ _ h4 k4 hal (SeqAt.room_in hu) j (by simpa using j1) (by simpa using j2) hj
        simpa using this
      · exact wpAny_truthy_bool hq
theorem firsts_of {h : Heap} : ∀ {vs : List Value} {ds : List PyData}, EachIs (fun v d => ∃ as, Reads h v d as) vs ds → (∀ d ∈ ds, ∃ xs, d = .tuple xs) → ∃ fs, Firsts h vs fs ∧ ∀ i : Nat, fs[i]? = some none ↔ ds[i]? = some (.tuple [])
  | _, _, .nil, _ => ⟨[], .nil, fun i => by simp⟩
  | _, _, .cons (b := d) ⟨as, r⟩ t, ht => by
    obtain ⟨fs, h1, h2⟩ := firsts_of t fun d hd => ht d (List.mem_cons_of_mem _ hd)
    obtain ⟨xs, rfl⟩ := ht d List.mem_cons_self
    cases r with
    | @tuple a o vs n _ _ ho hc hd hr =>
      refine ⟨_, .cons ho hc hd h1, fun i => ?_⟩
      cases i with
      | succ i => simpa using h2 i
      | zero =>
        have hl := SeqAt.ReadsAll.length _ _ _ hr
        rw [Array.length_toList] at hl
        simp only [List.getElem?_cons_zero, Option.some.injEq]
        constructor
        · intro q
          have z : vs.size = 0 := by
            have := Array.getElem?_eq_none_iff.mp q
            omega
          rw [z] at hl
          rw [List.length_eq_zero_iff.mp hl.symm]
        · intro q
          injection q with q
          subst q
          rw [List.length_nil] at hl
          exact Array.getElem?_eq_none (by omega)
/-- tuples of alike data can be sorted, empty ones too -/
theorem SortsAt.tups {vs : List Value} {ds : List PyData} (e : EachIs (fun v d => ∃ as, Reads s.heap v d as) vs ds) (hal : AllAlike ds) (ht : ∀ d ∈ ds, ∃ xs, d = .tuple xs) (hu : ∀ d, d ∈ ds → A.units + d.depth < cLine) : SortsAt prog w A s (dataKind s.heap ds) vs := by
  by_cases full : ∀ d ∈ ds, ∃ x r, d = .tuple (x :: r)
  · exact SortsAt.data e hal (.inl full) hu
  have hollow : PyData.tuple [] ∈ ds := by
    refine Classical.byContradiction fun hn => full fun d hd => ?_
    obtain ⟨xs, rfl⟩ := ht d hd
    cases xs with
    | nil => exact absurd hd hn
    | cons x r => exact ⟨x, r, rfl⟩
  have room : ∀ {d d' : PyData}, d ∈ ds → A.units + min d.depth d'.depth < cLine := fun {d d'} hd => Nat.lt_of_le_of_lt (Nat.add_le_add_left (Nat.min_le_left _ _) _) (hu d hd)
  refine ⟨fun v hv => ?_, ?_⟩
  · obtain ⟨d, hd, as, r⟩ := e.left v hv
    exact ⟨_, dataKind_some hal hd r⟩
  obtain ⟨fs, f1, f2⟩ := firsts_of e ht
  obtain ⟨i0, hi0, ei0⟩ := List.getElem_of_mem hollow
  have hnone : none ∈ fs := List.mem_of_getElem? ((f2 i0).mpr (by rw [List.getElem?_eq_getElem hi0, ei0]))
  have side : ∀ {x y : Value} {a b : List (Int ⊕ List Nat)}, (dataKind s.heap ds).keyOf x = some a → (dataKind s.heap ds).keyOf y = some b →
      ∃ xs ys as bs, Reads s.heap x (.tuple xs) as ∧ Reads s.heap y (.tuple ys) bs ∧ alike (.tuple xs) (.tuple ys) = true ∧ a = keyToks (.tuple xs) ∧ b = keyToks (.tuple ys) ∧ A.units + min (PyData.tuple xs).depth (PyData.tuple ys).depth < cLine := by
    intro x y a b ha hb
    obtain ⟨d, as, hd, ra, rfl⟩ := dataKind_inv ha
    obtain ⟨d', bs, hd', rb, rfl⟩ := dataKind_inv hb
    obtain ⟨xs, rfl⟩ := ht d hd
    obtain ⟨ys, rfl⟩ := ht d' hd'
    exact ⟨xs, ys, as, bs, ra, rb, hal _ hd _ hd', rfl, rfl, room hd⟩
  cases hz : fs[0]? with
  | none =>
    have : fs = [] := by
      cases fs with
      | nil => rfl
      | cons f r => simp at hz
    rw [this] at hnone
    exact nomatch hnone
  | some f =>
    cases f with
    | some f =>
      refine ⟨general', fun E x y a b Q ha hb hq => ?_, fun _ E Q hq => kind_general f1 hz hnone hq⟩
      obtain ⟨xs, ys, as, bs, ra, rb, hh, rfl, rfl, hr⟩ := side ha hb
      show wpAny _ _ (oneLt' false x y) _ _ _
      exact oneLt_alike (fun z => absurd z Bool.false_ne_true) ra rb hh (fun z => nomatch z) hr hq
    | none =>
      refine ⟨oneType', fun E x y a b Q ha hb hq => ?_, fun _ E Q hq => kind_one f1 hz hq⟩
      obtain ⟨xs, ys, as, bs, ra, rb, hh, rfl, rfl, hr⟩ := side ha hb
      rw [keyLt'_oneType]
      exact oneLt_tuples ra rb (by simpa [alike] using hh) hr hq
end
end Rw
namespace Rw
open PySem PySem.Spec PyProof.Rows L2 PySem.Froz
/-! ### filling a set with tuples -/
structure GotN (ks : List (Addr × NK)) (i : Nat) (L : List (Addr × NK)) : Prop where
  sub : ∀ p ∈ L, p ∈ ks.take i
  all : ∀ p ∈ ks.take i, p.2 ∈ L.map (·.2)
  len : L.length ≤ i
theorem take_snoc {α : Type} {l : List α} {i : Nat} {x : α} (h : l[i]? = some x) : l.take (i + 1) = l.take i ++ [x] := by
  rw [List.take_succ, h]
  rfl
theorem GotN.next {ks L L' : List (Addr × NK)} {i : Nat} {x : Addr × NK} (g : GotN ks i L) (h : ks[i]? = some x) (c1 : x.2 ∈ L.map (·.2) → L' = L) (c2 : x.2 ∉ L.map (·.2) → L'.Perm (x :: L)) : GotN ks (i + 1) L' := by
  have ht := take_snoc h
  by_cases hm : x.2 ∈ L.map (·.2)
  · rw [c1 hm]
    refine ⟨fun p hp => ?_, fun p hp => ?_, Nat.le_succ_of_le g.len⟩
    · rw [ht]
      exact List.mem_append_left _ (g.sub p hp)
    · rw [ht] at hp
      rcases List.mem_append.mp hp with z | z
      · exact g.all p z
      · rw [List.mem_singleton.mp z]
        exact hm
  · have pm := c2 hm
    refine ⟨fun p hp => ?_, fun p hp => ?_, ?_⟩
    · rw [ht]
      rcases List.mem_cons.mp (pm.mem_iff.mp hp) with e | z
      · rw [e]
        exact List.mem_append_right _ (List.mem_singleton.mpr rfl)
      · exact List.mem_append_left _ (g.sub p z)
    · rw [(pm.map (·.2)).mem_iff, List.map_cons]
      rw [ht] at hp
      rcases List.mem_append.mp hp with z | z
      · exact List.mem_cons_of_mem _ (g.all p z)
      · rw [List.mem_singleton.mp z]
        exact List.mem_cons_self
    · rw [pm.length_eq, List.length_cons]
      exact Nat.succ_le_succ g.len
theorem led_new (w : World) : w.params.followText "set-order" = true ∨ (!w.params.followText "set-order") = true := by
  cases w.params.followText "set-order"
  · exact .inr rfl
  · exact .inl rfl
section
variable {P : Program} {w : World} {A : Around} {E : Value → Shared → Prop} {s : Shared}
theorem TSet.empty {h : Heap} {a : Addr} (ho : h.get? a = some (newSetObj w)) : TSet P w h a [] #[] 0 (.fresh 0 0 (!w.params.followText "set-order")) where
  ob := ⟨_, ho, ⟨rfl, rfl, rfl⟩, rfl⟩
  en := rfl
  tab := ⟨List.Pairwise.nil, rfl, rfl, .inl rfl, fun x hx => (by cases hx), fun i h j hi => (by simp [hashes] at hi)⟩
  nd := List.nodup_nil
  ks := fun p hp => (by cases hp)
  led := led_new w
  room := by
    show 0 * 5 < 7 * 3
    decide
  few := by
    show 0 < 76
    decide
theorem TSet.moved {h h' : Heap} {a : Addr} {L : List (Addr × NK)} {es : Array (Int × Value)} {ep : Nat} {t : SetTable} (R : TSet P w h a L es ep t) (ha : ∀ o, h.get? a = some o → h'.get? a = some o) (ht : ∀ p ∈ L, TupK h' p.2 p.1) : TSet P w h' a L es ep t := by
  obtain ⟨o, ho, r⟩ := R.ob
  exact ⟨⟨o, ha o ho, r⟩, R.en, R.tab, R.nd, ht, R.led, R.room, R.few⟩
theorem fill_tups (S : Addr) (h0 : Heap) (ks : List (Addr × NK)) (hk : ∀ p ∈ ks, TupK h0 p.2 p.1) (few : ks.length < 76) :
    Fill P w S h0 (ks.map fun p => Value.ref p.1) (fun i h => ∃ L es ep t, TSet P w h S L es ep t ∧ GotN ks i L) where
  start := fun h ho => ⟨[], #[], 0, _, TSet.empty ho, ⟨fun p hp => (by cases hp), fun p hp => (by simp at hp), Nat.le_refl _⟩⟩
  keep := fun i h h' ⟨L, es, ep, t, R, g⟩ ha hold => ⟨L, es, ep, t, R.moved ha fun p hp => (hk p (List.mem_of_mem_take (g.sub p hp))).kept hold, g⟩
  put := fun i v A E s Q hu hv ⟨L, es, ep, t, R, g⟩ hold hQ => by
    rw [List.getElem?_map] at hv
    cases hx : ks[i]? with
    | none => rw [hx] at hv; simp at hv
    | some x =>
      rw [hx] at hv
      obtain rfl : Value.ref x.1 = v := Option.some.inj hv
      have il : i < ks.length := (List.getElem?_eq_some_iff.mp hx).1
      have hxk := (hk x (List.mem_of_getElem? hx)).kept hold
      unfold setAdd
      refine wpAny_holding ?_
      refine wpAny_bind ((nestedKind P w).pyHash (k := x.2) (show A.units + 8 < cLine from hu) hxk ?_)
      refine added (s := { s with toks := s.toks + (nestedKind P w).draws x.2 }) R hxk hu (by have := g.len; omega) fun b h' L' es' ep' t' sb R' c1 c2 => ?_
      exact hQ b h' _ (Nat.le_add_right _ _) sb ⟨L', es', ep', t', R', g.next hx c1 c2⟩
/-! ### filling a set with texts -/
structure XSet (P : Program) (w : World) (h : Heap) (a : Addr) (ms : List Str) (es : Array (Int × Value)) (ep : Nat) (t : SetTable) : Prop where
  ob : h.get? a = some (sObj "set" (es, ep, t))
  ok : TxOk P w (es, ep, t) ms
  nd : ms.Nodup
  ris : Ris t.place.toList
  led : w.params.followText "set-order" = true ∨ t.led = true
theorem add_ris {g : Int} {v : Value} {D : SD} (h : Ris D.2.2.place.toList) : Ris (addTx g v D).2.2.place.toList ∧ (addTx g v D).2.2.led = D.2.2.led := by
  obtain ⟨es, ep, t⟩ := D
  have n1 := layNew_ris t es g v h
  have n2 := layNew_led t es g v
  unfold addTx tailTx
  dsimp only at n1 n2 ⊢
  generalize layNew t es g v = N at n1 n2 ⊢
  obtain ⟨es1, t1, wd, gv⟩ := N
  dsimp only at n1 n2 ⊢
  have m1 : Ris (if t1.plain = true then { t1 with plain := false } else t1).place.toList ∧ (if t1.plain = true then { t1 with plain := false } else t1).led = t.led := by
    split <;> exact ⟨n1, n2⟩
  generalize (if t1.plain = true then { t1 with plain := false } else t1) = t2 at m1 ⊢
  split
  · exact ⟨relayAll_ris t2 es1 _, (relayAll_led t2 es1 _).trans m1.2⟩
  · exact m1
theorem XSet.moved {h h' : Heap} {a : Addr} {ms : List Str} {es : Array (Int × Value)} {ep : Nat} {t : SetTable} (R : XSet P w h a ms es ep t) (ha : ∀ o, h.get? a = some o → h'.get? a = some o) : XSet P w h' a ms es ep t :=
  ⟨ha _ R.ob, R.ok, R.nd, R.ris, R.led⟩
/-- a text that is in the set is put in again -/
theorem again_in {a : Addr} {ms : List Str} {es : Array (Int × Value)} {ep : Nat} {t : SetTable} {k : Str} {u : Tok} {Q : Bool → Shared → Prop} (R : XSet P w s.heap a ms es ep t) (hk : k ∈ ms) (hb : ms.length < scanBound) (h : Q false s) :
    wpAny (model P w) A (setAddHashed a (.str k u) (hashStr w k)) Q E s := by
  have hel : ElemsOf (strKind P w) es.toList := R.ok.el
  have hsz : es.size = ms.length := R.ok.sz
  have hf : t.fits es.size = true := R.ok.fit
  have hd : (sObj "set" (es, ep, t)).data = .set es ep t := rfl
  have hkey : (strKind P w).is k (.str k u) = true := is_str k u
  obtain ⟨e, he, hp⟩ := (R.ok.mem k).mp hk
  unfold setAddHashed setAddHashedIn
  refine wpAny_holding (wpAny_bind (wpAny_setState_of R.ob hd hf ?_))
  dsimp only
  rw [byScan_of rfl (by omega) hel]
  simp only [↓reduceIte]
  unfold setAddByScan
  refine wpAny_bind (wpAny_bind (wpAny_rule (wpAny_bind (wpAny_setScan_of (knd := strKind P w) (k := k) hkey R.ob hd hf hel ?_))))
  cases hr : List.findIdx? (fun e => (strKind P w).is k e.2) es.toList with
  | none =>
    have z := List.findIdx?_eq_none_iff.mp hr e he
    rw [hp] at z
    exact nomatch z
  | some j =>
    dsimp only
    exact wpAny_pure (wpAny_pure h)
theorem put_text {a : Addr} {ms : List Str} {es : Array (Int × Value)} {ep : Nat} {t : SetTable} {k : Str} {u : Tok} {Q : Bool → Shared → Prop} (R : XSet P w s.heap a ms es ep t) (hb : ms.length + 1 < scanBound)
    (h : ∀ b h' ms' es' ep' t', Heap.SameBut a s.heap h' → XSet P w h' a ms' es' ep' t' → (∀ z, z ∈ ms' ↔ z = k ∨ z ∈ ms) → ms'.length ≤ ms.length + 1 → Q b { s with heap := h' }) :
    wpAny (model P w) A (setAddHashed a (.str k u) (hashStr w k)) Q E s := by
  by_cases hk : k ∈ ms
  · refine again_in R hk (by omega) (h false s.heap ms es ep t (Heap.SameBut.refl a s.heap) R (fun z => ⟨.inr, fun q => q.elim (fun e => e ▸ hk) id⟩) (Nat.le_succ _))
  · refine add_x R.ob R.ok hk hb ?_
    have sb : Heap.SameBut a s.heap (s.heap.update a (fun _ => sObj "set" (addTx (hashStr w k) (.str k u) (es, ep, t)))) := Heap.SameBut.update ..
    have ho : (s.heap.update a (fun _ => sObj "set" (addTx (hashStr w k) (.str k u) (es, ep, t)))).get? a = some (sObj "set" (addTx (hashStr w k) (.str k u) (es, ep, t))) := get_upd _ R.ob rfl
    have ok := add_ok u R.ok (k := k)
    have rl := add_ris (g := hashStr w k) (v := .str k u) (D := (es, ep, t)) R.ris
    generalize addTx (hashStr w k) (.str k u) (es, ep, t) = D at sb ho ok rl ⊢
    obtain ⟨es', ep', t'⟩ := D
    refine h true _ (k :: ms) es' ep' t' sb ⟨ho, ok, List.nodup_cons.mpr ⟨hk, R.nd⟩, rl.1, ?_⟩ (fun z => List.mem_cons) (Nat.le_refl _)
    have e : t'.led = t.led := rl.2
    rw [e]
    exact R.led
theorem fill_texts (S : Addr) (h0 : Heap) (zs : List Str) {vs : List Value} (hv : PySem.W.EachIs (fun v z => ∃ u, v = Value.str z u) vs zs) (few : zs.length + 1 < scanBound) :
    Fill P w S h0 vs (fun i h => ∃ ms es ep t, XSet P w h S ms es ep t ∧ (∀ z, z ∈ ms ↔ z ∈ zs.take i) ∧ ms.length ≤ i) where
  start := fun h ho => ⟨[], #[], 0, _, ⟨ho, TxOk.nil rfl, List.nodup_nil, List.Pairwise.nil, led_new w⟩, fun z => by simp, Nat.le_refl _⟩
  keep := fun i h h' ⟨ms, es, ep, t, R, g⟩ ha _ => ⟨ms, es, ep, t, R.moved ha, g⟩
  put := fun i v A E s Q hu hvi ⟨ms, es, ep, t, R, g, hl⟩ hold hQ => by
    have hlen := hv.length
    have il : i < vs.length := (List.getElem?_eq_some_iff.mp hvi).1
    have iz : i < zs.length := by omega
    have hz : zs[i]? = some zs[i] := List.getElem?_eq_getElem iz
    have pz : (v, zs[i]) ∈ vs.zip zs := List.mem_of_getElem? (i := i) (by rw [List.getElem?_zip_eq_some]; exact ⟨hvi, hz⟩)
    obtain ⟨u, rfl⟩ : ∃ u, v = Value.str zs[i] u := hv.zip _ pz
    unfold setAdd
    refine wpAny_holding ?_
    refine wpAny_bind ((strKind P w).pyHash (k := zs[i]) (is_str _ _) ?_)
    refine put_text (s := { s with toks := s.toks + 1 }) R (by omega) fun b h' ms' es' ep' t' sb R' hm hl' => ?_
    refine hQ b h' _ (Nat.le_succ _) sb ⟨ms', es', ep', t', R', fun z => ?_, by omega⟩
    rw [hm, take_snoc hz, List.mem_append, List.mem_singleton, g z]
    exact ⟨fun q => q.elim .inr .inl, fun q => q.elim .inr .inl⟩
/-! ### sorted of a set -/
theorem each_perm {α β : Type} {R : α → β → Prop} {l l' : List α} (p : l'.Perm l) : ∀ {bs : List β}, PySem.W.EachIs R l bs → ∃ bs', PySem.W.EachIs R l' bs' ∧ bs'.Perm bs := by
  induction p with
  | nil => exact fun {bs} e => ⟨bs, e, List.Perm.refl _⟩
  | cons x _ ih =>
    intro bs e
    cases e with
    | cons h t =>
      obtain ⟨bs', e', p'⟩ := ih t
      exact ⟨_ :: bs', .cons h e', p'.cons _⟩
  | swap x y l =>
    intro bs e
    cases e with
    | cons h t =>
      cases t with
      | cons h' t' => exact ⟨_, .cons h' (.cons h t'), List.Perm.swap _ _ _⟩
  | trans _ _ ih1 ih2 =>
    intro bs e
    obtain ⟨b1, e1, p1⟩ := ih2 e
    obtain ⟨b2, e2, p2⟩ := ih1 e1
    exact ⟨b2, e2, p2.trans p1⟩
open PySem.W in
theorem each_and {α β : Type} {R S : α → β → Prop} : ∀ {as : List α} {bs : List β}, EachIs R as bs → EachIs S as bs → EachIs (fun a b => R a b ∧ S a b) as bs
  | _, _, .nil, .nil => .nil
  | _, _, .cons h t, .cons h' t' => .cons ⟨h, h'⟩ (each_and t t')
open PySem.W in
/-- xs.sort(): the list's own object then holds the sorted values -/
theorem list_sorts {β : Type} {a : Addr} {n : Nat} {vs : List Value} {bs : List β} {enc : β → PyData} {R : Value → β → Prop} {Q : Value → Shared → Prop} (ho : s.heap.get? a = some (seqObj "list" vs.toArray n)) (e : EachIs R vs bs) (er : EachIs (fun v b => ∃ as, Reads s.heap v (enc b) as ∧ a ∉ as) vs bs) (hal : AllAlike (bs.map enc)) (hk : (∀ d ∈ bs.map enc, ∃ xs, d = .tuple xs) ∨ Sortable (bs.map enc)) (hL : bs.length ≤ sizeLine)
    (hu : ∀ b, b ∈ bs → A.units + 1 + (enc b).depth < cLine) (h : ∀ out, out.length = bs.length → EachIs R out (bs.mergeSort (dataLe false enc)) → Q .none { s with heap := sortedHeap s.heap a vs (List.toArray out) }) :
    wpAny (model P w) A (call (.builtin "list.sort") [.ref a]) Q E s := by
  have er' : EachIs (fun v b => ∃ as, Reads (sortingHeap s.heap a vs) v (enc b) as) vs bs := each_keepBut (h' := sortingHeap s.heap a vs) (fun _ _ hb q => sortingHeap_old hb q) (fun o q => by rw [ho] at q; rw [← Option.some.inj q]) hal er
  have em := each_map (R := fun v d => ∃ as, Reads (sortingHeap s.heap a vs) v d as) enc er'
  have can : SortsAt P w A.in1 { s with heap := sortingHeap s.heap a vs } (dataKind (sortingHeap s.heap a vs) (bs.map enc)) vs := by
    rcases hk with ht | hs
    · exact SortsAt.tups (s := { s with heap := sortingHeap s.heap a vs }) em hal ht (bound_map hu)
    · exact SortsAt.data (s := { s with heap := sortingHeap s.heap a vs }) em hal hs (bound_map hu)
  refine wpAny_call_entry slot_list_sort ⟨_, ho, rfl⟩ entry_list_sort (list_sort_vals (κ := dataKind (sortingHeap s.heap a vs) (bs.map enc)) ho can (by rw [e.length]; exact hL) ⟨.none, rfl, ?_⟩) (args_list_sort _)
  exact h _ (by rw [sortVals_length false rfl]; exact e.length) (sortVals_data false e er' hal)
open PySem.W in
theorem sort_facts {β : Type} (enc : β → PyData) (bs : List β) : (bs.mergeSort (dataLe false enc)).Perm bs ∧ (bs.mergeSort (dataLe false enc)).Pairwise (fun a b => dataLe false enc a b = true) :=
  ⟨List.mergeSort_perm _ _, sort_pairwise (sortLe_total (listOrd itemOrd) false fun b => keyToks (enc b)) bs⟩
open PySem.W in
theorem sorted_coll {β : Type} {a : Addr} {es : Array (Int × Value)} {ep : Nat} {t : SetTable} {bs : List β} {enc : β → PyData} {R : Value → β → Prop} {Q : Value → Shared → Prop} (hh : A.handled = none) (ha : SetAt s.heap a es ep t) (hf : t.fits es.size = true) (hsz : es.size < scanBound) (r : Ris t.place.toList)
    (hl : w.params.followText "set-order" = true ∨ t.led = true) (e : EachIs R (es.toList.map (·.2)) bs) (er : EachIs (fun v b => ∃ as, Reads s.heap v (enc b) as ∧ ∀ c ∈ as, c < s.heap.objs.size) (es.toList.map (·.2)) bs)
    (hal : AllAlike (bs.map enc)) (hk : (∀ d ∈ bs.map enc, ∃ xs, d = .tuple xs) ∨ Sortable (bs.map enc)) (hu : ∀ b, b ∈ bs → A.units + 3 + (enc b).depth < cLine)
    (hQ : ∀ s' p (out : Array Value) (c : Nat) (bs' : List β), (∀ b o, s.heap.get? b = some o → s'.heap.get? b = some o) → s'.gens = s.gens → s'.os = s.os → s.heap.objs.size ≤ p → s'.heap.get? p = some (seqObj "list" out c) →
      EachIs R out.toList bs' → bs'.Perm bs → bs'.Pairwise (fun a b => dataLe false enc a b = true) → Q (.ref p) s') :
    wpAny (model P w) A (call (.builtin "sorted") [.ref a]) Q E s := by
  refine Calls.call_function_entry kind_sorted plain_sorted entry_sorted (args_sorted1 _) ?_
  unfold Builtin.«sorted»
  refine wpAny_bind (m := checkCount "sorted" 1 1 _) (wpAny_pure ?_)
  refine wpAny_bind (collect_set (A := A.in1) hh ha hf hsz r hl fun s1 vs k1 hz g1 o1 pm => ?_)
  obtain ⟨bs1, e1, p1⟩ := each_perm pm (each_and e er)
  have lb : bs.length = es.size := by rw [← e.length, List.length_map, Array.length_toList]
  have lv : vs.length = bs1.length := e1.length
  have l1 : bs1.length = bs.length := p1.length_eq
  have sl : scanBound = 4096 := rfl
  refine wpAny_bind (wpAny_newList ?_ (by rw [sizeLine_eq]; omega))
  have hoL : (s1.heap.push (seqObj "list" vs.toArray 0)).get? s1.heap.objs.size = some (seqObj "list" vs.toArray 0) := Heap.get?_push_size _ rfl
  have mem1 : ∀ d, d ∈ bs1.map enc ↔ d ∈ bs.map enc := fun d => (p1.map enc).mem_iff
  refine wpAny_bind (wpAny_holding (list_sorts (s := { s1 with heap := s1.heap.push (seqObj "list" vs.toArray 0) }) (enc := enc) (R := R) hoL (e1.mono fun _ _ z => z.1)
    (e1.mono fun v b z => ?_) (fun d hd d' hd' => hal d ((mem1 d).mp hd) d' ((mem1 d').mp hd')) ?_ (by rw [sizeLine_eq]; omega) (fun b hb => ?_) fun out ho eo => ?_))
  · obtain ⟨_, as, rd, lo⟩ := z
    refine ⟨as, PyProof.Rows.Reads.keeps (fun c o q => Heap.get?_push_of_some _ (k1 c o q)) rd, fun hm => ?_⟩
    exact absurd (Nat.lt_of_lt_of_le (lo _ hm) hz) (Nat.lt_irrefl _)
  · rcases hk with ht | hs
    · exact .inl fun d hd => ht d ((mem1 d).mp hd)
    · rcases hs with h1 | h2
      · exact .inr (.inl fun d hd => h1 d ((mem1 d).mp hd))
      · exact .inr (.inr fun d hd => h2 d ((mem1 d).mp hd))
  · have := hu b (p1.mem_iff.mp hb)
    simp only [Around.in1_units]
    omega
  · obtain ⟨c, hc⟩ := sortedHeap_at (vs := vs) (out := out.toArray) hoL
    have sf := sort_facts enc bs1
    refine wpAny_pure ⟨_, rfl, hQ _ s1.heap.objs.size out.toArray c (bs1.mergeSort (dataLe false enc)) (fun b u q => ?_) g1 o1 hz hc (by simpa using eo) (sf.1.trans p1) sf.2⟩
    have q1 := k1 b u q
    have hlt := Heap.lt_size q1
    show (sortedHeap (s1.heap.push (seqObj "list" vs.toArray 0)) s1.heap.objs.size vs out.toArray).get? b = some u
    rw [sortedHeap_old (Nat.ne_of_lt hlt) (by rw [size_push']; exact Nat.lt_succ_of_lt hlt)]
    exact Heap.get?_push_of_some _ q1
end
end Rw
namespace Rw
open PySem PySem.Spec PyProof.Rows L2 PySem.Froz
/-! ### data made of texts, whole numbers, None and tuples -/
mutual
def okD : PyData → Bool
  | .none => true
  | .int _ => true
  | .str _ => true
  | .tuple xs => okDs xs
  | .bool _ => false
  | .list _ => false
  | .dict _ => false
def okDs : List PyData → Bool
  | [] => true
  | x :: xs => okD x && okDs xs
end
mutual
def toK : PyData → NK
  | .none => .none
  | .int i => .num i
  | .str x => .text x
  | .tuple xs => .tup (toKs xs)
  | .bool _ => .none
  | .list _ => .none
  | .dict _ => .none
def toKs : List PyData → List NK
  | [] => []
  | x :: xs => toK x :: toKs xs
end
theorem okDs_cons {x : PyData} {xs : List PyData} (h : okDs (x :: xs) = true) : okD x = true ∧ okDs xs = true := by
  rw [okDs, Bool.and_eq_true] at h
  exact h
mutual
theorem toK_data : ∀ d : PyData, okD d = true → (toK d).data = d
  | .none, _ => by simp [toK, NestedKey.data]
  | .int _, _ => by simp [toK, NestedKey.data]
  | .str _, _ => by simp [toK, NestedKey.data]
  | .tuple xs, h => by
    rw [okD] at h
    rw [toK, NestedKey.data, toKs_data xs h]
  | .bool _, h => by simp [okD] at h
  | .list _, h => by simp [okD] at h
  | .dict _, h => by simp [okD] at h
theorem toKs_data : ∀ ds : List PyData, okDs ds = true → NestedKey.datas (toKs ds) = ds
  | [], _ => by simp [toKs, NestedKey.datas]
  | x :: xs, h => by
    obtain ⟨h1, h2⟩ := okDs_cons h
    rw [toKs, NestedKey.datas, toK_data x h1, toKs_data xs h2]
end
theorem toK_inj {d e : PyData} (hd : okD d = true) (he : okD e = true) (h : toK d = toK e) : d = e := by
  rw [← toK_data d hd, ← toK_data e he, h]
mutual
theorem toK_depth : ∀ d : PyData, (toK d).depth ≤ d.depth
  | .none => by simp [toK, NestedKey.depth]
  | .int _ => by simp [toK, NestedKey.depth]
  | .str _ => by simp [toK, NestedKey.depth]
  | .tuple xs => by
    have z := toKs_depth xs
    rw [toK, NestedKey.depth, PyData.depth]
    omega
  | .bool _ => by simp [toK, NestedKey.depth]
  | .list _ => by simp [toK, NestedKey.depth]
  | .dict _ => by simp [toK, NestedKey.depth]
theorem toKs_depth : ∀ ds : List PyData, NestedKey.depthAll (toKs ds) ≤ PyData.depthAll ds
  | [] => by simp [toKs, NestedKey.depthAll]
  | x :: xs => by
    have z1 := toK_depth x
    have z2 := toKs_depth xs
    rw [toKs, NestedKey.depthAll, PyData.depthAll]
    omega
end
mutual
theorem isK_of : ∀ (d : PyData) (h : Heap) (v : Value) (as : List Addr), okD d = true → Reads h v d as → NestedIs h (toK d) v ∧ as = []
  | .none, _, _, _, _, r => by
    cases r
    exact ⟨.none, rfl⟩
  | .int _, _, _, _, _, r => by
    cases r
    exact ⟨.int _ _, rfl⟩
  | .str _, _, _, _, _, r => by
    cases r
    exact ⟨.text _ _, rfl⟩
  | .tuple xs, h, _, _, ok, r => by
    rw [okD] at ok
    cases r with
    | tuple h1 h2 h3 h4 =>
      obtain ⟨k, e⟩ := isKs_of xs h _ _ ok h4
      exact ⟨.tup h1 h2 h3 k, e⟩
  | .bool _, _, _, _, ok, _ => by simp [okD] at ok
  | .list _, _, _, _, ok, _ => by simp [okD] at ok
  | .dict _, _, _, _, ok, _ => by simp [okD] at ok
theorem isKs_of : ∀ (ds : List PyData) (h : Heap) (vs : List Value) (as : List Addr), okDs ds = true → ReadsAll h vs ds as → NestedAll h (toKs ds) vs ∧ as = []
  | [], _, _, _, _, r => by
    cases r
    exact ⟨.nil, rfl⟩
  | x :: xs, h, _, _, ok, r => by
    obtain ⟨o1, o2⟩ := okDs_cons ok
    cases r with
    | cons r1 r2 =>
      obtain ⟨k1, e1⟩ := isK_of x h _ _ o1 r1
      obtain ⟨k2, e2⟩ := isKs_of xs h _ _ o2 r2
      exact ⟨.cons k1 k2, by rw [e1, e2]; rfl⟩
end
/-- a tuple of such, not too deep -/
structure Good (d : PyData) : Prop where
  ok : okD d = true
  dp : d.depth ≤ 8
  tu : ∃ xs, d = .tuple xs
/-! ### what stays while tuples stay -/
def Stay (H H' : Hp) : Prop := ∀ b xs, Rd H b (.tup xs) → Rd H' b (.tup xs)
theorem Stay.refl (H : Hp) : Stay H H := fun _ _ h => h
theorem Stay.trans {H H1 H2 : Hp} (a : Stay H H1) (b : Stay H1 H2) : Stay H H2 := fun c xs h => b c xs (a c xs h)
theorem Stay.same {H H' : Hp} (h : Same H H') : Stay H H' := fun b xs r => by
  rcases r with r | ⟨o, r⟩
  · exact .inl (h _ _ r)
  · exact .inr ⟨o, h _ _ r⟩
theorem same_new {H : Hp} {p : Addr} (h : H p = none) (o : HO) : Same H (upd H p o) := fun b u q => by
  rw [upd_ne (ne_of_none q h)]
  exact q
theorem Stay.new {H : Hp} {p : Addr} (h : H p = none) (o : HO) : Stay H (upd H p o) := .same (same_new h o)
theorem Stay.put {H : Hp} {p : Addr} (h : Mut (H p)) (o : HO) : Stay H (upd H p o) := fun b xs r => by
  have ne : b ≠ p := fun z => by
    subst z
    rcases r with r | ⟨u, r⟩
    · rw [r] at h; exact h
    · rw [r] at h; exact h
  unfold Rd
  rw [upd_ne ne]
  exact r
theorem Stay.seq {K : PySem.W.Frag} {H H' : Hp} {a : Addr} {xs : List V} (e : Stay H H') (h : SqT K H a xs) : SqT K H' a xs := by
  rcases h with h | h
  · exact .inl (e _ _ h)
  · exact .inr h
theorem same_tup {K : PySem.W.Frag} {H H' : Hp} {a : Addr} {xs : List V} (e : Same H H') (h : SqT K H a xs) : SqT K H' a xs := (Stay.same e).seq h
section
variable {K : PySem.W.Frag} {H H' : Hp}
mutual
theorem Stay.dp (e : Stay H H') : ∀ (d : PyData) (x : V), okD d = true → Dp K H x d → Dp K H' x d
  | .none, _, _, h => by cases h; exact .non
  | .int _, _, _, h => by cases h; exact .int _
  | .str _, _, _, h => by cases h; exact .str _
  | .tuple ds, _, ok, h => by
    rw [okD] at ok
    cases h with
    | tup h1 h2 => exact .tup (e.seq h1) (Stay.dpAll e ds _ ok h2)
  | .bool _, _, ok, _ => by simp [okD] at ok
  | .list _, _, ok, _ => by simp [okD] at ok
  | .dict _, _, ok, _ => by simp [okD] at ok
theorem Stay.dpAll (e : Stay H H') : ∀ (ds : List PyData) (xs : List V), okDs ds = true → DpAll K H xs ds → DpAll K H' xs ds
  | [], _, _, h => by cases h; exact .nil
  | d :: ds, _, ok, h => by
    obtain ⟨o1, o2⟩ := okDs_cons ok
    cases h with
    | cons h1 h2 => exact .cons (Stay.dp e d _ o1 h1) (Stay.dpAll e ds _ o2 h2)
end
theorem okDs_all {ds : List PyData} (h : ∀ d ∈ ds, okD d = true) : okDs ds = true := by
  induction ds with
  | nil => rfl
  | cons d ds ih =>
    rw [okDs, h d List.mem_cons_self, ih fun e he => h e (List.mem_cons_of_mem _ he)]
    rfl
theorem dpAll_len : ∀ {xs : List V} {ds : List PyData}, DpAll K H xs ds → xs.length = ds.length
  | _, _, .nil => rfl
  | _, _, .cons _ t => by rw [List.length_cons, List.length_cons, dpAll_len t]
theorem dpAll_at : ∀ {xs : List V} {ds : List PyData} {i : Nat} {d : PyData}, DpAll K H xs ds → ds[i]? = some d → ∃ x, xs[i]? = some x ∧ Dp K H x d
  | _, _, _, _, .nil, e => by simp at e
  | _, _, 0, _, .cons h _, e => by
    simp at e
    subst e
    exact ⟨_, rfl, h⟩
  | _, _, i + 1, _, .cons _ t, e => by
    obtain ⟨x, h1, h2⟩ := dpAll_at (i := i) t (by simpa using e)
    exact ⟨x, by simpa using h1, h2⟩
theorem dpAll_at' : ∀ {xs : List V} {ds : List PyData} {i : Nat} {x : V}, DpAll K H xs ds → xs[i]? = some x → ∃ d, ds[i]? = some d ∧ Dp K H x d
  | _, _, _, _, .nil, e => by simp at e
  | _, _, 0, _, .cons h _, e => by
    simp at e
    subst e
    exact ⟨_, rfl, h⟩
  | _, _, i + 1, _, .cons _ t, e => by
    obtain ⟨x, h1, h2⟩ := dpAll_at' (i := i) t (by simpa using e)
    exact ⟨x, by simpa using h1, h2⟩
theorem dpAll_app : ∀ {xs ys : List V} {ds es : List PyData}, DpAll K H xs ds → DpAll K H ys es → DpAll K H (xs ++ ys) (ds ++ es)
  | _, _, _, _, .nil, h => h
  | _, _, _, _, .cons a t, h => .cons a (dpAll_app t h)
theorem Good.ref {x : V} {d : PyData} (g : Good d) (h : Dp K H x d) : ∃ a, x = .ref a := by
  obtain ⟨xs, rfl⟩ := g.tu
  cases h with
  | tup _ _ => exact ⟨_, rfl⟩
end
/-! ### the rules over the abstract heap -/
def tk (L : List (Addr × PyData)) : List (Addr × NK) := L.map fun p => (p.1, toK p.2)
/-- the set of tuples at a, without the tuples -/
def TSetO (w : World) (a : Addr) (L : List (Addr × PyData)) : HO := .ext fun h => ∃ (es : Array (Int × Value)) (ep : Nat) (t : SetTable), (∃ o, h.get? a = some o ∧ o.ExactSet ∧ o.data = .set es ep t) ∧ es.toList = ents w (tk L) ∧ TabOk t (hashes w (tk L)) ∧ ((tk L).map (·.2)).Nodup ∧
  (w.params.followText "set-order" = true ∨ t.led = true) ∧ (tk L).length * 5 < t.mask * 3 ∧ (tk L).length < 76
def XSetO (P : Program) (w : World) (a : Addr) (ms : List Str) : HO := .ext fun h => ∃ (es : Array (Int × Value)) (ep : Nat) (t : SetTable), XSet P w h a ms es ep t
section
variable {X : Cx} {pins : List (Addr × Obj)} {σ : L2.St} {H : Hp} {s : Shared}
theorem key_at (I : Inv X pins σ H s) {a : Addr} {d : PyData} (h : Dp X.K H (.ref a) d) (g : Good d) : TupK s.heap (toK d) a := by
  obtain ⟨as, r⟩ := Dp.reads I d (.ref a) (.ref a) h rfl
  exact ⟨(isK_of d s.heap _ as g.ok r).1, Nat.le_trans (toK_depth d) g.dp⟩
theorem refs_of (g : ∀ d ∈ ds, Good d) {K : PySem.W.Frag} {H : Hp} : ∀ {xs : List V}, DpAll K H xs ds → ∃ L : List (Addr × PyData), xs = L.map (fun p => V.ref p.1) ∧ ds = L.map (·.2) ∧ ∀ p ∈ L, Dp K H (.ref p.1) p.2 := by
  induction ds with
  | nil =>
    intro xs h
    cases h
    exact ⟨[], rfl, rfl, fun p hp => nomatch hp⟩
  | cons d ds ih =>
    intro xs h
    cases h with
    | cons h1 h2 =>
      obtain ⟨L, e1, e2, e3⟩ := ih (fun e he => g e (List.mem_cons_of_mem _ he)) h2
      obtain ⟨a, rfl⟩ := (g d List.mem_cons_self).ref h1
      refine ⟨(a, d) :: L, by rw [e1]; rfl, by rw [e2]; rfl, fun p hp => ?_⟩
      rcases List.mem_cons.mp hp with e | hp
      · rw [e]
        exact h1
      · exact e3 p hp
theorem vals_refs : ∀ {L : List (Addr × PyData)} {us : List Value}, Vals (L.map fun p => V.ref p.1) us → us = (tk L).map fun p => Value.ref p.1
  | [], _, .nil => rfl
  | p :: L, _, .cons r t => by
    cases r
    rw [vals_refs t]
    rfl
/-- set(xs), xs a list or a tuple of tuples -/
def rSetT (K : PySem.W.Frag) (w : World) : List V → Hp → VK → Prop := fun vs H Q => ∃ (l : Addr) (xs : List V) (ds : List PyData), vs = [V.ref l] ∧ (SqL K H l xs ∨ SqT K H l xs) ∧ DpAll K H xs ds ∧ (∀ d ∈ ds, Good d) ∧ ds.length < 76 ∧
  ∀ a L, H a = none → (∀ p ∈ L, p.2 ∈ ds ∧ Dp K H (.ref p.1) p.2) → (∀ d ∈ ds, d ∈ L.map (·.2)) → Q (.ref a) (upd H a (TSetO w a L))
theorem cr_setT (hc : X.calm = true) (hu : X.A.units + 64 < cLine) : CallR X (.type "set") (rSetT X.K X.w) := by
  intro pins s σ H vs us Q I r h
  obtain ⟨l, xs, ds, rfl, hl, hd, hg, hf, q⟩ := h
  obtain ⟨L0, rfl, rfl, hL0⟩ := refs_of hg hd
  rw [Vals.ref1 r]
  have hn : H s.heap.objs.size = none := I.hok.fresh (Nat.le_refl _)
  have hk0 : ∀ p ∈ tk L0, TupK s.heap p.2 p.1 := fun p hp => by
    obtain ⟨z, hz, rfl⟩ := List.mem_map.mp hp
    exact key_at I (hL0 z hz) (hg z.2 (List.mem_map.mpr ⟨z, hz, rfl⟩))
  have few : (tk L0).length < 76 := by
    unfold tk
    rw [List.length_map]
    rw [List.length_map] at hf
    exact hf
  have T := fill_tups (P := X.prog) (w := X.w) s.heap.objs.size s.heap (tk L0) hk0 few
  have fin : ∀ (n : Nat), n = (tk L0).length → ∀ (h' : Heap) (tk' : Nat), (∃ L es ep t, TSet X.prog X.w h' s.heap.objs.size L es ep t ∧ GotN (tk L0) n L) → (∀ b o, s.heap.get? b = some o → h'.get? b = some o) → EP X pins σ Q (.ref s.heap.objs.size) { s with heap := h', toks := tk' } := by
    intro n en h' tk' ⟨L, es, ep, t, R, g⟩ k
    subst en
    have back : ∀ M : List (Addr × NK), (∀ p ∈ M, p ∈ tk L0) → ∃ M0 : List (Addr × PyData), M = tk M0 ∧ ∀ p ∈ M0, p ∈ L0 := by
      intro M
      induction M with
      | nil => exact fun _ => ⟨[], rfl, fun p hp => nomatch hp⟩
      | cons m M ih =>
        intro hm
        obtain ⟨M0, e, h0⟩ := ih fun p hp => hm p (List.mem_cons_of_mem _ hp)
        obtain ⟨z, hz, ez⟩ := List.mem_map.mp (hm m List.mem_cons_self)
        refine ⟨z :: M0, by rw [e, ← ez]; rfl, fun p hp => ?_⟩
        rcases List.mem_cons.mp hp with e' | hp
        · rw [e']
          exact hz
        · exact h0 p hp
    obtain ⟨M, rfl, hM⟩ := back L fun p hp => List.mem_of_mem_take (g.sub p hp)
    have new : ObjOk X.prog X.w (upd H s.heap.objs.size (TSetO X.w s.heap.objs.size M)) h' s.heap.objs.size (TSetO X.w s.heap.objs.size M) := by
      obtain ⟨o, ho, ho2⟩ := R.ob
      refine ⟨⟨es, ep, t, ⟨o, ho, ho2⟩, R.en, R.tab, R.nd, R.led, R.room, R.few⟩, ⟨o, ho⟩, fun h1 h2 ⟨es', ep', t', ⟨o', e1, e2⟩, z⟩ kk => ⟨es', ep', t', ⟨o', kk o' e1, e2⟩, z⟩⟩
    refine ⟨.ref s.heap.objs.size, upd H s.heap.objs.size (TSetO X.w s.heap.objs.size M), I.laid (t' := tk') k (Nat.le_refl _) new, rfl, q _ M hn (fun p hp => ⟨List.mem_map.mpr ⟨p, hM p hp, rfl⟩, hL0 p (hM p hp)⟩) fun d hd => ?_⟩
    obtain ⟨z, hz, rfl⟩ := List.mem_map.mp hd
    have := g.all (z.1, toK z.2) (by rw [List.take_length]; exact List.mem_map.mpr ⟨z, hz, rfl⟩)
    obtain ⟨y, hy, ey⟩ := List.mem_map.mp this
    obtain ⟨y0, hy0, e0⟩ := List.mem_map.mp hy
    have e3 : toK y0.2 = toK z.2 := by
      have e := ey
      rw [← e0] at e
      exact e
    have e4 : y0.2 = z.2 := toK_inj (hg _ (List.mem_map.mpr ⟨y0, hM y0 hy0, rfl⟩)).ok (hg _ (List.mem_map.mpr ⟨z, hz, rfl⟩)).ok e3
    exact List.mem_map.mpr ⟨y0, hy0, e4⟩
  have vlen : ∀ {its : List Value}, its = (tk L0).map (fun p => Value.ref p.1) → its.toArray.size = (tk L0).length := fun e => by
    rw [e, List.size_toArray, List.length_map]
  rcases hl with hl | hl
  · obtain ⟨its, rv, pl, hz⟩ := I.list hl
    have ev := vals_refs rv
    exact call_fill_list (I.ok.hd hc) pl.isList (by rw [show its.toArray.toList = its by simp, ev]; exact T) (by omega) fun h' tk' G k => fin _ (vlen ev) h' tk' G k
  · obtain ⟨its, rv, pl, hz⟩ := I.tuple hl
    have ev := vals_refs rv
    obtain ⟨o, e1, e2, n, e3⟩ := pl
    exact call_fill_tuple (I.ok.hd hc) ⟨o, e1, e2, n, e3⟩ (by rw [show its.toArray.toList = its by simp, ev]; exact T) (by omega) fun h' tk' G k => fin _ (vlen ev) h' tk' G k
theorem tset_get (I : Inv X pins σ H s) {a : Addr} {L : List (Addr × PyData)} (ha : H a = some (TSetO X.w a L)) (hL : ∀ p ∈ L, Good p.2 ∧ Dp X.K H (.ref p.1) p.2) : ∃ es ep t, TSet X.prog X.w s.heap a (tk L) es ep t := by
  obtain ⟨es, ep, t, h1, h2, h3, h4, h5, h6, h7⟩ := (I.hok a _ ha).1
  refine ⟨es, ep, t, h1, h2, h3, h4, fun p hp => ?_, h5, h6, h7⟩
  obtain ⟨z, hz, rfl⟩ := List.mem_map.mp hp
  exact key_at I (hL z hz).2 (hL z hz).1
open PySem.W in
/-- values that stand for data, as values of the layer -/
theorem each_vals {K : PySem.W.Frag} {H : Hp} : ∀ {us : List Value} {ds : List PyData}, EachIs (fun u d => ∃ x, RelV x u ∧ Dp K H x d) us ds → ∃ ys, Vals ys us ∧ DpAll K H ys ds
  | _, _, .nil => ⟨[], .nil, .nil⟩
  | _, _, .cons ⟨x, r, h⟩ t => by
    obtain ⟨ys, v, h'⟩ := each_vals t
    exact ⟨x :: ys, .cons r v, .cons h h'⟩
open PySem.W in
theorem each_map' {α γ δ : Type} {R : γ → δ → Prop} (f : α → γ) (g : α → δ) : ∀ {l : List α}, (∀ a ∈ l, R (f a) (g a)) → EachIs R (l.map f) (l.map g)
  | [], _ => .nil
  | a :: l, h => .cons (h a List.mem_cons_self) (each_map' f g fun b hb => h b (List.mem_cons_of_mem _ hb))
/-- in rising order, as Python's < says -/
abbrev Rising (ds : List PyData) : Prop := ds.Pairwise fun a b => PySem.W.dataLe false id a b = true
/-- sorted(a set of tuples) -/
def rSortT (K : PySem.W.Frag) (w : World) : List V → Hp → VK → Prop := fun vs H Q => ∃ (a : Addr) (L : List (Addr × PyData)), vs = [V.ref a] ∧ H a = some (TSetO w a L) ∧ (∀ p ∈ L, Good p.2 ∧ Dp K H (.ref p.1) p.2) ∧ PySem.W.AllAlike (L.map (·.2)) ∧
  ∀ (ys : List V) (ds : List PyData) (p : Addr), ds.Perm (L.map (·.2)) → ds.Nodup → ds.length < 76 → Rising ds → DpAll K H ys ds → H p = none → Q (.ref p) (upd H p (.lst ys))
theorem cr_sortT (hc : X.calm = true) (hu : X.A.units + 64 < cLine) : CallR X (.builtin "sorted") (rSortT X.K X.w) := by
  intro pins s σ H vs us Q I r h
  obtain ⟨a, L, rfl, ha, hL, hal, q⟩ := h
  obtain ⟨es, ep, t, R⟩ := tset_get I ha hL
  rw [Vals.ref1 r]
  obtain ⟨o, ho, hex, hd⟩ := R.ob
  have hvals : es.toList.map (·.2) = L.map fun p => Value.ref p.1 := by
    rw [R.en]
    unfold ents tk
    rw [List.map_map, List.map_map]
    rfl
  have few : L.length < 76 := by
    have := R.few
    unfold tk at this
    rw [List.length_map] at this
    exact this
  have e1 : PySem.W.EachIs (fun u d => ∃ x, RelV x u ∧ Dp X.K H x d) (es.toList.map (·.2)) (L.map (·.2)) := by
    rw [hvals]
    exact each_map' _ _ fun p hp => ⟨.ref p.1, rfl, (hL p hp).2⟩
  have e2 : PySem.W.EachIs (fun v d => ∃ as, Reads s.heap v (id d) as ∧ ∀ c ∈ as, c < s.heap.objs.size) (es.toList.map (·.2)) (L.map (·.2)) := by
    rw [hvals]
    refine each_map' _ _ fun p hp => ?_
    obtain ⟨as, rd⟩ := Dp.reads I p.2 (.ref p.1) (.ref p.1) (hL p hp).2 rfl
    refine ⟨as, rd, ?_⟩
    rw [(isK_of p.2 s.heap _ as (hL p hp).1.ok rd).2]
    exact fun c hc => nomatch hc
  have hm : ∀ d ∈ (L.map (·.2)).map id, Good d := fun d hd => by
    rw [List.map_id] at hd
    obtain ⟨p, hp, rfl⟩ := List.mem_map.mp hd
    exact (hL p hp).1
  refine sorted_coll (enc := id) (I.ok.hd hc) ⟨o, ho, hex.1, hd⟩ R.fits (by have := size_of_ents R.en; unfold tk at this; rw [List.length_map] at this; unfold scanBound; omega) R.tab.ris R.led e1 e2 (by rw [List.map_id]; exact hal) (.inl fun d hd => (hm d hd).tu) (fun d hd => ?_) fun s' p out c ds k g os hp hg ho' pm sr => ?_
  · have z := (hm d (by rw [List.map_id]; exact hd)).dp
    show X.A.units + 3 + d.depth < cLine
    omega
  · obtain ⟨ys, hv, hd'⟩ := each_vals ho'
    have hn : H p = none := I.hok.fresh hp
    have hl : ds.length = L.length := by rw [pm.length_eq, List.length_map]
    have hlen : ys.length ≤ sizeLine := by
      rw [dpAll_len hd', sizeLine_eq]
      omega
    have nd : ds.Nodup := by
      refine pm.nodup_iff.mpr ?_
      have z := R.nd
      unfold tk at z
      rw [List.map_map] at z
      have z' : (L.map fun p => toK p.2).Nodup := z
      have y : ((L.map (·.2)).map toK).Nodup := by
        rw [List.map_map]
        exact z'
      exact nodup_of_map y
    have J : Inv X pins σ (upd H p (.lst ys)) { s with heap := s'.heap, gens := s'.gens, drawn := s'.drawn, toks := s'.toks } :=
      I.call (ch := []) (Un.laid k hp hn) (I.hok.laid k hp ⟨hlen, out.toList, c, hv, hg⟩) (by rw [g]; exact I.bare) (fun _ z => nomatch z)
    have e : s' = { s with heap := s'.heap, gens := s'.gens, drawn := s'.drawn, toks := s'.toks } := by
      cases s'
      cases s
      cases os
      rfl
    rw [e]
    exact ⟨.ref p, _, J, rfl, q ys ds p pm nd (by omega) sr hd' hn⟩
/-- set(xs), xs a list or a tuple of texts -/
def rSetX (K : PySem.W.Frag) (P : Program) (w : World) : List V → Hp → VK → Prop := fun vs H Q => ∃ (l : Addr) (zs : List Str), vs = [V.ref l] ∧ (SqL K H l (zs.map V.str) ∨ SqT K H l (zs.map V.str)) ∧ zs.length < 1000 ∧
  ∀ a ms, H a = none → ms.Nodup → (∀ z, z ∈ ms ↔ z ∈ zs) → ms.length ≤ zs.length → Q (.ref a) (upd H a (XSetO P w a ms))
theorem vals_texts : ∀ {zs : List Str} {us : List Value}, Vals (zs.map V.str) us → PySem.W.EachIs (fun v z => ∃ u, v = Value.str z u) us zs
  | [], _, .nil => .nil
  | _ :: _, _, .cons r t => .cons r (vals_texts t)
theorem texts_vals {zs : List Str} {us : List Value} (h : PySem.W.EachIs (fun v z => ∃ u, v = Value.str z u) us zs) : Vals (zs.map V.str) us := by
  induction h with
  | nil => exact .nil
  | cons h _ ih => exact .cons h ih
theorem cr_setX (hc : X.calm = true) (hu : X.A.units + 64 < cLine) : CallR X (.type "set") (rSetX X.K X.prog X.w) := by
  intro pins s σ H vs us Q I r h
  obtain ⟨l, zs, rfl, hl, few, q⟩ := h
  rw [Vals.ref1 r]
  have hn : H s.heap.objs.size = none := I.hok.fresh (Nat.le_refl _)
  have fin : ∀ (n : Nat), n = zs.length → ∀ (h' : Heap) (tk' : Nat), (∃ ms es ep t, XSet X.prog X.w h' s.heap.objs.size ms es ep t ∧ (∀ z, z ∈ ms ↔ z ∈ zs.take n) ∧ ms.length ≤ n) → (∀ b o, s.heap.get? b = some o → h'.get? b = some o) → EP X pins σ Q (.ref s.heap.objs.size) { s with heap := h', toks := tk' } := by
    intro n en h' tk' ⟨ms, es, ep, t, R, g, hl⟩ k
    subst en
    have new : ObjOk X.prog X.w (upd H s.heap.objs.size (XSetO X.prog X.w s.heap.objs.size ms)) h' s.heap.objs.size (XSetO X.prog X.w s.heap.objs.size ms) :=
      ⟨⟨es, ep, t, R⟩, ⟨_, R.ob⟩, fun h1 h2 ⟨es', ep', t', R'⟩ kk => ⟨es', ep', t', R'.moved kk⟩⟩
    exact ⟨.ref s.heap.objs.size, _, I.laid (t' := tk') k (Nat.le_refl _) new, rfl, q _ ms hn R.nd (fun z => by rw [g z, List.take_length]) hl⟩
  have sb : scanBound = 4096 := rfl
  rcases hl with hl | hl
  · obtain ⟨its, rv, pl, hz⟩ := I.list hl
    have ev := vals_texts rv
    have T := fill_texts (P := X.prog) (w := X.w) s.heap.objs.size s.heap zs ev (by omega)
    exact call_fill_list (I.ok.hd hc) pl.isList (by rw [show its.toArray.toList = its by simp]; exact T) (by omega) fun h' tk' G k => fin its.toArray.size (by rw [List.size_toArray]; exact ev.length) h' tk' G k
  · obtain ⟨its, rv, pl, hz⟩ := I.tuple hl
    have ev := vals_texts rv
    have T := fill_texts (P := X.prog) (w := X.w) s.heap.objs.size s.heap zs ev (by omega)
    obtain ⟨o, e1, e2, n, e3⟩ := pl
    exact call_fill_tuple (I.ok.hd hc) ⟨o, e1, e2, n, e3⟩ (by rw [show its.toArray.toList = its by simp]; exact T) (by omega) fun h' tk' G k => fin its.toArray.size (by rw [List.size_toArray]; exact ev.length) h' tk' G k
abbrev RisingX (zs : List Str) : Prop := zs.Pairwise fun a b => decide (a.cps.toList ≤ b.cps.toList) = true
open PySem.W in
theorem each_iff {es : List (Int × Value)} : ∀ {ms : List Str}, (∀ e ∈ es, ∃ k u, e.2 = Value.str k u) → ∃ zs, EachIs (fun v z => ∃ u, v = Value.str z u) (es.map (·.2)) zs := by
  induction es with
  | nil => exact fun _ => ⟨[], .nil⟩
  | cons e es ih =>
    intro ms h
    obtain ⟨k, u, ek⟩ := h e List.mem_cons_self
    obtain ⟨zs, hz⟩ := ih (ms := ms) fun e' he => h e' (List.mem_cons_of_mem _ he)
    exact ⟨k :: zs, .cons ⟨u, ek⟩ hz⟩
/-- sorted(a set of texts) -/
def rSortX (P : Program) (w : World) : List V → Hp → VK → Prop := fun vs H Q => ∃ (a : Addr) (ms : List Str), vs = [V.ref a] ∧ H a = some (XSetO P w a ms) ∧ ms.length < 1000 ∧
  ∀ (zs : List Str) (p : Addr), (∀ z, z ∈ zs ↔ z ∈ ms) → zs.Nodup → zs.length ≤ ms.length → RisingX zs → H p = none → Q (.ref p) (upd H p (.lst (zs.map V.str)))
theorem nodup_len_le : ∀ {l m : List Str}, l.Nodup → (∀ z ∈ l, z ∈ m) → l.length ≤ m.length
  | [], _, _, _ => Nat.zero_le _
  | x :: l, m, hn, hs => by
    obtain ⟨h1, h2⟩ := List.nodup_cons.mp hn
    have hx : x ∈ m := hs x List.mem_cons_self
    have ih := nodup_len_le (l := l) (m := m.erase x) h2 fun y hy => (List.mem_erase_of_ne (show y ≠ x from fun e => h1 (by rw [← e]; exact hy))).2 (hs y (List.mem_cons_of_mem _ hy))
    rw [List.length_erase_of_mem hx] at ih
    have := List.length_pos_of_mem hx
    rw [List.length_cons]
    omega
theorem nodup_of_len : ∀ {l m : List Str}, m.Nodup → (∀ z ∈ m, z ∈ l) → l.length ≤ m.length → l.Nodup
  | [], _, _, _, _ => List.nodup_nil
  | x :: l, m, hm, hs, hl => by
    have hxl : x ∉ l := fun hx => by
      have z := nodup_len_le (l := m) (m := l) hm fun z hz => (List.mem_cons.mp (hs z hz)).elim (fun e => by rw [e]; exact hx) id
      rw [List.length_cons] at hl
      omega
    refine List.nodup_cons.mpr ⟨hxl, nodup_of_len (m := m.erase x) (hm.erase x) (fun z hz => ?_) ?_⟩
    · have hz' := List.mem_of_mem_erase hz
      rcases List.mem_cons.mp (hs z hz') with e | h
      · rw [e] at hz
        exact absurd hz (List.Nodup.not_mem_erase hm)
      · exact h
    · by_cases hx : x ∈ m
      · rw [List.length_erase_of_mem hx]
        rw [List.length_cons] at hl
        omega
      · rw [List.erase_of_not_mem hx]
        rw [List.length_cons] at hl
        omega
theorem cr_sortX (hc : X.calm = true) (hu : X.A.units + 64 < cLine) : CallR X (.builtin "sorted") (rSortX X.prog X.w) := by
  intro pins s σ H vs us Q I r h
  obtain ⟨a, ms, rfl, ha, hlt, q⟩ := h
  obtain ⟨es, ep, t, R⟩ := (I.hok a _ ha).1
  rw [Vals.ref1 r]
  have hel := R.ok.el
  have hsz : es.size = ms.length := R.ok.sz
  obtain ⟨zs, hz⟩ := each_iff (es := es.toList) (ms := ms) fun e he => by
    obtain ⟨⟨k, hk, _⟩, _⟩ := hel e he
    obtain ⟨u, hu⟩ := Value.isStrOf_shape (x := k) (v := e.2) hk
    exact ⟨k, u, hu⟩
  have e1 : PySem.W.EachIs (fun u z => RelV (.str z) u) (es.toList.map (·.2)) zs := hz
  have e2 : PySem.W.EachIs (fun v z => ∃ as, Reads s.heap v (PyData.str z) as ∧ ∀ c ∈ as, c < s.heap.objs.size) (es.toList.map (·.2)) zs := hz.mono fun v z ⟨u, e⟩ => ⟨[], by rw [e]; exact .str z u, fun c hc => nomatch hc⟩
  have mem : ∀ z, z ∈ zs ↔ z ∈ ms := fun z => by
    rw [R.ok.mem z]
    constructor
    · intro hm
      obtain ⟨i, hi, ei⟩ := List.getElem_of_mem hm
      have hi2 : i < (es.toList.map (·.2)).length := by rw [hz.length]; exact hi
      have pz : ((es.toList.map (·.2))[i], zs[i]) ∈ (es.toList.map (·.2)).zip zs := List.mem_of_getElem? (i := i) (by rw [List.getElem?_zip_eq_some]; exact ⟨List.getElem?_eq_getElem hi2, List.getElem?_eq_getElem hi⟩)
      obtain ⟨u, hu⟩ := hz.zip _ pz
      have hin := List.getElem_mem hi2
      rw [show (es.toList.map (·.2))[i] = Value.str zs[i] u from hu, ei] at hin
      obtain ⟨e, he, ee⟩ := List.mem_map.mp hin
      exact ⟨e, he, by rw [ee]; exact is_str z u⟩
    · rintro ⟨e, he, hk⟩
      obtain ⟨z', hz', u, hu⟩ := hz.left e.2 (List.mem_map.mpr ⟨e, he, rfl⟩)
      rw [hu] at hk
      have : z = z' := (strKind X.prog X.w).inj (.str z' u) z z' hk (is_str z' u)
      rw [this]
      exact hz'
  have zl : zs.length = ms.length := by rw [← hz.length, List.length_map, Array.length_toList, hsz]
  refine sorted_coll (enc := fun z : Str => PyData.str z) (I.ok.hd hc) ⟨_, R.ob, rfl, rfl⟩ R.ok.fit (by show es.size < scanBound; unfold scanBound; omega) R.ris R.led e1 e2 (PySem.W.AllAlike.of fun b b' => by simp [PySem.W.alike]) (.inr (PySem.W.Sortable.others fun b => ⟨(fun z => nomatch z), (fun xs z => nomatch z)⟩)) (fun d hd => ?_) fun s' p out c zs' k g os hp hg ho' pm sr => ?_
  · show X.A.units + 3 + (PyData.str d).depth < cLine
    simp only [PyData.depth]
    omega
  · have hn : H p = none := I.hok.fresh hp
    have hv : Vals (zs'.map V.str) out.toList := texts_vals ho'
    have hl : zs'.length = ms.length := by rw [pm.length_eq, zl]
    have hlen : (zs'.map V.str).length ≤ sizeLine := by
      rw [List.length_map, sizeLine_eq]
      omega
    have J : Inv X pins σ (upd H p (.lst (zs'.map V.str))) { s with heap := s'.heap, gens := s'.gens, drawn := s'.drawn, toks := s'.toks } :=
      I.call (ch := []) (Un.laid k hp hn) (I.hok.laid k hp ⟨hlen, out.toList, c, hv, hg⟩) (by rw [g]; exact I.bare) (fun _ z => nomatch z)
    have e : s' = { s with heap := s'.heap, gens := s'.gens, drawn := s'.drawn, toks := s'.toks } := by
      cases s'
      cases s
      cases os
      rfl
    rw [e]
    rw [PySem.W.dataLe_str fun z : Str => z] at sr
    have mem' : ∀ z, z ∈ zs' ↔ z ∈ ms := fun z => by rw [pm.mem_iff]; exact mem z
    exact ⟨.ref p, _, J, rfl, q zs' p mem' (nodup_of_len R.nd (fun z hz => (mem' z).mpr hz) (Nat.le_of_eq hl)) (Nat.le_of_eq hl) sr hn⟩
/-- sorted(a list of tuples) -/
def rSortL (K : PySem.W.Frag) : List V → Hp → VK → Prop := fun vs H Q => ∃ (a : Addr) (xs : List V) (ds : List PyData), vs = [V.ref a] ∧ SqL K H a xs ∧ DpAll K H xs ds ∧ (∀ d ∈ ds, Good d) ∧ PySem.W.AllAlike ds ∧
  ∀ (ys : List V) (es : List PyData) (p : Addr), es.Perm ds → Rising es → DpAll K H ys es → H p = none → Q (.ref p) (upd H p (.lst ys))
theorem cr_sortL (hu : X.A.units + 64 < cLine) : CallR X (.builtin "sorted") (rSortL X.K) := by
  intro pins s σ H vs us Q I r h
  obtain ⟨a, xs, ds, rfl, ha, hd, hg, hal, q⟩ := h
  rw [Vals.ref1 r]
  obtain ⟨its, rv, pl, hz⟩ := I.list ha
  have both : ∀ {xs : List V} {ds : List PyData} {its : List Value}, Vals xs its → DpAll X.K H xs ds → (∀ d ∈ ds, Good d) → PySem.W.EachIs (fun u d => (∃ x, RelV x u ∧ Dp X.K H x d) ∧ ∃ as, Reads s.heap u (id d) as) its ds := by
    intro xs ds its rv
    induction rv generalizing ds with
    | nil =>
      intro hd _
      cases hd
      exact .nil
    | cons r _ ih =>
      intro hd hg
      cases hd with
      | cons h1 h2 => exact .cons ⟨⟨_, r, h1⟩, Dp.reads I _ _ _ h1 r⟩ (ih h2 fun d hd => hg d (List.mem_cons_of_mem _ hd))
  have e0 := both rv hd hg
  have il : its.length = ds.length := e0.length
  have sl := sizeLine_eq
  have xl := rv.length
  have er' : PySem.W.EachIs (fun v d => ∃ as, Reads (PySem.W.sortingHeap (PySem.W.copyHeap s.heap its) (s.heap.objs.size + 1) its) v (id d) as) its ds := e0.mono fun _ _ z => by
    obtain ⟨_, as, rd⟩ := z
    exact ⟨as, PyProof.Rows.Reads.keeps (fun _ _ => PySem.W.sorting_copy_old) rd⟩
  have can : PySem.W.SortsAt X.prog X.w X.A.in1.in1 { s with heap := PySem.W.sortingHeap (PySem.W.copyHeap s.heap its) (s.heap.objs.size + 1) its } (PySem.W.dataKind (PySem.W.sortingHeap (PySem.W.copyHeap s.heap its) (s.heap.objs.size + 1) its) ds) its :=
    SortsAt.tups (s := { s with heap := PySem.W.sortingHeap (PySem.W.copyHeap s.heap its) (s.heap.objs.size + 1) its }) er' hal (fun d hd => (hg d hd).tu) fun d hd => by
      have z := (hg d hd).dp
      simp only [Around.in1_units]
      omega
  refine PySem.W.sorted_vals pl.isList can (by omega) ?_
  have eo : PySem.W.EachIs (fun u d => ∃ x, RelV x u ∧ Dp X.K H x d) (PySem.W.sortVals (PySem.W.dataKind (PySem.W.sortingHeap (PySem.W.copyHeap s.heap its) (s.heap.objs.size + 1) its) ds) false its its) (ds.mergeSort (PySem.W.dataLe false id)) := by
    have z := PySem.W.sortVals_data (h' := PySem.W.sortingHeap (PySem.W.copyHeap s.heap its) (s.heap.objs.size + 1) its) (enc := id) false (e0.mono fun _ _ z => z.1) er' (by rw [List.map_id]; exact hal)
    rw [List.map_id] at z
    exact z
  obtain ⟨ys, hv, hd'⟩ := each_vals eo
  have sf := sort_facts id ds
  generalize hout : PySem.W.sortVals (PySem.W.dataKind (PySem.W.sortingHeap (PySem.W.copyHeap s.heap its) (s.heap.objs.size + 1) its) ds) false its its = out at eo hv
  have hn : H (s.heap.objs.size + 1) = none := I.hok.fresh (Nat.le_succ _)
  obtain ⟨c, hcc⟩ := sortedAll_at s.heap its out.toArray
  have hlen : ys.length ≤ sizeLine := by
    rw [dpAll_len hd', sf.1.length_eq]
    omega
  exact ⟨.ref (s.heap.objs.size + 1), upd H (s.heap.objs.size + 1) (.lst ys), I.laid (t' := s.toks) (fun b o e => sortedAll_old e) (Nat.le_succ _) ⟨hlen, out, c, hv, hcc⟩, rfl, q ys _ _ sf.1 sf.2 hd' hn⟩
end
end Rw
namespace Rw
open PySem PySem.Spec PyProof.Rows L2
/-! ### dicts whose keys are tuples of texts and of such tuples -/
abbrev Ent := PyData × Addr × V
def RelE (p : Ent) (q : NK × Addr × Value) : Prop := toK p.1 = q.1 ∧ p.2.1 = q.2.1 ∧ RelV p.2.2 q.2.2
def NDO (P : Program) (w : World) (d : Addr) (kvs : List Ent) : HO := .ext fun h => kvs.length ≤ 100000 ∧ (d == sysModules) = false ∧ ∃ xs : List (NK × Addr × Value), Paired RelE kvs xs ∧
  ∃ o es ep, h.get? d = some o ∧ o.ExactDict ∧ o.data = .dict es ep ∧ es.toList = xs.map (entryOfKey (nestedKind P w)) ∧ (xs.map (·.1)).Nodup
/-- the entries' keys stand -/
abbrev KeysOk (K : PySem.W.Frag) (H : Hp) (kvs : List Ent) : Prop := ∀ p ∈ kvs, Good p.1 ∧ Dp K H (.ref p.2.1) p.1
theorem KeysOk.stay {K : PySem.W.Frag} {H H' : Hp} {kvs : List Ent} (h : KeysOk K H kvs) (e : Stay H H') : KeysOk K H' kvs := fun p hp => ⟨(h p hp).1, e.dp _ _ (h p hp).1.ok (h p hp).2⟩
theorem paired_mem {α β : Type} {F : α → β → Prop} : ∀ {l : List α} {m : List β}, Paired F l m → ∀ y ∈ m, ∃ x ∈ l, F x y
  | _, _, .nil, y, h => nomatch h
  | _, _, .cons r t, y, h => by
    rcases List.mem_cons.mp h with e | h
    · subst e
      exact ⟨_, List.mem_cons_self, r⟩
    · obtain ⟨x, hx, hr⟩ := paired_mem t y h
      exact ⟨x, List.mem_cons_of_mem _ hx, hr⟩
theorem paired_snoc {α β : Type} {F : α → β → Prop} {x : α} {y : β} (r : F x y) : ∀ {l : List α} {m : List β}, Paired F l m → Paired F (l ++ [x]) (m ++ [y])
  | _, _, .nil => .cons r .nil
  | _, _, .cons q t => .cons q (paired_snoc r t)
/-- what a look-up finds -/
theorem nd_look {kvs : List Ent} {xs : List (NK × Addr × Value)} (p : Paired RelE kvs xs) (hk : ∀ p ∈ kvs, Good p.1) {k : PyData} (g : Good k) :
    (∀ q, atKey xs (toK k) = some q → ∃ z ∈ kvs, z.1 = k ∧ RelV z.2.2 q.2) ∧ (atKey xs (toK k) = none → ∀ z ∈ kvs, z.1 ≠ k) := by
  induction p with
  | nil => exact ⟨fun q h => by simp [atKey] at h, fun _ z hz => nomatch hz⟩
  | @cons a b as bs r t ih =>
    obtain ⟨r1, r2, r3⟩ := r
    obtain ⟨i1, i2⟩ := ih fun p hp => hk p (List.mem_cons_of_mem _ hp)
    by_cases e : b.1 = toK k
    · have ek : a.1 = k := toK_inj (hk a List.mem_cons_self).ok g.ok (r1.trans e)
      have ea : atKey (b :: bs) (toK k) = some b.2 := by simp [atKey, e]
      refine ⟨fun q h => ?_, fun h => ?_⟩
      · rw [ea] at h
        cases h
        exact ⟨a, List.mem_cons_self, ek, r3⟩
      · rw [ea] at h
        cases h
    · have ea : atKey (b :: bs) (toK k) = atKey bs (toK k) := by simp [atKey, e]
      have ne : a.1 ≠ k := fun z => e (by rw [← r1, z])
      refine ⟨fun q h => ?_, fun h z hz => ?_⟩
      · rw [ea] at h
        obtain ⟨z, hz, h1⟩ := i1 q h
        exact ⟨z, List.mem_cons_of_mem _ hz, h1⟩
      · rw [ea] at h
        rcases List.mem_cons.mp hz with e' | hz
        · rw [e']
          exact ne
        · exact i2 h z hz
section
variable {X : Cx} {pins : List (Addr × Obj)} {σ : L2.St} {H : Hp} {s : Shared} {d : Addr} {kvs : List Ent} {E : Value → Shared → Prop}
theorem nd_get (I : Inv X pins σ H s) (hd : H d = some (NDO X.prog X.w d kvs)) (hk : KeysOk X.K H kvs) : kvs.length ≤ 100000 ∧ (d == sysModules) = false ∧ ∃ xs, Paired RelE kvs xs ∧ s.heap.DictOfH (nestedKind X.prog X.w) d xs := by
  obtain ⟨hz, hs, xs, p, o, es, ep, h1, h2, h3, h4, h5⟩ := (I.hok d _ hd).1
  refine ⟨hz, hs, xs, p, o, es, ep, h1, h2, h3, h4, fun x hx => ?_, h5⟩
  obtain ⟨q, hq, r1, r2, _⟩ := paired_mem p x hx
  have := key_at I (hk q hq).2 (hk q hq).1
  rw [r1, r2] at this
  exact this
theorem nd_new {kvs : List Ent} {xs : List (NK × Addr × Value)} {h' : Heap} {H' : Hp} (hz : kvs.length ≤ 100000) (hs : (d == sysModules) = false) (p : Paired RelE kvs xs) (m : h'.DictOfH (nestedKind X.prog X.w) d xs) : ObjOk X.prog X.w H' h' d (NDO X.prog X.w d kvs) := by
  obtain ⟨o, es, ep, h1, h2, h3, h4, _, h5⟩ := m
  refine ⟨⟨hz, hs, xs, p, o, es, ep, h1, h2, h3, h4, h5⟩, ⟨o, h1⟩, fun a b ⟨z1, z2, xs', p', o', es', ep', k1, k2⟩ kk => ⟨z1, z2, xs', p', o', es', ep', kk o' k1, k2⟩⟩
/-- k in d, k not in d -/
def rInN (K : PySem.W.Frag) (P : Program) (w : World) (neg : Bool) : R2 := fun x y H Q => ∃ (a d : Addr) (kvs : List Ent) (k : PyData), x = .ref a ∧ y = .ref d ∧ H d = some (NDO P w d kvs) ∧ KeysOk K H kvs ∧ Good k ∧ Dp K H (.ref a) k ∧
  ∀ b : Bool, (b = true ↔ k ∈ kvs.map (·.1)) → Q (.bl (if neg then !b else b)) H
theorem nd_isSome {xs : List (NK × Addr × Value)} (p : Paired RelE kvs xs) (hk : ∀ p ∈ kvs, Good p.1) {k : PyData} (g : Good k) : (atKey xs (toK k)).isSome = true ↔ k ∈ kvs.map (·.1) := by
  obtain ⟨l1, l2⟩ := nd_look p hk g
  cases e : atKey xs (toK k) with
  | none => exact ⟨(fun h => nomatch h), fun h => by
      obtain ⟨z, hz, ez⟩ := List.mem_map.mp h
      exact absurd ez (l2 e z hz)⟩
  | some q => exact ⟨fun _ => by
      obtain ⟨z, hz, h1, _⟩ := l1 q e
      exact List.mem_map.mpr ⟨z, hz, h1⟩, fun _ => rfl⟩
theorem op_inN (hu : X.A.units + 64 < cLine) : OpR X (compareOp .In) (rInN X.K X.prog X.w false) := by
  intro pins s σ H x y v u Q I rx ry h
  obtain ⟨a, d, kvs, k, rfl, rfl, hd, hk, g, da, q⟩ := h
  cases rx
  cases ry
  obtain ⟨hz, hs, xs, p, m⟩ := nd_get I hd hk
  refine wpAny_in_heap (knd := nestedKind X.prog X.w) (by show X.A.units + 1 + 8 < cLine; omega) (key_at I da g) hs m ?_
  exact ⟨.bl _, H, I.tok _, rfl, q _ (nd_isSome p (fun z hz => (hk z hz).1) g)⟩
theorem op_notInN (hu : X.A.units + 64 < cLine) : OpR X (compareOp .NotIn) (rInN X.K X.prog X.w true) := by
  intro pins s σ H x y v u Q I rx ry h
  obtain ⟨a, d, kvs, k, rfl, rfl, hd, hk, g, da, q⟩ := h
  cases rx
  cases ry
  obtain ⟨hz, hs, xs, p, m⟩ := nd_get I hd hk
  refine wpAny_notIn_heap (knd := nestedKind X.prog X.w) (by show X.A.units + 1 + 8 < cLine; omega) (key_at I da g) hs m ?_
  exact ⟨.bl _, H, I.tok _, rfl, q _ (nd_isSome p (fun z hz => (hk z hz).1) g)⟩
/-- d[k], k is there -/
def rGetN (K : PySem.W.Frag) (P : Program) (w : World) : R2 := fun x y H Q => ∃ (a d : Addr) (kvs : List Ent) (k : PyData), x = .ref d ∧ y = .ref a ∧ H d = some (NDO P w d kvs) ∧ KeysOk K H kvs ∧ Good k ∧ Dp K H (.ref a) k ∧ k ∈ kvs.map (·.1) ∧
  ∀ z ∈ kvs, z.1 = k → Q z.2.2 H
theorem pe_getN {o i : Expr} {td ty : TE} {pos : Pos} (hu : X.A.units + 64 < cLine) (hr : PE X o td) (hi : PE X i ty) (hs : NoSl i) : PE X (.Subscript o i pos) (tOp (rGetN X.K X.prog X.w) td ty) := by
  refine ⟨fun pins s σ H Q I h => ?_⟩
  refine subD_of PySem.F.slot_dict_getitem.lookup hs (thn (hr.run pins s σ H _ I h) fun v s1 ⟨x, H1, I1, r1, q1⟩ => thn (hi.run pins s1 σ H1 _ I1 q1) fun u s2 ⟨y, H2, I2, r2, a, d, kvs, k, ex, ey, hd, hk, g, da, hm, q⟩ => ?_)
  subst ex ey
  cases r1
  cases r2
  obtain ⟨hz, hs', xs, p, m⟩ := nd_get I2 hd hk
  obtain ⟨l1, l2⟩ := nd_look p (fun z hz => (hk z hz).1) g
  refine ⟨m.typeIs, ?_⟩
  cases e : atKey xs (toK k) with
  | none =>
    obtain ⟨z, hz, ez⟩ := List.mem_map.mp hm
    exact absurd ez (l2 e z hz)
  | some pv =>
    obtain ⟨z, hz, ez, rz⟩ := l1 pv e
    exact wpAny_getItem_heap (knd := nestedKind X.prog X.w) (by show X.A.units + 1 + 8 < cLine; omega) (key_at I2 da g) m e ⟨z.2.2, H2, I2.tok _, rz, q z hz ez⟩
/-- {} -/
theorem pe_dnewN {pos : Pos} : PE X (.Dict [] [] pos) (fun _ H Q => ∀ p, H p = none → Q (.ref p) (upd H p (NDO X.prog X.w p []))) := ⟨fun pins s σ H Q I h =>
  wpAny_Dict_empty ⟨.ref s.heap.objs.size, _, I.laid (a := s.heap.objs.size) (o := NDO X.prog X.w s.heap.objs.size []) (t' := s.toks) (fun _ _ q => Heap.get?_push_of_some _ q) (Nat.le_refl _)
    (nd_new (X := X) (Nat.zero_le _) (by have := I.big; exact beq_eq_false_iff_ne.mpr (Nat.ne_of_gt this)) .nil (Heap.DictOfH.new _)), rfl, h _ (I.hok.fresh (Nat.le_refl _))⟩⟩
/-- an entry more -/
theorem nd_put {a : Addr} {k : PyData} {x : V} {u : Value} {A : Around} {Q : Unit → Shared → Prop} (hu : A.units + 8 < cLine) (I : Inv X pins σ H s) (hd : H d = some (NDO X.prog X.w d kvs)) (hk : KeysOk X.K H kvs) (g : Good k) (da : Dp X.K H (.ref a) k) (new : k ∉ kvs.map (·.1)) (few : kvs.length < 100000) (r : RelV x u)
    (h : ∀ s', Inv X pins σ (upd H d (NDO X.prog X.w d (kvs ++ [(k, a, x)]))) s' → (∀ b o, b ≠ d → s.heap.get? b = some o → s'.heap.get? b = some o) → Q () s') : wpAny (model X.prog X.w) A (dictSet d (.ref a) u) Q E s := by
  obtain ⟨hz, hs, xs, p, m⟩ := nd_get I hd hk
  have xl : xs.length = kvs.length := (Paired.length p).symm
  have none_ : atKey xs (toK k) = none := by
    cases e : atKey xs (toK k) with
    | none => rfl
    | some q => exact absurd ((nd_isSome p (fun z hz => (hk z hz).1) g).mp (by rw [e]; rfl)) new
  refine wpAny_dictSet_heap (knd := nestedKind X.prog X.w) (hsz := by rw [sizeLine_eq]; omega) hu (key_at I da g) m fun h' m' sb => ?_
  rw [storedH_new none_] at m'
  have ex : ∃ q, h'.get? d = some q := let ⟨q, _, _, hq, _⟩ := m'; ⟨q, hq⟩
  refine h _ (d_write (t' := _) I (by rw [hd]; exact True.intro) sb ex (nd_new (by rw [List.length_append, List.length_singleton]; omega) hs (paired_snoc ⟨rfl, rfl, r⟩ p) m')) fun b o hb e => (sb.2 b hb).trans e
/-- d.setdefault(k, x) -/
def tSetdN (K : PySem.W.Frag) (P : Program) (w : World) (td ty tx : TE) : TE := fun σ H Q => td σ H fun x H1 => ∃ d kvs0, x = .ref d ∧ H1 d = some (NDO P w d kvs0) ∧ ty σ H1 fun y H2 => tx σ H2 fun z H3 => ∃ (a : Addr) (kvs : List Ent) (k : PyData), y = .ref a ∧ H3 d = some (NDO P w d kvs) ∧ KeysOk K H3 kvs ∧
  Good k ∧ Dp K H3 (.ref a) k ∧ kvs.length < 100000 ∧ (∀ e ∈ kvs, e.1 = k → Q e.2.2 H3) ∧ (k ∉ kvs.map (·.1) → Q z (upd H3 d (NDO P w d (kvs ++ [(k, a, z)]))))
theorem pe_setdN {o e f : Expr} {td ty tx : TE} {apos cpos : Pos} (hu : X.A.units + 64 < cLine) (ho : PE X o td) (he : PE X e ty) (hf : PE X f tx) (m : M2 X o "setdefault" apos e f cpos) : PE X (.Call (.Attribute o "setdefault" apos) [e, f] [] cpos) (tSetdN X.K X.prog X.w td ty tx) := by
  refine ⟨fun pins s σ H Q I h => ?_⟩
  refine wpAny_Call_method m.base m.few m.line PySem.F.plainAttrs_dict PySem.F.slot_dict_setdefault PySem.F.type_dict_setdefault (thn (ho.run pins s σ H _ I h) fun u s1 ⟨x, H1, I1, rx, d, kvs0, ex, d0, q1⟩ => ?_)
  subst ex
  obtain rfl : u = Value.ref d := rx
  have ty0 : ∃ o, s1.heap.get? d = some o ∧ o.cls = .type "dict" ∧ o.dict = none := by
    obtain ⟨_, _, xs, _, o, es, ep, h1, h2, _⟩ := (I1.hok d _ d0).1
    exact ⟨o, h1, h2.1, h2.2.1⟩
  obtain ⟨ob, ho1, ho2, ho3⟩ := ty0
  refine ⟨⟨ob, ho1, ho2⟩, fun b eb => ?_, ?_⟩
  · cases eb
    exact ⟨ob, ho1, ho3⟩
  rw [m.trees]
  refine Calls.callWith_builtin rfl (Calls.evalArgs_plain (Calls.spliced_cons (thn (he.run pins s1 σ H1 _ I1 q1) fun iv s2 ⟨y, H2, I2, ry, q2⟩ =>
    Calls.spliced_cons (thn (hf.run pins s2 σ H2 _ I2 q2) fun fv s3 ⟨z, H3, I3, rz, a, kvs, k, ey, hd, hk, g, da, few, q3, q4⟩ => Calls.spliced_nil ?_))))
  subst ey
  obtain rfl : iv = Value.ref a := ry
  obtain ⟨hz, hs, xs, p, mm⟩ := nd_get I3 hd hk
  have xl : xs.length = kvs.length := (Paired.length p).symm
  obtain ⟨l1, l2⟩ := nd_look p (fun z hz => (hk z hz).1) g
  refine call_setdefault_heap (knd := nestedKind X.prog X.w) (hsz := by rw [sizeLine_eq]; omega) (by show X.A.units + 1 + 8 < cLine; omega) (key_at I3 da g) hs mm (fun pv hp => ?_) fun hn h' m' sb => ?_
  · obtain ⟨z', hz', ez, rz'⟩ := l1 pv hp
    exact ⟨z'.2.2, H3, I3.tok _, rz', q3 z' hz' ez⟩
  · rw [storedH_new hn] at m'
    have ex : ∃ q, h'.get? d = some q := let ⟨q, _, _, hq, _⟩ := m'; ⟨q, hq⟩
    refine ⟨z, _, d_write (t' := _) I3 (by rw [hd]; exact True.intro) sb ex (nd_new (by rw [List.length_append, List.length_singleton]; omega) hs (paired_snoc ⟨rfl, rfl, rz⟩ p) m'), rz, q4 fun hm => ?_⟩
    obtain ⟨z', hz', ez⟩ := List.mem_map.mp hm
    exact l2 hn z' hz' ez
end
end Rw
namespace Rw
open PySem PySem.Spec PyProof.Rows L2
/-! ### y = {x: True for x in xs}, xs a list of tuples, no two alike -/
theorem idx_new {ds : List PyData} (hn : ds.Nodup) {i : Nat} {d : PyData} (h : ds[i]? = some d) : d ∉ ds.take i := fun hm => by
  have z := take_snoc h
  have nd : (ds.take (i + 1)).Nodup := List.Nodup.sublist (List.take_sublist _ _) hn
  rw [z] at nd
  obtain ⟨_, _, h3⟩ := List.nodup_append.mp nd
  exact h3 d hm d (List.mem_singleton.mpr rfl) rfl
theorem vals_at : ∀ {xs : List V} {us : List Value} {i : Nat} {u : Value}, Vals xs us → us[i]? = some u → ∃ x, xs[i]? = some x ∧ RelV x u
  | _, _, _, _, .nil, e => by simp at e
  | _, _, 0, _, .cons r _, e => by
    simp at e
    subst e
    exact ⟨_, rfl, r⟩
  | _, _, i + 1, _, .cons _ t, e => by
    obtain ⟨x, h1, h2⟩ := vals_at (i := i) t (by simpa using e)
    exact ⟨x, by simpa using h1, h2⟩
section
variable {X : Cx}
def tSetD (K : PySem.W.Frag) (P : Program) (w : World) (ti : TE) : TE := fun σ H Q => ti σ H fun v H1 => ∃ (l : Addr) (xs : List V) (ds : List PyData), v = .ref l ∧ SqL K H1 l xs ∧ DpAll K H1 xs ds ∧ (∀ d ∈ ds, Good d) ∧ ds.Nodup ∧ ds.length ≤ 1000 ∧
  ∀ D kvs, H1 D = none → kvs.map (·.1) = ds → KeysOk K H1 kvs → Q (.ref D) (upd H1 D (NDO P w D kvs))
theorem ps_setDictTrue {i : Nat} {y x : Str} {py p1 p2 p3 pos spos : Pos} {kk : Nat} {iter : Expr} {scope : Scope} {own : List (Str × Nat)} {ti : TE} (hc : X.calm = true) (hu : X.A.units + 64 < cLine) (hN : X.N.Nodup) (hy : X.N[i]? = some y) (hyl : X.env.scope.names.lookup y = some .local)
    (hsw : swapsWith (.DictComp (.Name x p1) (.Constant (.bool true) kk p2) [⟨.Name x p3, iter, [], 0⟩] scope pos) (some (.Name y py)) spos.line X.env = pure true) (hi : PE X iter ti) (ok : BlkOk X.N X.env.scope scope own)
    (hx : scope.names.lookup x = some .local) (hdeb : (x == ("__debug__" : Str)) = false) (hcell : ∀ z ∈ scope.names, z.2 ≠ .cell) (hs : ∀ x, foldedSetIterable iter X.env x = pure x := by intro _; rfl) :
    PS X (.Assign [.Name y py] (.DictComp (.Name x p1) (.Constant (.bool true) kk p2) [⟨.Name x p3, iter, [], 0⟩] scope pos) spos) (tAsg (tSetD X.K X.prog X.w ti) (gName i)) := by
  refine ⟨fun pins s σ H D I h => ?_⟩
  have h : tSetD X.K X.prog X.w ti σ H (fun x H1 => gName i x σ H1 D.nx) := h
  have hfree : ∀ y ∈ scope.names, y.2 = .free → ∃ c, X.env.cells.lookup y.1 = some c := fun y hy e => by
    rcases ok.free y hy e with k | k
    · exact I.ok.has _ (.inl k)
    · exact I.ok.has _ (.inr k)
  rw [exec_Assign_Name_used _ _ _ _ hsw]
  refine wpAny_bind (wpAny_standAt (wpAny_bind ?_))
  show wpAny _ X.A (do let _ ← comprehension (.DictComp (.Name x p1) (.Constant (.bool true) kk p2) [⟨.Name x p3, iter, [], 0⟩] scope pos) scope X.env _ newDict false (eval iter X.env) (some (assign (.Name y py) X.env))) _ _ s
  have main : wpAny (model X.prog X.w) X.A (eval iter X.env) (fun xv s₁ => wpAny (model X.prog X.w) X.A (pyIter xv)
      (DcGoes X.prog X.w X.A X.xe X.env scope (cloFrom X.env.cells scope.names []) (.Name x p3) [] (.Name x p1) (.Constant (.bool true) kk p2) (some (assign (.Name y py) X.env)) (fun _ s' => SP X pins D .next s')) X.xe s₁) X.xe s := by
    refine thn (hi.run pins s σ H _ I h) fun xv s1 ⟨v, H1, I1, rv, l, xs, ds, ev, hl, hd, hg, hnd, hlen, q⟩ => ?_
    subst ev
    obtain rfl : xv = Value.ref l := rv
    obtain ⟨its, rvs, pl, _⟩ := I1.list hl
    have hl0 : s1.heap.IsList l its.toArray := pl.isList
    have hlt : (l : Nat) < s1.heap.objs.size := by
      obtain ⟨o, ho, _⟩ := hl0
      exact Heap.lt_size ho
    have il : its.length = ds.length := by rw [← rvs.length, dpAll_len hd]
    refine wpAny_pyIter_list hl0 ?_
    refine ⟨s1.heap.objs.size, [s1.heap.objs.size, l], [s1.heap.objs.size], its.toArray.size, _, _, rfl, Goes.list (I1.ok.hd hc) s1.heap.objs.size l (Nat.ne_of_lt hlt) its.toArray, ⟨⟨_, Heap.get?_push_size _ rfl, rfl, rfl⟩, hl0.push _⟩, ?_⟩
    intro D0 C s3 hB hDobj
    obtain ⟨⟨h3, tk3, rfl⟩, old, nD, nC, hDC, hnm⟩ := hB
    have szp : (s1.heap.push { cls := .type "list_iterator", data := .fields #[.ref l, .int 0 0] }).objs.size = s1.heap.objs.size + 1 := Heap.size_push ..
    have nD' : s1.heap.objs.size + 1 ≤ D0 := by
      have q := nD
      rw [szp] at q
      exact q
    have nC' : s1.heap.objs.size + 1 ≤ C := by
      have q := nC
      rw [szp] at q
      exact q
    have sD : s1.heap.objs.size ≤ D0 := Nat.le_trans (Nat.le_succ _) nD'
    have sC : s1.heap.objs.size ≤ C := Nat.le_trans (Nat.le_succ _) nC'
    have neDI : s1.heap.objs.size ≠ D0 := Nat.ne_of_lt nD'
    have neCI : s1.heap.objs.size ≠ C := Nat.ne_of_lt nC'
    have neDl : (l : Nat) ≠ D0 := Nat.ne_of_lt (Nat.lt_of_lt_of_le hlt sD)
    have neCl : (l : Nat) ≠ C := Nat.ne_of_lt (Nat.lt_of_lt_of_le hlt sC)
    have hDn : H1 D0 = none := I1.hok.fresh sD
    have hIn : H1 s1.heap.objs.size = none := I1.hok.fresh (Nat.le_refl _)
    have hCn : H1 C = none := I1.hok.fresh sC
    have all3 : ∀ b o, s1.heap.get? b = some o → h3.get? b = some o := fun b o e => old b o (Heap.get?_push_of_some _ e)
    have kx : (compEnvC scope (cloFrom X.env.cells scope.names []) C X.env).kindOf x = some .local := lookup_relabel_local hx
    have hp : ((compEnvC scope (cloFrom X.env.cells scope.names []) C X.env).scope.kind == .class || ((compEnvC scope (cloFrom X.env.cells scope.names []) C X.env).scope.kind == .module && (compEnvC scope (cloFrom X.env.cells scope.names []) C X.env).locals != (compEnvC scope (cloFrom X.env.cells scope.names []) C X.env).globals)) = false := by
      show (scope.kind == .class || (scope.kind == .module && _)) = false
      rw [ok.kind]
      rfl
    have fpI : ∀ kvs, FpOk X pins (upd H1 D0 (NDO X.prog X.w D0 kvs)) s1.heap.objs.size := fun kvs => I1.fpOk (Nat.le_refl _) (by rw [upd_ne neDI]; exact hIn)
    have fpC : ∀ kvs, FpOk X pins (upd H1 D0 (NDO X.prog X.w D0 kvs)) C := fun kvs => I1.fpOk sC (by rw [upd_ne (fun e => hDC e.symm)]; exact hCn)
    refine ⟨fun i s₁ => ∃ kvs m, Inv X pins σ (upd H1 D0 (NDO X.prog X.w D0 kvs)) s₁ ∧ s₁.heap.Ns C m ∧ kvs.map (·.1) = ds.take i ∧ KeysOk X.K H1 kvs, ?_, ?_, ?_, ?_⟩
    · -- at the start
      refine ⟨[], _, I1.laid (t' := tk3) all3 sD (nd_new (X := X) (Nat.zero_le _) ?_ .nil ?_), hnm, rfl, fun p hp => nomatch hp⟩
      · exact beq_eq_false_iff_ne.mpr (Nat.ne_of_gt (Nat.lt_of_lt_of_le I1.big sD))
      · exact ⟨_, #[], 0, hDobj, ⟨rfl, rfl, rfl⟩, rfl, rfl, (fun _ z => nomatch z), List.nodup_nil⟩
    · -- the iterator turns
      rintro i s₁ h' tk ⟨kvs, m, J, hn, e, ko⟩ kp _
      obtain ⟨f0, f1, f2, f3, f4, f5⟩ := fpI kvs
      exact ⟨kvs, m, J.turned (t' := tk) (fun b o hb q => kp b o (by simpa using hb) q) f0 f1 f3 f4 f5, hn.at' fun o q => kp _ o (by simpa using (fun z => neCI z.symm)) q, e, ko⟩
    · -- one turn
      rintro i v s₁ hi' hv st ⟨kvs, m, J, hn, e, ko⟩
      have hv' : its[i]? = some v := by simpa using hv
      obtain ⟨x0, hx0, rx0⟩ := vals_at rvs hv'
      obtain ⟨d, hd0, dd⟩ := dpAll_at' hd hx0
      have gd := hg d (List.mem_of_getElem? hd0)
      obtain ⟨a, rfl⟩ := gd.ref dd
      obtain rfl : v = Value.ref a := rx0
      refine wpAny_assign_Name (wpAny_storeName_local kx hn (fun h5 n5 s5 => ?_) hp)
      refine wpAny_tests_nil ?_
      show wpAny _ _ _ _ _ _
      obtain ⟨f0, f1, f2, f3, f4, f5⟩ := fpC kvs
      have J5 : Inv X pins σ (upd H1 D0 (NDO X.prog X.w D0 kvs)) { s₁ with heap := h5, toks := s₁.toks + 1 } := J.turned (t' := s₁.toks + 1) (fun b o hb q => (s5.2 b hb).trans q) f0 f1 f3 f4 f5
      rw [eval_Name _ _ _ hdeb]
      refine wpAny_bind (wpAny_standAt (wpAny_loadName_local ok.kind kx n5 (v := .ref a) (if_pos rfl) ?_))
      refine Constant_bool ?_
      have st5 : h5.IsListIter s1.heap.objs.size l (i + 1) ∧ h5.IsList l its.toArray := ⟨st.1.at fun o q => (s5.2 _ neCI).trans q, st.2.at fun o q => (s5.2 _ neCl).trans q⟩
      have sty : Stay H1 (upd H1 D0 (NDO X.prog X.w D0 kvs)) := Stay.new hDn _
      refine nd_put (s := { s₁ with heap := h5, toks := s₁.toks + 1 }) (by omega) J5 upd_same (ko.stay sty) gd (sty.dp _ _ gd.ok dd) (by rw [e]; exact idx_new hnd hd0) ?_ (x := .bl true) rfl fun s' J' kept => ?_
      · have z := congrArg List.length e
        rw [List.length_map, List.length_take] at z
        omega
      · rw [upd_upd] at J'
        refine ⟨⟨_, _, J', n5.at' fun o q => kept _ o (fun z => hDC z.symm) q, ?_, ?_⟩, st5.1.at fun o q => kept _ o neDI q, st5.2.at fun o q => kept _ o neDl q⟩
        · rw [List.map_append, e, take_snoc hd0]
          rfl
        · intro p hp
          rcases List.mem_append.mp hp with hp | hp
          · exact ko p hp
          · rw [List.mem_singleton.mp hp]
            exact ⟨gd, dd⟩
    · -- behind the last
      rintro s₁ ⟨kvs, m, J, hn, e, ko⟩
      have e' : kvs.map (·.1) = ds := by
        rw [e, List.size_toArray, il, List.take_length]
      show wpAny _ X.A (assign (.Name y py) X.env (.ref D0)) _ _ _
      obtain ⟨f0, f1, f2, f3, f4, f5⟩ := fpC kvs
      refine wpAny_assign_Name (store_ok2 (v := V.ref D0) J hN hy (.inl hyl) rfl (fun s2 J2 ⟨a, sb, ha⟩ => ?_) (.inr hyl))
      have haC : C ≠ a := by
        rcases ha with z | z
        · rw [z]
          exact f1
        · exact fun e => f4 y a z e.symm
      exact ⟨m, hn.sameBut sb haC, fun h3' sb3 => ⟨_, _, J2.turned (t' := s2.toks) (fun b o hb q => (sb3.2 b hb).trans q) f0 f1 f3 f4 f5, q D0 kvs hDn e' ko⟩⟩
  refine wpAny_bind (wpAny_mono (comprehension_at (use := some (assign (.Name y py) X.env)) (Q := fun _ s' => SP X pins D .next s') rfl hs (closure_ok hfree) ok.kind (fun z hz e => by rw [ok.uniq z hz, e])
    (wpAny_mono main (fun xv s₁ h₁ => wpAny_mono h₁ (fun it s₂ h₂ => compBlock_dict hcell ok.kind h₂) fun _ _ e => e) fun _ _ e => e)) (fun _ s' hq => wpAny_pure (wpAny_pure hq)) fun _ _ e => e)
end
end Rw
namespace Rw
open PySem PySem.Spec PyProof.Rows L2
/-! ### names, worlds, pairs -/
def letter (c : Nat) : Bool := decide (97 ≤ c) && decide (c ≤ 122)
def notS : Str := ("not" : Str)
def nameB (x : Str) : Bool := x.cps.toList.all letter && decide (1 ≤ x.cps.size) && decide (x.cps.size ≤ 8) && !decide (x = notS)
theorem nameB_iff {x : Str} : nameB x = true ↔ (∀ c ∈ x.cps.toList, letter c = true) ∧ 1 ≤ x.cps.size ∧ x.cps.size ≤ 8 ∧ x ≠ notS := by
  unfold nameB
  simp only [Bool.and_eq_true, List.all_eq_true, decide_eq_true_eq, Bool.not_eq_true', decide_eq_false_iff_not]
  exact ⟨fun ⟨⟨⟨a, b⟩, c⟩, d⟩ => ⟨a, b, c, d⟩, fun ⟨a, b, c, d⟩ => ⟨⟨⟨a, b⟩, c⟩, d⟩⟩
theorem name_strOk {x : Str} (h : nameB x = true) : PyData.strOk x = true := by
  obtain ⟨h1, _⟩ := nameB_iff.mp h
  unfold PyData.strOk
  rw [← Array.all_toList, List.all_eq_true]
  intro c hc
  have := h1 c hc
  unfold letter at this
  simp only [Bool.and_eq_true, decide_eq_true_eq] at this
  exact decide_eq_true (by omega)
abbrev W := List Str
abbrev Pr := W × W
/-- strictly rising -/
abbrev UpX (ns : W) : Prop := ns.Pairwise fun a b => a.cps.toList < b.cps.toList
structure IsW (ns : W) : Prop where
  names : ∀ x ∈ ns, nameB x = true
  up : UpX ns
  few : ns.length ≤ 60
def wd (ns : W) : PyData := .tuple (ns.map .str)
def pd (p : Pr) : PyData := .tuple [wd p.1, wd p.2]
theorem str_inj : ∀ {a b : W}, a.map PyData.str = b.map PyData.str → a = b
  | [], [], _ => rfl
  | [], _ :: _, h => by simp at h
  | _ :: _, [], h => by simp at h
  | x :: a, y :: b, h => by
    simp only [List.map_cons, List.cons.injEq, PyData.str.injEq] at h
    rw [h.1, str_inj h.2]
theorem wd_inj {a b : W} (h : wd a = wd b) : a = b := by
  unfold wd at h
  injection h with h
  exact str_inj h
theorem pd_inj {p q : Pr} (h : pd p = pd q) : p = q := by
  unfold pd at h
  injection h with h
  injection h with h1 h2
  injection h2 with h2 _
  exact Prod.ext (wd_inj h1) (wd_inj h2)
theorem okDs_str : ∀ ns : W, okDs (ns.map .str) = true
  | [] => rfl
  | x :: ns => by
    rw [List.map_cons, okDs, okDs_str ns]
    rfl
theorem depth_str : ∀ ns : W, PyData.depthAll (ns.map .str) = 0
  | [] => by simp [PyData.depthAll]
  | x :: ns => by
    rw [List.map_cons, PyData.depthAll, depth_str ns]
    simp [PyData.depth]
theorem ok_wd (ns : W) : okD (wd ns) = true := by
  unfold wd
  rw [okD]
  exact okDs_str ns
theorem depth_wd (ns : W) : (wd ns).depth = 1 := by
  unfold wd
  rw [PyData.depth, depth_str]
theorem good_wd (ns : W) : Good (wd ns) := ⟨ok_wd ns, by rw [depth_wd]; decide, ⟨_, rfl⟩⟩
theorem ok_pd (p : Pr) : okD (pd p) = true := by
  unfold pd
  rw [okD, okDs, okDs, okDs, ok_wd, ok_wd]
  rfl
theorem depth_pd (p : Pr) : (pd p).depth = 2 := by
  unfold pd
  simp [PyData.depth, PyData.depthAll, depth_wd]
theorem good_pd (p : Pr) : Good (pd p) := ⟨ok_pd p, by rw [depth_pd]; decide, ⟨_, rfl⟩⟩
theorem lay_strs : ∀ {ns : W}, (∀ x ∈ ns, nameB x = true) → PyData.canLayAll0 (ns.map .str) = true
  | [], _ => by simp [PyData.canLayAll0]
  | x :: ns, h => by
    rw [List.map_cons, PyData.canLayAll0, lay_strs fun y hy => h y (List.mem_cons_of_mem _ hy), PyData.canLay0, name_strOk (h x List.mem_cons_self)]
    rfl
theorem lay_wd {ns : W} (h : ∀ x ∈ ns, nameB x = true) : (wd ns).canLay0 = true := by
  unfold wd
  rw [PyData.canLay0]
  exact lay_strs h
theorem shaped_wd {ns : W} (h : IsW ns) : SeqAt.shaped (wd ns) = true := by
  unfold SeqAt.shaped
  rw [lay_wd h.names, depth_wd]
  rfl
theorem lay_pd {p : Pr} (h1 : IsW p.1) (h2 : IsW p.2) : (pd p).canLay0 = true := by
  unfold pd
  rw [PyData.canLay0, PyData.canLayAll0, PyData.canLayAll0, PyData.canLayAll0, lay_wd h1.names, lay_wd h2.names]
  rfl
theorem shaped_pd {p : Pr} (h1 : IsW p.1) (h2 : IsW p.2) : SeqAt.shaped (pd p) = true := by
  unfold SeqAt.shaped
  rw [lay_pd h1 h2, depth_pd]
  rfl
theorem alike_strs : ∀ a b : W, PySem.W.alikeAll (a.map .str) (b.map .str) = true
  | [], _ => by simp [PySem.W.alikeAll]
  | _ :: _, [] => by simp [PySem.W.alikeAll]
  | x :: a, y :: b => by
    rw [List.map_cons, List.map_cons, PySem.W.alikeAll, alike_strs a b]
    simp [PySem.W.alike]
theorem alike_wd (a b : W) : PySem.W.alike (wd a) (wd b) = true := by
  unfold wd
  rw [PySem.W.alike]
  exact alike_strs a b
theorem alike_pd (p q : Pr) : PySem.W.alike (pd p) (pd q) = true := by
  unfold pd
  rw [PySem.W.alike, PySem.W.alikeAll, PySem.W.alikeAll, PySem.W.alikeAll, alike_wd, alike_wd]
  rfl
theorem eqv_strs : ∀ a b : W, PyData.eqvAll (a.map .str) (b.map .str) = decide (a = b)
  | [], [] => by simp [PyData.eqvAll]
  | [], _ :: _ => by simp [PyData.eqvAll]
  | _ :: _, [] => by simp [PyData.eqvAll]
  | x :: a, y :: b => by
    rw [List.map_cons, List.map_cons, PyData.eqvAll, eqv_strs a b, PyData.eqv]
    by_cases h : x = y
    · subst h
      by_cases h2 : a = b <;> simp [h2]
    · simp [h]
theorem eqv_wd (a b : W) : PyData.eqv (wd a) (wd b) = decide (a = b) := by
  unfold wd
  rw [PyData.eqv]
  exact eqv_strs a b
theorem eqv_pd (p q : Pr) : PyData.eqv (pd p) (pd q) = decide (p = q) := by
  unfold pd
  rw [PyData.eqv, PyData.eqvAll, PyData.eqvAll, PyData.eqvAll, eqv_wd, eqv_wd]
  obtain ⟨a, b⟩ := p
  obtain ⟨c, d⟩ := q
  by_cases h1 : a = c
  · by_cases h2 : b = d <;> simp [h1, h2]
  · simp [h1]
/-! ### sorted lists are told by their members -/
theorem toks_ne {d e : PyData} (h : PySem.W.alike d e = true) (he : PyData.eqv d e = false) : PySem.W.keyToks d ≠ PySem.W.keyToks e := fun t => by
  have z := (PySem.W.toks_eqv d e h).2 he [.inl 0] [.inl 1]
  rw [t, PySem.W.lex_pre, lex_irrefl] at z
  exact absurd z (by decide)
theorem lt_or {d e : PyData} (h : PySem.W.alike d e = true) (he : PyData.eqv d e = false) : PySem.W.dataLt d e = true ∨ PySem.W.dataLt e d = true := by
  cases h1 : PySem.W.dataLt d e with
  | true => exact .inl rfl
  | false =>
    cases h2 : PySem.W.dataLt e d with
    | true => exact .inr rfl
    | false => exact absurd (lex_total _ _ h1 h2) (toks_ne h he)
/-- rising and without repetition: told by the members -/
theorem rising_one {α : Type} {enc : α → PyData} (al : ∀ a b, PySem.W.alike (enc a) (enc b) = true) (inj : ∀ a b, PyData.eqv (enc a) (enc b) = true → a = b) :
    ∀ {l m : List α}, Rising (l.map enc) → Rising (m.map enc) → l.Nodup → m.Nodup → (∀ a, a ∈ l ↔ a ∈ m) → l = m
  | [], [], _, _, _, _, _ => rfl
  | [], b :: m, _, _, _, _, h => absurd ((h b).mpr List.mem_cons_self) (List.not_mem_nil)
  | a :: l, [], _, _, _, _, h => absurd ((h a).mp List.mem_cons_self) (List.not_mem_nil)
  | a :: l, b :: m, r1, r2, n1, n2, h => by
    have le_of : ∀ {x y : α} {k : List α}, Rising ((x :: k).map enc) → y ∈ x :: k → y = x ∨ PySem.W.dataLt (enc y) (enc x) = false := by
      intro x y k r hy
      rcases List.mem_cons.mp hy with e | hy
      · exact .inl e
      · right
        have z := (List.pairwise_cons.mp r).1 (enc y) (List.mem_map.mpr ⟨y, hy, rfl⟩)
        have z' : (!PySem.W.dataLt (enc y) (enc x)) = true := z
        simpa using z'
    have e : a = b := by
      have h1 := le_of r1 ((h b).mpr List.mem_cons_self)
      have h2 := le_of r2 ((h a).mp List.mem_cons_self)
      rcases h1 with e | h1
      · exact e.symm
      · rcases h2 with e | h2
        · exact e
        · cases ev : PyData.eqv (enc a) (enc b) with
          | true => exact inj a b ev
          | false =>
            rcases lt_or (al a b) ev with z | z
            · rw [h2] at z
              exact nomatch z
            · rw [h1] at z
              exact nomatch z
    subst e
    obtain ⟨a1, a2⟩ := List.nodup_cons.mp n1
    obtain ⟨b1, b2⟩ := List.nodup_cons.mp n2
    rw [rising_one al inj (List.pairwise_cons.mp r1).2 (List.pairwise_cons.mp r2).2 a2 b2 fun x => ?_]
    constructor
    · intro hx
      rcases List.mem_cons.mp ((h x).mp (List.mem_cons_of_mem _ hx)) with e | z
      · rw [e] at hx
        exact absurd hx a1
      · exact z
    · intro hx
      rcases List.mem_cons.mp ((h x).mpr (List.mem_cons_of_mem _ hx)) with e | z
      · rw [e] at hx
        exact absurd hx b1
      · exact z
theorem pairs_one {R R' : List Pr} (r1 : Rising (R.map pd)) (r2 : Rising (R'.map pd)) (n1 : R.Nodup) (n2 : R'.Nodup) (h : ∀ p, p ∈ R ↔ p ∈ R') : R = R' :=
  rising_one alike_pd (fun p q e => by rw [eqv_pd] at e; exact of_decide_eq_true e) r1 r2 n1 n2 h
theorem worlds_one {R R' : List W} (r1 : Rising (R.map wd)) (r2 : Rising (R'.map wd)) (n1 : R.Nodup) (n2 : R'.Nodup) (h : ∀ p, p ∈ R ↔ p ∈ R') : R = R' :=
  rising_one alike_wd (fun p q e => by rw [eqv_wd] at e; exact of_decide_eq_true e) r1 r2 n1 n2 h
/-- texts: likewise -/
theorem upX_one : ∀ {l m : W}, UpX l → UpX m → (∀ a, a ∈ l ↔ a ∈ m) → l = m
  | [], [], _, _, _ => rfl
  | [], b :: m, _, _, h => absurd ((h b).mpr List.mem_cons_self) (List.not_mem_nil)
  | a :: l, [], _, _, h => absurd ((h a).mp List.mem_cons_self) (List.not_mem_nil)
  | a :: l, b :: m, r1, r2, h => by
    obtain ⟨p1, q1⟩ := List.pairwise_cons.mp r1
    obtain ⟨p2, q2⟩ := List.pairwise_cons.mp r2
    have e : a = b := by
      rcases List.mem_cons.mp ((h a).mp List.mem_cons_self) with e | z
      · exact e
      · rcases List.mem_cons.mp ((h b).mpr List.mem_cons_self) with e | z'
        · exact e.symm
        · exact absurd (p1 b z') (List.lt_asymm (p2 a z))
    subst e
    have na : ∀ {k : W}, (∀ x ∈ k, a.cps.toList < x.cps.toList) → a ∉ k := fun h hm => List.lt_irrefl _ (h a hm)
    rw [upX_one q1 q2 fun x => ?_]
    constructor
    · intro hx
      rcases List.mem_cons.mp ((h x).mp (List.mem_cons_of_mem _ hx)) with e | z
      · rw [e] at hx
        exact absurd hx (na p1)
      · exact z
    · intro hx
      rcases List.mem_cons.mp ((h x).mpr (List.mem_cons_of_mem _ hx)) with e | z
      · rw [e] at hx
        exact absurd hx (na p2)
      · exact z
/-- ≤ and without repetition: strictly rising -/
theorem upX_of {zs : W} (h : RisingX zs) (n : zs.Nodup) : UpX zs := by
  induction zs with
  | nil => exact List.Pairwise.nil
  | cons x zs ih =>
    obtain ⟨p, q⟩ := List.pairwise_cons.mp h
    obtain ⟨n1, n2⟩ := List.nodup_cons.mp n
    refine List.pairwise_cons.mpr ⟨fun y hy => ?_, ih q n2⟩
    have le := of_decide_eq_true (p y hy)
    refine Classical.byContradiction fun c => ?_
    have ge : y.cps.toList ≤ x.cps.toList := List.not_lt.mp c
    have e : x.cps.toList = y.cps.toList := List.le_antisymm le ge
    exact n1 ((PySem.W.str_of_cps e) ▸ hy)
theorem upX_nodup {zs : W} (h : UpX zs) : zs.Nodup := List.Pairwise.imp (fun {a b} h e => by subst e; exact List.lt_irrefl _ h) h
end Rw
namespace Rw
open PySem PySem.Spec PyProof.Rows L2
theorem in_letters {c : Nat} (h : letter c = true) : c ∈ lettersS.cps.toList := by
  have all : ((List.range 123).all fun c => !letter c || decide (c ∈ lettersS.cps.toList)) = true := by decide +kernel
  have z := h
  unfold letter at z
  simp only [Bool.and_eq_true, decide_eq_true_eq] at z
  have q := List.all_eq_true.mp all c (List.mem_range.mpr (by omega))
  rw [h] at q
  simpa using q
/-- a comprehension over a text's signs -/
theorem lc_sgn {x : Str} {g : TG} {tt : TT} {te : TE} {vs : List Nat} {σ : L2.St} {H1 : Hp} {D : Addr} {Qd : Hp → Prop} (Pv : Nat → Hp → Prop) (h0 : Pv 0 (upd H1 D (.lst [])))
    (hs : ∀ i c H, x.cps[i]? = some c → Pv i H → g (.str ⟨#[c]⟩) (wipe σ vs) H fun σ2 H2 => wipe σ2 vs = wipe σ vs ∧ tt σ2 H2 fun b H3 =>
      if b = true then te σ2 H3 fun y H4 => ∃ acc, H4 D = some (.lst acc) ∧ acc.length < sizeLine ∧ Pv (i + 1) (upd H4 D (.lst (acc ++ [y]))) else Pv (i + 1) H3) (hd : ∀ H, Pv x.cps.size H → Qd H) :
    ∃ W : Nat → Nat → Hp → Prop, (∃ m, W 0 m (upd H1 D (.lst []))) ∧ ∀ i m H, W i m H →
      ((Its x).stop i H ∧ Qd H) ∨ ((Its x).go i H ∧ ∃ Nx : Hp → Prop, (∀ H', Nx H' → ∃ m', m' < m ∧ W (i + 1) m' H') ∧ ∀ y H', (Its x).yld i H y H' → g y (wipe σ vs) H' fun σ2 H2 => wipe σ2 vs = wipe σ vs ∧ tt σ2 H2 fun b H3 =>
        if b = true then te σ2 H3 fun y H4 => ∃ acc, H4 D = some (.lst acc) ∧ acc.length < sizeLine ∧ Nx (upd H4 D (.lst (acc ++ [y]))) else Nx H3) := by
  refine ⟨fun i m H => m = x.cps.size - i ∧ i ≤ x.cps.size ∧ Pv i H, ⟨x.cps.size, by simp, Nat.zero_le _, h0⟩, ?_⟩
  rintro i m H ⟨rfl, hi, p⟩
  by_cases hlt : i < x.cps.size
  · refine .inr ⟨hlt, Pv (i + 1), fun H' p' => ⟨x.cps.size - (i + 1), by omega, rfl, hlt, p'⟩, fun y H' yy => ?_⟩
    obtain ⟨rfl, c, hc, rfl⟩ := yy
    exact hs i c _ hc p
  · have e : i = x.cps.size := by omega
    subst e
    exact .inl ⟨Nat.le_refl _, hd H p⟩
theorem small_line {n : Nat} (h : n ≤ 10000) : n ≤ sizeLine := by
  rw [sizeLine_eq]
  omega
theorem small_line' {n : Nat} (h : n ≤ 10000) : n < sizeLine := by
  rw [sizeLine_eq]
  omega
theorem map_at {α β : Type} {l : List α} {f : α → β} {i : Nat} {y : β} (h : (l.map f)[i]? = some y) : ∃ x, l[i]? = some x ∧ y = f x := by
  rw [List.getElem?_map] at h
  cases e : l[i]? with
  | none => rw [e] at h; simp at h
  | some x =>
    rw [e] at h
    exact ⟨x, rfl, (Option.some.inj h).symm⟩
theorem same_put {H H1 : Hp} {D : Addr} {o : HO} (sm : Same H H1) (hD : H D = none) : Same H (upd H1 D o) := fun b u e => by
  rw [upd_ne (ne_of_none e hD)]
  exact sm b u e
theorem dps_str {K : PySem.W.Frag} {H : Hp} : ∀ {ns : W} {xs : List V}, DpAll K H xs (ns.map .str) → xs = ns.map V.str
  | [], _, h => by cases h; rfl
  | x :: ns, _, h => by
    cases h with
    | cons h1 h2 =>
      cases h1
      rw [dps_str h2]
      rfl
theorem dps_strs {K : PySem.W.Frag} {H : Hp} : ∀ ns : W, DpAll K H (ns.map V.str) (ns.map .str)
  | [] => .nil
  | x :: ns => .cons (.str x) (dps_strs ns)
theorem of_wd {K : PySem.W.Frag} {H : Hp} {x : V} {ns : W} (h : Dp K H x (wd ns)) : ∃ a, x = .ref a ∧ SqT K H a (ns.map V.str) := by
  unfold wd at h
  cases h with
  | tup h1 h2 =>
    rw [dps_str h2] at h1
    exact ⟨_, rfl, h1⟩
theorem to_wd {K : PySem.W.Frag} {H : Hp} {a : Addr} {ns : W} (h : SqT K H a (ns.map V.str)) : Dp K H (.ref a) (wd ns) := .tup h (dps_strs ns)
theorem Stay.wd {K : PySem.W.Frag} {H H' : Hp} {x : V} {ns : W} (e : Stay H H') (h : Dp K H x (Rw.wd ns)) : Dp K H' x (Rw.wd ns) := e.dp _ _ (ok_wd ns) h
theorem tyx_tup {K : PySem.W.Frag} {H : Hp} {a : Addr} {xs : List V} (h : SqT K H a xs) : TyX K H (.ref a) (.type "tuple") := by
  rcases h with (h | ⟨o, h⟩) | ⟨o, its, n, h1, h2, _⟩
  · exact .base (.tup h)
  · exact .fTuple h
  · exact .kTuple h1 h2
/-- all of ms are in ns -/
def sub (ms ns : W) : Bool := ms.all fun z => decide (z ∈ ns)
theorem inV_str (z : Str) : ∀ ns : W, inV (.str z) (ns.map V.str) = decide (z ∈ ns)
  | [] => by simp [inV]
  | x :: ns => by
    have ih := inV_str z ns
    unfold inV at ih ⊢
    rw [List.map_cons, List.any_cons, ih]
    show ((x == z) || decide (z ∈ ns)) = decide (z ∈ x :: ns)
    by_cases h : x = z
    · subst h
      simp
    · have h' : z ≠ x := fun e => h e.symm
      simp [h, h']
theorem flat_strs (ns : W) : (ns.map V.str).all flatV = true := by
  rw [List.all_map, List.all_eq_true]
  exact fun _ _ => rfl
/-- the first that is told -/
theorem first_at {α β : Type} {f : α → Option β} {y : β} : ∀ {l : List α} {i : Nat} {p : α}, (∀ q ∈ l.take i, f q = none) → l[i]? = some p → f p = some y → l.findSome? f = some y
  | [], _, _, _, h, _ => by simp at h
  | a :: l, 0, p, _, h, e => by
    simp at h
    subst h
    rw [List.findSome?_cons, e]
  | a :: l, i + 1, p, h0, h, e => by
    rw [List.findSome?_cons, h0 a (by simp)]
    exact first_at (i := i) (fun q hq => h0 q (by rw [List.take_succ_cons]; exact List.mem_cons_of_mem _ hq)) (by simpa using h) e
theorem first_none {α β : Type} {f : α → Option β} {l : List α} (h : ∀ q ∈ l, f q = none) : l.findSome? f = none := List.findSome?_eq_none_iff.mpr h
theorem none_snoc {α β : Type} {f : α → Option β} {l : List α} {i : Nat} {p : α} (h0 : ∀ q ∈ l.take i, f q = none) (h : l[i]? = some p) (e : f p = none) : ∀ q ∈ l.take (i + 1), f q = none := fun q hq => by
  rw [take_snoc h] at hq
  rcases List.mem_append.mp hq with hq | hq
  · exact h0 q hq
  · rw [List.mem_singleton.mp hq]
    exact e
theorem filt_t {α : Type} {p : α → Bool} {l : List α} {i : Nat} {z : α} (hz : l[i]? = some z) (e : p z = true) : (l.take (i + 1)).filter p = (l.take i).filter p ++ [z] := by
  rw [take_snoc hz, List.filter_append]
  simp [e]
theorem filt_f {α : Type} {p : α → Bool} {l : List α} {i : Nat} {z : α} (hz : l[i]? = some z) (e : p z = false) : (l.take (i + 1)).filter p = (l.take i).filter p := by
  rw [take_snoc hz, List.filter_append]
  simp [e]
theorem okDs_wd (L : List W) : okDs (L.map wd) = true := okDs_all fun d hd => by
  obtain ⟨q, _, rfl⟩ := List.mem_map.mp hd
  exact ok_wd q
theorem none_back {H0 H : Hp} (h : Same H0 H) {o : Addr} (n : H o = none) : H0 o = none := by
  cases e : H0 o with
  | none => rfl
  | some u =>
    rw [h _ _ e] at n
    cases n
theorem map_inj_nodup {α β : Type} {f : α → β} : ∀ {l : List α}, (l.map f).Nodup → ∀ a ∈ l, ∀ b ∈ l, f a = f b → a = b
  | [], _, a, h, _, _, _ => nomatch h
  | x :: l, hn, a, ha, b, hb, e => by
    rw [List.map_cons] at hn
    obtain ⟨h1, h2⟩ := List.nodup_cons.mp hn
    rcases List.mem_cons.mp ha with ea | ha
    · rcases List.mem_cons.mp hb with eb | hb
      · rw [ea, eb]
      · exact absurd (List.mem_map.mpr ⟨b, hb, by rw [← e, ea]⟩) h1
    · rcases List.mem_cons.mp hb with eb | hb
      · exact absurd (List.mem_map.mpr ⟨a, ha, by rw [e, eb]⟩) h1
      · exact map_inj_nodup h2 a ha b hb e
theorem sw_trueD {key val : Expr} {gs : List Comprehension} {scope : Scope} {pos py : Pos} {y : Str} {l : Nat} {env : Env} (hk : env.scope.kind = .function) (hy : env.scope.names.lookup y = some .local) (hl : (py.line == pos.line) = true)
    (ha : (scope.names.any fun (n, k) => n == y && (k == .local || k == .cell)) = false) : swapsWith (.DictComp key val gs scope pos) (some (.Name y py)) l env = pure true :=
  (show swapsWith (.DictComp key val gs scope pos) (some (.Name y py)) l env = swapsWith (.ListComp key gs scope pos) (some (.Name y py)) l env from rfl).trans (sw_true hk hy hl ha)
theorem op_powB {X : Cx} : OpR X (binaryOp .Pow) (rI (fun i j => 0 ≤ j ∧ (Builtin.Int.intBits i : Int) * j ≤ 2 ^ 27) fun i j => .int (i ^ j.toNat)) := opI fun _ _ _ _ _ _ _ hc q => pow_int hc.1 hc.2 q
theorem b64 {i : Int} (h0 : 0 ≤ i) (h1 : i < 2147483647) : -(2 ^ 64) < i ∧ i < 2 ^ 64 := ⟨by omega, by omega⟩
/-- a purse: three numbers -/
def Pur (H : Hp) (p : Addr) (c : Int) : Prop := ∃ a b e : Int, H p = some (.lst [.int a, .int b, .int e]) ∧ 0 ≤ a ∧ 0 ≤ b ∧ b < 2147483647 ∧ 0 ≤ e ∧ e ≤ c
def subsR : W → List W
  | [] => [[]]
  | x :: r => subsR r ++ (subsR r).map fun t => t ++ [x]
def subs (ns : W) : List W := subsR ns.reverse
theorem mem_subsR : ∀ {r t : W}, t ∈ subsR r ↔ t.Sublist r.reverse
  | [], t => by
    rw [subsR, List.mem_singleton, List.reverse_nil, List.sublist_nil]
  | x :: r, t => by
    rw [subsR, List.mem_append, List.mem_map, List.reverse_cons, List.sublist_append_iff]
    constructor
    · rintro (h | ⟨s, hs, rfl⟩)
      · exact ⟨t, [], by simp, mem_subsR.mp h, by simp⟩
      · exact ⟨s, [x], rfl, mem_subsR.mp hs, List.Sublist.refl _⟩
    · rintro ⟨a, b, rfl, ha, hb⟩
      cases hb with
      | cons _ h =>
        left
        rw [List.sublist_nil.mp h, List.append_nil]
        exact mem_subsR.mpr ha
      | cons_cons _ h =>
        right
        exact ⟨a, mem_subsR.mpr ha, by rw [List.sublist_nil.mp h]⟩
theorem mem_subs {ns t : W} : t ∈ subs ns ↔ t.Sublist ns := by
  unfold subs
  rw [mem_subsR, List.reverse_reverse]
theorem subsR_nodup : ∀ {r : W}, r.Nodup → (subsR r).Nodup
  | [], _ => by simp [subsR]
  | x :: r, h => by
    obtain ⟨h1, h2⟩ := List.nodup_cons.mp h
    have ih := subsR_nodup h2
    rw [subsR]
    refine List.nodup_append.mpr ⟨ih, ?_, fun a ha b hb e => ?_⟩
    · exact List.Pairwise.map _ (fun a b (hab : a ≠ b) (e : a ++ [x] = b ++ [x]) => hab (List.append_cancel_right e)) ih
    · subst e
      obtain ⟨s, hs, rfl⟩ := List.mem_map.mp hb
      have z := (mem_subsR.mp ha).subset (List.mem_append_right s (List.mem_singleton.mpr rfl))
      exact h1 (List.mem_reverse.mp z)
theorem subs_nodup {ns : W} (h : ns.Nodup) : (subs ns).Nodup := subsR_nodup (List.pairwise_reverse.mpr (h.imp fun hne e => hne e.symm))
theorem subsR_len : ∀ r : W, (subsR r).length = 2 ^ r.length
  | [] => rfl
  | x :: r => by
    rw [subsR, List.length_append, List.length_map, subsR_len r, List.length_cons, Nat.pow_succ]
    omega
theorem subs_len (ns : W) : (subs ns).length = 2 ^ ns.length := by
  unfold subs
  rw [subsR_len, List.length_reverse]
theorem subs_snoc (ns : W) (x : Str) : subs (ns ++ [x]) = subs ns ++ (subs ns).map fun t => t ++ [x] := by
  unfold subs
  rw [List.reverse_append, List.reverse_singleton]
  rfl
theorem sub_mem {a b : W} (h : sub a b = true) : ∀ x ∈ a, x ∈ b := fun x hx => by
  unfold sub at h
  exact of_decide_eq_true (List.all_eq_true.mp h x hx)
theorem sub_of {a b : W} (h : ∀ x ∈ a, x ∈ b) : sub a b = true := by
  unfold sub
  exact List.all_eq_true.mpr fun x hx => decide_eq_true (h x hx)
/-- the parts of a world are the worlds within it -/
theorem parts_iff {ns t : W} (h : IsW ns) : t ∈ subs ns ↔ IsW t ∧ sub t ns = true := by
  rw [mem_subs]
  constructor
  · intro s
    exact ⟨⟨fun x hx => h.names x (s.subset hx), h.up.sublist s, Nat.le_trans s.length_le h.few⟩, sub_of fun x hx => s.subset hx⟩
  · rintro ⟨hw, hs⟩
    have e : ns.filter (fun x => decide (x ∈ t)) = t := upX_one (h.up.sublist List.filter_sublist) hw.up fun a => by
      rw [List.mem_filter, decide_eq_true_iff]
      exact ⟨fun z => z.2, fun z => ⟨sub_mem hs a z, z⟩⟩
    rw [← e]
    exact List.filter_sublist
/-- the list of worlds at l -/
def WL (K : PySem.W.Frag) (H : Hp) (l : Addr) (S : List W) : Prop := ∃ ys, H l = some (.lst ys) ∧ DpAll K H ys (S.map wd)
theorem WL.same {K : PySem.W.Frag} {H H' : Hp} {l : Addr} {R : List W} (h : WL K H l R) (e : Same H H') : WL K H' l R := by
  obtain ⟨xs, h1, h2⟩ := h
  exact ⟨xs, e _ _ h1, (Stay.same e).dpAll _ _ (okDs_wd R) h2⟩
theorem all_wd : ∀ {ds : List PyData}, (∀ d ∈ ds, ∃ p, d = wd p) → ∃ R : List W, ds = R.map wd
  | [], _ => ⟨[], rfl⟩
  | d :: ds, h => by
    obtain ⟨p, rfl⟩ := h d List.mem_cons_self
    obtain ⟨R, rfl⟩ := all_wd fun e he => h e (List.mem_cons_of_mem _ he)
    exact ⟨p :: R, rfl⟩
theorem perm_of_map {α β : Type} {f : α → β} (inj : ∀ a b, f a = f b → a = b) : ∀ {l m : List α}, (l.map f).Perm (m.map f) → l.Perm m := by
  intro l m h
  classical
  refine List.perm_iff_count.mpr fun a => ?_
  have z := List.perm_iff_count.mp h (f a)
  have c : ∀ k : List α, List.count (f a) (k.map f) = List.count a k := fun k => by
    induction k with
    | nil => rfl
    | cons x k ih =>
      rw [List.map_cons, List.count_cons, List.count_cons, ih]
      by_cases e : x = a
      · subst e
        simp
      · have e' : f x ≠ f a := fun z => e (inj _ _ z)
        simp [e, e']
  rw [c, c] at z
  exact z
theorem shaped_strs {ns : W} (h : ∀ x ∈ ns, nameB x = true) : SeqAt.shaped (.list (ns.map .str)) = true := by
  unfold SeqAt.shaped
  rw [PyData.canLay0, lay_strs h, PyData.depth, depth_str]
  rfl
theorem first_map {α β γ : Type} {f : β → Option γ} {g : α → β} : ∀ {l : List α}, (l.map g).findSome? f = l.findSome? fun a => f (g a)
  | [] => rfl
  | a :: l => by
    rw [List.map_cons, List.findSome?_cons, List.findSome?_cons, first_map (l := l)]
theorem first_filter {α γ : Type} {f : α → Option γ} {p : α → Bool} : ∀ {l : List α}, (l.filter p).findSome? f = l.findSome? fun a => if p a = true then f a else none
  | [] => rfl
  | a :: l => by
    rw [List.findSome?_cons, ← first_filter (l := l)]
    by_cases h : p a = true
    · rw [List.filter_cons_of_pos h, List.findSome?_cons, if_pos h]
    · rw [List.filter_cons_of_neg h, if_neg h]
theorem first_congr {α γ : Type} {f g : α → Option γ} {l : List α} (h : ∀ a ∈ l, f a = g a) : l.findSome? f = l.findSome? g := by
  induction l with
  | nil => rfl
  | cons a l ih =>
    rw [List.findSome?_cons, List.findSome?_cons, h a List.mem_cons_self, ih fun b hb => h b (List.mem_cons_of_mem _ hb)]
theorem sub_self (t : W) : sub t t = true := sub_of fun _ h => h
theorem sub_trans {a b c : W} (h : sub a b = true) (h2 : sub b c = true) : sub a c = true := sub_of fun x hx => sub_mem h2 x (sub_mem h x hx)
theorem room65 {k : Nat} {A : Around} (hr : Room k A) : A.units + 65 < cLine := by
  have := hr.un
  omega
theorem len_le {α : Type} [DecidableEq α] : ∀ {l m : List α}, l.Nodup → (∀ z ∈ l, z ∈ m) → l.length ≤ m.length
  | [], _, _, _ => Nat.zero_le _
  | x :: l, m, hn, hs => by
    obtain ⟨h1, h2⟩ := List.nodup_cons.mp hn
    have hx : x ∈ m := hs x List.mem_cons_self
    have ih := len_le (l := l) (m := m.erase x) h2 fun y hy => (List.mem_erase_of_ne (show y ≠ x from fun e => h1 (by rw [← e]; exact hy))).2 (hs y (List.mem_cons_of_mem _ hy))
    rw [List.length_erase_of_mem hx] at ih
    have := List.length_pos_of_mem hx
    rw [List.length_cons]
    omega
theorem prod_len {α β : Type} (m : List β) : ∀ l : List α, (l.flatMap fun a => m.map fun b => (a, b)).length = l.length * m.length
  | [] => by simp
  | a :: l => by
    rw [List.flatMap_cons, List.length_append, prod_len m l, List.length_map, List.length_cons, Nat.succ_mul]
    omega
theorem prod_mem {α β : Type} {l : List α} {m : List β} {a : α} {b : β} (ha : a ∈ l) (hb : b ∈ m) : (a, b) ∈ l.flatMap fun a => m.map fun b => (a, b) :=
  List.mem_flatMap.mpr ⟨a, ha, List.mem_map.mpr ⟨b, hb, rfl⟩⟩
def meet (ns ms : W) : W := ns.filter fun z => decide (z ∈ ms)
theorem isW_meet {a b : W} (h : IsW a) : IsW (meet a b) := ⟨fun x hx => h.names x (List.mem_filter.mp hx).1, h.up.sublist List.filter_sublist, Nat.le_trans (List.length_filter_le _ _) h.few⟩
theorem nodup_snoc {α : Type} {L : List α} {p : α} (n : L.Nodup) (h : p ∉ L) : (L ++ [p]).Nodup := List.nodup_append.mpr ⟨n, by simp, fun a ha b hb e => by
  rw [List.mem_singleton] at hb
  subst hb
  exact h (e ▸ ha)⟩
def Bar (p : Addr) (H H' : Hp) : Prop := ∀ b u, b ≠ p → H b = some u → H' b = some u
theorem Bar.same {p : Addr} {H H' : Hp} (h : Same H H') : Bar p H H' := fun b u _ e => h b u e
theorem Bar.trans {p : Addr} {H H1 H2 : Hp} (a : Bar p H H1) (b : Bar p H1 H2) : Bar p H H2 := fun c u n e => b c u n (a c u n e)
theorem Bar.draw {p : Addr} {H : Hp} {o : HO} : Bar p H (upd H p o) := fun b u n e => by
  rw [upd_ne n]
  exact e
theorem Bar.put {p l : Addr} {H H' : Hp} (h : Bar p H H') (n : H l = none) {o : HO} : Bar p H (upd H' l o) := fun b u nb e => by
  rw [upd_ne (ne_of_none e n)]
  exact h b u nb e
theorem Pur.mut {H : Hp} {p : Addr} {c : Int} (h : Pur H p c) : Mut (H p) := by
  obtain ⟨a, b, e, h, _⟩ := h
  rw [h]
  exact True.intro
theorem Pur.some {H : Hp} {p : Addr} {c : Int} (h : Pur H p c) {q : Addr} (n : H q = none) : q ≠ p := fun e => by
  obtain ⟨a, b, e', h, _⟩ := h
  rw [e, h] at n
  cases n
theorem Pur.same {H H' : Hp} {p : Addr} {c : Int} (h : Pur H p c) (e : Same H H') : Pur H' p c := by
  obtain ⟨a, b, e', h, g⟩ := h
  exact ⟨a, b, e', e _ _ h, g⟩
theorem Pur.put {H : Hp} {p l : Addr} {c : Int} (h : Pur H p c) (n : l ≠ p) {o : HO} : Pur (upd H l o) p c := by
  obtain ⟨a, b, e', h, g⟩ := h
  refine ⟨a, b, e', ?_, g⟩
  rw [upd_ne n.symm]
  exact h
theorem Pur.le {H : Hp} {p : Addr} {c d : Int} (h : Pur H p c) (l : c ≤ d) : Pur H p d := by
  obtain ⟨a, b, e', h, g1, g2, g3, g4, g5⟩ := h
  exact ⟨a, b, e', h, g1, g2, g3, g4, Int.le_trans g5 l⟩
theorem Bar.stay {p : Addr} {H H' : Hp} (h : Bar p H H') (m : Mut (H p)) : Stay H H' := fun b xs r => by
  have ne : b ≠ p := fun z => by
    subst z
    rcases r with r | ⟨u, r⟩
    · rw [r] at m; exact m
    · rw [r] at m; exact m
  rcases r with r | ⟨o, r⟩
  · exact .inl (h _ _ ne r)
  · exact .inr ⟨o, h _ _ ne r⟩
theorem idx_new' {α : Type} {ds : List α} (hn : ds.Nodup) {i : Nat} {d : α} (h : ds[i]? = some d) : d ∉ ds.take i := fun hm => by
  have z := take_snoc h
  have nd : (ds.take (i + 1)).Nodup := List.Nodup.sublist (List.take_sublist _ _) hn
  rw [z] at nd
  obtain ⟨_, _, h3⟩ := List.nodup_append.mp nd
  exact h3 d hm d (List.mem_singleton.mpr rfl) rfl
theorem evalArgs_kw0 {M : Model} {A : Around} {E : Value → Shared → Prop} {s : Shared} {f : Value} {kwl : List (Option Str × Sem Value)} {Q : Args → Shared → Prop} (hall : (kwl.all fun x => x.1.isSome) = true)
    (h : wpAny M A (evalAll (kwl.map fun x => x.2)) (fun ks s₂ => Q { pos := [], kw := (kwl.filterMap fun x => x.1).zip ks } s₂) E s) : wpAny M A (evalArgs f true [] kwl) Q E s := by
  unfold evalArgs
  refine wpAny_bind (Calls.spliced_nil ?_)
  refine wpAny_bind (wpAny_pure ?_)
  refine wpAny_holding ?_
  rw [if_pos hall]
  refine wpAny_bind (wpAny_mono h (fun ks s2 q => ?_) fun _ _ e => e)
  exact wpAny_bind (wpAny_pure (wpAny_pure q))
theorem pe_callK0 {X : Cx} {CX : CXT} {k : Nat} {f : Addr} {fd : FuncData} {ps ks : List Str} {sp : Sp} {E : XK} {x : Str} {p pos : Pos} {kws : List Keyword} {tk : TA} {g : List Value → List Value → List Value} {gV : List V → List V → List V}
    (F : FnOk X.prog X.w X.K X.mg X.base CX k f fd ps sp) (hr : Room k X.A) (hg : Gl X x) (hm : X.mg x = some (.ref f)) (hk : PySem.W.keepIn X.K (.ref f) = true) (hb : KBn X.K fd ps 0 ks g gV) (hx : Passes CX X E) (hkw : PK X kws tk)
    (hall : ((backToKw pos (keywordEach kws X.env)).all fun x => x.1.isSome) = true) (hks : (backToKw pos (keywordEach kws X.env)).filterMap (fun x => x.1) = ks) (hdb : (x == ("__debug__" : Str)) = false)
    (hpl : ((([] : List (Bool × Sem Value)).any fun x => x.1) || (backToKw pos (keywordEach kws X.env)).any fun x => x.1.isNone) = false) (hst : backTo pos (starEach [] X.env) = []) :
    PE X (.Call (.Name x p) [] kws pos) (fun σ H Q => tk σ H fun zs H1 => zs.length = ks.length ∧ sp (gV [] zs) H1 Q E) := by
  refine ⟨fun pins s σ H Q I h => wpAny_Call_Name_kw (ld_glob I hg hm ?_ hdb)⟩
  rw [hst]
  refine PySem.W.callWith_of hpl (PySem.W.keeps_K hk) (evalArgs_kw0 hall (thn (hkw.run pos pins s σ H (fun zs H1 => zs.length = ks.length ∧ sp (gV [] zs) H1 Q E) I h) fun ws s2 ⟨zs, H2, I2, rz, l2, q2⟩ => ⟨Inv.kIn I2, ?_⟩))
  rw [hks]
  exact run_fnN F hr hb hx I2 .nil rz rfl l2 q2
def tMid (t u : TS) : TS := fun D σ H => ∃ I : L2.St → Hp → Prop, t { nx := I, rt := D.rt, bk := D.bk, ct := D.ct } σ H ∧ ∀ σ' H', I σ' H' → u D σ' H'
/-- the first statement up to a mark of one's own, then the rest from it -/
theorem pss_mid {X : Cx} {st : Stmt} {rest : List Stmt} {t u : TS} (h1 : PS X st t) (h2 : PSs X rest u) : PSs X (st :: rest) (tMid t u) := by
  refine ⟨fun pins s σ H D I ⟨J, a, b⟩ => ?_⟩
  refine wpAny_execs_cons (thn (h1.run pins s σ H _ I a) fun f s1 q => ?_)
  cases f with
  | next =>
    obtain ⟨σ', H', I', q⟩ := q
    exact h2.run pins s1 σ' H' D I' (b σ' H' q)
  | brk => exact q
  | cont => exact q
  | ret v => exact q
/-- a def with defaults, called by names -/
theorem kbn_def {K : PySem.W.Frag} {x qual : Str} {params : Arguments} {body : List Stmt} {scope : Scope} {dvs : List V} {kws : List (Str × V)} {f : Addr} {fd : FuncData} {ps : List Str} (F : FunD K x qual params body scope dvs kws f fd) (hd : dvs ≠ []) (n : Nat) (ks : List Str) (g : List Value → List Value → List Value → List Value) (gV : List V → List V → List V)
    (h : ∀ (T : Addr) (kV doc pm : Value) (an : Option Addr) (cdv ct : Value) (us its ws : List Value), us.length = n → its.length = dvs.length → ws.length = ks.length → ∃ k, bindArgs (PySem.W.fnOf x qual params body scope (.ref T) kV doc pm an cdv ct) { pos := us, kw := ks.zip ws } = seqItems? (.ref T) >>= k ∧ k (some its.toArray) = pure (ps.zip (g us its ws)))
    (rel : ∀ {vs : List V} {us its : List Value} {zs : List V} {ws : List Value}, Vals vs us → Vals dvs its → Vals zs ws → Vals (gV vs zs) (g us its ws)) : ∃ its, Vals dvs its ∧ KBn K fd ps n ks (fun us ws => g us its ws) gV := by
  obtain ⟨oc, od, dV, kV, doc, pm, an, cdv, ct, osl, rfl, lk, hcd, hD, hK⟩ := F.ex
  rcases hD with ⟨e, _⟩ | ⟨_, T, o, its, m, rfl, lT, oT, rT⟩
  · exact absurd e hd
  · refine ⟨its, rT, ⟨fun s us ws X l1 l2 => ?_, fun a b => rel a rT b⟩⟩
    intro M A E Q q
    obtain ⟨k, e1, e2⟩ := h T kV doc pm an cdv ct us its ws l1 rT.length.symm l2
    rw [e1]
    refine wpAny_bind (wpAny_seqItems (X T o lT) oT ?_)
    rw [e2]
    exact wpAny_pure q
theorem shaped_of {d : PyData} (h : d.canLay0 = true) (n : d.depth ≤ 64) : SeqAt.shaped d = true := by
  unfold SeqAt.shaped
  rw [h, decide_eq_true n]
  rfl
theorem eqv_self {d : PyData} (h : SeqAt.shaped d = true) : PyData.eqv d d = true := by
  unfold SeqAt.shaped at h
  rw [Bool.and_eq_true] at h
  exact SeqAt.eqv_refl d h.1
theorem dpAll_drop {K : PySem.W.Frag} {H : Hp} : ∀ {xs : List V} {ds : List PyData} (n : Nat), DpAll K H xs ds → DpAll K H (xs.drop n) (ds.drop n)
  | _, _, 0, h => h
  | _, _, _ + 1, .nil => .nil
  | _, _, n + 1, .cons _ t => dpAll_drop n t
theorem dpAll_take {K : PySem.W.Frag} {H : Hp} : ∀ {xs : List V} {ds : List PyData} (n : Nat), DpAll K H xs ds → DpAll K H (xs.take n) (ds.take n)
  | _, _, 0, _ => by
    rw [List.take_zero, List.take_zero]
    exact .nil
  | _, _, _ + 1, .nil => .nil
  | _, _, n + 1, .cons h t => .cons h (dpAll_take n t)
theorem dpAll_rev {K : PySem.W.Frag} {H : Hp} : ∀ {xs : List V} {ds : List PyData}, DpAll K H xs ds → DpAll K H xs.reverse ds.reverse
  | _, _, .nil => .nil
  | _, _, .cons h t => by
    rw [List.reverse_cons, List.reverse_cons]
    exact dpAll_app (dpAll_rev t) (.cons h .nil)
theorem dpAll_erase {K : PySem.W.Frag} {H : Hp} : ∀ {xs : List V} {ds : List PyData} (n : Nat), DpAll K H xs ds → DpAll K H (xs.eraseIdx n) (ds.eraseIdx n)
  | _, _, 0, .cons _ t => t
  | _, _, _ + 1, .cons h t => .cons h (dpAll_erase _ t)
  | _, _, _, .nil => .nil
theorem map_erase {α β : Type} (f : α → β) : ∀ (l : List α) (n : Nat), (l.map f).eraseIdx n = (l.eraseIdx n).map f
  | [], _ => rfl
  | _ :: _, 0 => rfl
  | a :: l, n + 1 => congrArg (f a :: ·) (map_erase f l n)
theorem none_bar {p l : Addr} {H H' : Hp} {c : Int} (b : Bar p H H') (pu : Pur H' p c) (n : H' l = none) : H l = none := by
  have ne := pu.some n
  cases e : H l with
  | none => rfl
  | some u =>
    rw [b l u ne e] at n
    cases n
theorem vals_app : ∀ {xs ys : List V} {us ws : List Value}, Vals xs us → Vals ys ws → Vals (xs ++ ys) (us ++ ws)
  | _, _, _, _, .nil, h => h
  | _, _, _, _, .cons r t, h => .cons r (vals_app t h)
theorem fun_of {K : PySem.W.Frag} {x qual : Str} {st : Stmt} {f : Addr} {fd : FuncData} (F : FunD K x qual (defArgs st) (defBody st) (defScope st) [] [] f fd) : Fun K x qual st f fd := by
  obtain ⟨oc, od, dV, kV, doc, pm, an, cdv, ct, osl, e, lk, hcd, hD, hK⟩ := F.ex
  rcases hD with ⟨_, rfl⟩ | ⟨h, _⟩
  · exact ⟨⟨oc, od, kV, doc, pm, an, cdv, ct, osl, e, lk, hcd⟩, F.kp⟩
  · exact absurd rfl h
end Rw
namespace Rw
open PySem PySem.Spec PyProof.Rows L2
/-! ### enumerate of a tuple -/
theorem meets_enumT (l : Addr) (items : Array Value) : Meets (Builtin.«enumerate.__new__» { pos := [Value.type "enumerate", Value.ref l] }) fun _ R s =>
    s.heap.IsTuple l items ∧ R (Except.ok (Flow.ret (Value.ref (s.heap.push { cls := Value.type "tuple_iterator", data := Data.fields #[Value.ref l, Value.int 0 0] }).objs.size)))
        { heap := (s.heap.push { cls := Value.type "tuple_iterator", data := Data.fields #[Value.ref l, Value.int 0 0] }).push
              { cls := Value.type "enumerate", data := Data.fields #[Value.none, Value.bool false, Value.ref s.heap.objs.size, rawInt 0, Value.none, Value.none] },
          gens := s.gens, drawn := s.drawn, toks := s.toks, os := s.os } := by
  refine Meets.of_wp fun prog w A R s h => ?_
  obtain ⟨hl, h⟩ := h
  have hsub := sub_enumerate
  unfold Builtin.«enumerate.__new__»
  refine wpAny_bind ?_
  unfold Builtin.SmallTypes.newClass
  refine wpAny_bind (wpAny_pure (wpAny_ite_false rfl (wpAny_bind (wpAny_of_eq hsub (wpAny_ite_false rfl (wpAny_pure (wpAny_ite_true rfl (wpAny_bind ?_))))))))
  unfold Builtin.SmallTypes.calledThroughType
  refine wpAny_bind (wpAny_stack_any fun st => wpAny_pure ?_)
  have fin : wpAny (model prog w) A.in1 (do
      let it ← pyIter (.ref l)
      let r ← Builtin.SmallTypes.newRecord (.type "enumerate") (Builtin.SmallTypes.ownedTupleFields ++ [it, rawInt 0, Value.none, Value.none])
      ret r) (fun fin s' => ∃ v, fin = Fin.done (Flow.ret v) ∧ R (Except.ok (Flow.ret v)) s') (fun e s' => R (Except.error e) s') s := by
    refine wpAny_bind (wpAny_pyIter_tuple hl ?_)
    refine wpAny_bind ?_
    unfold Builtin.SmallTypes.newRecord
    refine wpAny_bind (wpAny_alloc ?_)
    refine wpAny_pure ?_
    exact wpAny_pure ⟨_, rfl, h⟩
  split
  · generalize (_ == Value.type "enumerate") = b
    cases b
    · refine wpAny_ite_false rfl (wpAny_bind (wpAny_of_eq (a := (Value.ref l, none)) rfl fin))
    · refine wpAny_ite_true rfl (wpAny_bind (wpAny_of_eq (a := (Value.ref l, none)) rfl fin))
  · refine wpAny_ite_false rfl (wpAny_bind (wpAny_of_eq (a := (Value.ref l, none)) rfl fin))
theorem call_enumT {prog : Program} {w : World} {A : Around} {E : Value → Shared → Prop} {s : Shared} {l : Addr} {items : Array Value} {Q : Value → Shared → Prop} (hT : s.heap.IsTuple l items)
    (h : ∀ h' : Heap, IsEnum h' (s.heap.objs.size + 1) s.heap.objs.size 0 Value.none → h'.IsTupleIter s.heap.objs.size l 0 → h'.objs.size = s.heap.objs.size + 2 → (∀ (b : Addr) (o : Obj), s.heap.get? b = some o → h'.get? b = some o) →
      Q (.ref (s.heap.objs.size + 1)) { heap := h', gens := s.gens, drawn := s.drawn, toks := s.toks, os := s.os }) : wpAny (model prog w) A (call (.type "enumerate") [.ref l]) Q E s := by
  refine callType_new F.called_enumerate (by decide) (F.typeCall_enumerate_1 (.ref l)) (F.newCall_enumerate_1 (.ref l)) (fun obj => F.args_object_init_2 obj (.ref l)) F.entry_enumerate_new (meets_enumT l items) ⟨hT, ?_⟩
  have hz := Heap.size_push s.heap { cls := .type "tuple_iterator", data := .fields #[.ref l, .int 0 0] }
  show _ ∧ _
  rw [hz]
  have he := Heap.get?_push_size (s.heap.push { cls := .type "tuple_iterator", data := .fields #[.ref l, .int 0 0] }) (o := { cls := .type "enumerate", data := .fields #[.none, .bool false, .ref s.heap.objs.size, rawInt 0, .none, .none] }) rfl
  rw [hz] at he
  refine ⟨⟨_, he, rfl⟩, h _ he ⟨_, Heap.get?_push_of_some _ (Heap.get?_push_size s.heap rfl), rfl, rfl⟩ ?_ fun b o e => Heap.get?_push_of_some _ (Heap.get?_push_of_some _ e)⟩
  rw [Heap.size_push, hz]
/-- enumerate of a tuple: what it gives -/
def Ietup (K : PySem.W.Frag) (a : Addr) : It where
  go := fun i H => ∃ xs x, SqT K H a xs ∧ xs[i]? = some x
  yld := fun i H v H' => ∃ T x, v = .ref T ∧ H T = none ∧ H' = upd H T (.tup [.int (i : Int), x]) ∧ ∀ xs, SqT K H a xs → xs[i]? = some x
  stop := fun i H => ∃ xs, SqT K H a xs ∧ xs.length = i
theorem tup_enum_ne {h : Heap} {a e it : Addr} {items : Array Value} {i : Int} {old : Value} (ht : h.IsTuple a items) (he : IsEnum h e it i old) : e ≠ a := fun z => by
  obtain ⟨o, h1, h2, _⟩ := ht
  rw [← z, he] at h1
  cases h1
  exact absurd (show Value.type "enumerate" = Value.type "tuple" from h2) (by decide)
theorem tup_iter_ne {h : Heap} {a it l : Addr} {items : Array Value} {i : Nat} (ht : h.IsTuple a items) (he : h.IsTupleIter it l i) : a ≠ it := fun z => by
  obtain ⟨o, h1, h2, _⟩ := ht
  obtain ⟨o', h3, h4, _⟩ := he
  rw [z, h3] at h1
  cases h1
  rw [h4] at h2
  exact absurd h2 (by decide)
theorem turn_enumT {P : Program} {w : World} {K : PySem.W.Frag} {elts : List Expr} {kk : Nat} {tpos : Pos} (a e it : Addr) : Turn P w K (.Tuple elts kk tpos) (Ietup K a) [e, it] e (fun i h => (∃ old, IsEnum h e it (i : Int) old) ∧ h.IsTupleIter it a i ∧ e ≠ it) := by
  refine ⟨by simp, fun i h st b hb => ?_, fun i h h' st k => ?_, fun X hP hw hK hc i pins s σ H E I hf st hg => ?_, fun X hP hw hK hc i pins s σ H E I hf st hg => ?_, fun A i s Q E st h => ?_⟩
  · obtain ⟨⟨old, he⟩, ⟨o, ho, hcl, hd⟩, _⟩ := st
    rcases List.mem_cons.mp hb with z | hb
    · subst z
      exact ⟨_, he, fun v q => nomatch q⟩
    · rw [List.mem_singleton.mp hb]
      refine ⟨o, ho, fun v q => ?_⟩
      rw [hd] at q
      cases q
  · obtain ⟨⟨old, he⟩, hi, hne⟩ := st
    exact ⟨⟨old, k e (by simp) _ he⟩, hi.at fun o q => k it (by simp) o q, hne⟩
  · subst hP hw hK
    obtain ⟨⟨old, he⟩, hit, hne⟩ := st
    obtain ⟨xs, x, hq, hx⟩ := hg
    obtain ⟨its, rv, p, hz⟩ := I.tuple hq
    have ht : s.heap.IsTuple a its.toArray := p
    have ea := tup_enum_ne ht he
    have ai := tup_iter_ne ht hit
    have hl := rv.length
    have hin : i < its.toArray.size := by
      rw [List.size_toArray, ← hl]
      exact (List.getElem?_eq_some_iff.mp hx).1
    refine wpAny_pyNext_enum_itemD (Draws.tuple (A := X.A.in1) (I.ok.hd hc) it a ai its.toArray) he ⟨hit, ht⟩ hin hne (by simp [hne, ea]) fun u h' tk hu ho st' hT hsz hk => ⟨.ref s.heap.objs.size, rfl, ?_⟩
    refine wpAny_letOwnedTupleGo_enum ho fun h'' he' sb => ?_
    have hel : e < s.heap.objs.size := Heap.lt_size he
    have hil : it < s.heap.objs.size := by
      obtain ⟨o, ho, _⟩ := hit
      exact Heap.lt_size ho
    have hT2 : h''.get? s.heap.objs.size = _ := (sb.2 s.heap.objs.size (Nat.ne_of_gt hel)).trans hT
    have hu' : its[i]? = some u := by simpa using hu
    obtain ⟨x', hx', ru⟩ := vals_at rv hu'
    have exx : x' = x := Option.some.inj (hx'.symm.trans hx)
    subst exx
    have new : ObjOk X.prog X.w (upd H s.heap.objs.size (.tup [.int (i : Int), x'])) h'' s.heap.objs.size (.tup [.int (i : Int), x']) :=
      ⟨by show 2 ≤ sizeLine; decide, [.int (i : Int) tk, u], .cons ⟨tk, rfl⟩ (.cons ru .nil), ⟨_, hT2, rfl, 0, rfl⟩⟩
    have kept : ∀ (b : Addr) (o : Obj), b ∉ [e, it] → s.heap.get? b = some o → h''.get? b = some o := fun b o hb q => by
      have n1 : b ≠ e := fun z => hb (by simp [z])
      have n2 : b ≠ it := fun z => hb (by simp [z])
      exact (sb.2 b n1).trans (hk b o n1 n2 q)
    have I1 := I.turnedNew (t' := tk + 1) kept hf (Nat.le_refl _) new
    refine ⟨.ref s.heap.objs.size, _, I1, rfl, ⟨s.heap.objs.size, x', rfl, I.hok.fresh (Nat.le_refl _), rfl, fun ys hy => ?_⟩, ⟨⟨u, ?_⟩, st'.1.at fun o q => (sb.2 it hne.symm).trans q, hne⟩, fun b hb => ?_⟩
    · obtain ⟨its2, rv2, p2, _⟩ := I.tuple hy
      have ht2 : s.heap.IsTuple a its2.toArray := p2
      have ei : its2.toArray = its.toArray := by
        obtain ⟨o, a1, a2, n, a3⟩ := ht
        obtain ⟨o', b1, b2, n', b3⟩ := ht2
        rw [a1] at b1
        cases b1
        rw [a3] at b3
        cases b3
        rfl
      have ei' : its2 = its := by
        have := congrArg Array.toList ei
        simpa using this
      subst ei'
      obtain ⟨y, hy1, ry⟩ := vals_at rv2 hu'
      rw [RelV.inj ru ry]
      exact hy1
    · have e1 : ((i : Int) + 1) = ((i + 1 : Nat) : Int) := rfl
      rw [← e1]
      exact he'
    · have hb' : b < s.heap.objs.size := by
        rcases List.mem_cons.mp hb with z | hb
        · rw [z]
          exact hel
        · rw [List.mem_singleton.mp hb]
          exact hil
      rw [upd_ne (Nat.ne_of_lt hb')]
      exact (hf b hb).1
  · subst hP hw hK
    obtain ⟨⟨old, he⟩, hit, hne⟩ := st
    obtain ⟨xs, hq, hx⟩ := hg
    obtain ⟨its, rv, p, hz⟩ := I.tuple hq
    have ht : s.heap.IsTuple a its.toArray := p
    have ai := tup_iter_ne ht hit
    obtain ⟨f0, f1, f2, f3, f4, f5⟩ := hf it (by simp)
    have sz : its.toArray.size = i := by rw [List.size_toArray, ← rv.length, hx]
    refine wpAny_pyNext_enum_endD (Draws.tuple (A := X.A.in1) (I.ok.hd hc) it a ai its.toArray) he ⟨by rw [sz]; exact hit, ht⟩ fun h' eb => ⟨rfl, I.turned (fun b o hb q => eb b o hb q) f0 f1 f3 f4 f5⟩
  · obtain ⟨⟨_, he⟩, _⟩ := st
    exact wpAny_pyIter_enum he h
def iEnumT (K : PySem.W.Frag) (ta : TA) : TI := fun σ H R => ta σ H fun vs H1 => ∃ a xs, vs = [.ref a] ∧ SqT K H1 a xs ∧ R (Ietup K a) H1
theorem pi_enumT {X : Cx} {e : Expr} {ta : TA} {p pos tpos : Pos} {elts : List Expr} {kk : Nat} (hg : Gl X "enumerate") (hm : X.mg "enumerate" = none) (ha : PA X [e] ta) (hs : starEach [e] X.env = [(false, eval e X.env)] := by rfl) : PI X (.Tuple elts kk tpos) (.Call (.Name "enumerate" p) [e] [] pos) (iEnumT X.K ta) := by
  refine ⟨fun pins s σ H R I h => Call_ (ld_blt I hg hm boot_enumerate (PyProof.Rows.callWith_type1 (thn (ha.run pos pins s σ H _ I h) fun us s1 ⟨vs, H1, I1, r1, a, xs, ex, hq, q⟩ => ?_) hs rfl) (by decide) (by decide)) rfl⟩
  subst ex
  rw [Vals.ref1 r1]
  obtain ⟨its, rv, p', hz⟩ := I1.tuple hq
  refine call_enumT p' fun h' he hit hsz hk => ?_
  refine wpAny_pyIter_enum he ?_
  have I2 := I1.kept (t' := s1.toks) hk
  refine ⟨s1.heap.objs.size + 1, [s1.heap.objs.size + 1, s1.heap.objs.size], _, Ietup X.K a, H1, rfl, I2, turn_enumT a (s1.heap.objs.size + 1) s1.heap.objs.size, ⟨⟨_, he⟩, hit, Nat.succ_ne_self _⟩, fun b hb => ?_, q⟩
  rcases List.mem_cons.mp hb with z | hb
  · subst z
    exact I1.fpOk (Nat.le_succ _) (I1.hok.fresh (Nat.le_succ _))
  · rw [List.mem_singleton.mp hb]
    exact I1.fpOk (Nat.le_refl _) (I1.hok.fresh (Nat.le_refl _))
end Rw
namespace Rw
open PySem PySem.Spec PyProof.Rows L2
/-! ### walks over enumerate(tuple); instances made of starred arguments -/
theorem for_enumT {K : PySem.W.Frag} {a : Addr} {xs : List V} {g : TG} {tb : TS} {D : Ends} {σ : L2.St} {H : Hp} (Pv : Nat → L2.St → Hp → Prop) (h0 : Pv 0 σ H) (hl : ∀ i σ H, i ≤ xs.length → Pv i σ H → SqT K H a xs)
    (hs : ∀ i x σ H T, xs[i]? = some x → Pv i σ H → H T = none → g (.ref T) σ (upd H T (.tup [.int (i : Int), x])) fun σ2 H2 => tb { nx := Pv (i + 1), rt := D.rt, bk := D.nx, ct := Pv (i + 1) } σ2 H2) (hd : ∀ σ H, Pv xs.length σ H → D.nx σ H) :
    ∃ W : Nat → Nat → L2.St → Hp → Prop, (∃ m, W 0 m σ H) ∧ ∀ i m σ H, W i m σ H → ((Ietup K a).stop i H ∧ D.nx σ H) ∨ ((Ietup K a).go i H ∧ ∃ N : L2.St → Hp → Prop, (∀ σ' H', N σ' H' → ∃ m', m' < m ∧ W (i + 1) m' σ' H') ∧
      ∀ x H', (Ietup K a).yld i H x H' → g x σ H' fun σ2 H2 => tb { nx := N, rt := D.rt, bk := D.nx, ct := N } σ2 H2) := by
  refine ⟨fun i m σ H => m = xs.length - i ∧ i ≤ xs.length ∧ Pv i σ H, ⟨xs.length, by simp, Nat.zero_le _, h0⟩, ?_⟩
  rintro i m σ H ⟨rfl, hi, p⟩
  have hS := hl i σ H hi p
  by_cases hlt : i < xs.length
  · refine .inr ⟨⟨xs, xs[i], hS, List.getElem?_eq_getElem hlt⟩, Pv (i + 1), fun σ' H' p' => ⟨xs.length - (i + 1), by omega, rfl, hlt, p'⟩, fun y H' yy => ?_⟩
    obtain ⟨T, x, rfl, hT, rfl, hx⟩ := yy
    exact hs i x σ H T (hx xs hS) p hT
  · have e : i = xs.length := by omega
    subst e
    exact .inl ⟨⟨xs, hS, rfl⟩, hd σ H p⟩
def tMakeS (K : PySem.W.Frag) (C : Addr) (sp : Sp) (E : XK) (te : TE) : TE := fun σ H Q => te σ H fun y H1 => ∃ a xs, y = V.ref a ∧ (SqT K H1 a xs ∨ SqL K H1 a xs) ∧ ∀ x dx, H1 x = none → H1 dx = none → dx ≠ x → sp (V.ref x :: xs) (upd (upd H1 dx (.own x)) x (.ins C dx [])) (fun v H2 => v = .non ∧ Q (.ref x) H2) E
/-- C(*e), C a class of the module -/
theorem pe_makeS {X : Cx} {CX : CXT} {k : Nat} {f C : Addr} {sp : Sp} {E : XK} {x : Str} {e : Expr} {te : TE} {p sp_ pos : Pos} (M : Mk X.K C f) (F : FnR X.prog X.w X.K X.mg X.base CX k f sp) (hr : Room (k + 1) X.A) (hg : Gl X x) (hm : X.mg x = some (.ref C)) (hx : Passes CX X E) (he : PE X e te)
    (hd : (x == ("__debug__" : Str)) = false := by rfl) (hst : starEach [e.Starred sp_] X.env = [(true, eval e X.env)] := by rfl) : PE X (.Call (.Name x p) [.Starred e sp_] [] pos) (tMakeS X.K C sp E te) :=
  ⟨fun pins s σ H Q I h => wpAny_Call_Name_kw (ld_glob I hg hm (PySem.W.callWith_S I.ok.mod.kin M.kp (thn (he.run pins s σ H _ I h) fun v s1 ⟨y, H1, I1, ry, a, xs, ey, hxs, q⟩ => by
    subst ey
    obtain rfl : v = Value.ref a := ry
    exact StX.star_any I1 hxs fun us s2 I2 rv => ⟨Inv.kIn I2, StX.run_makeR M F hr hx I2 rv q⟩) hst) hd)⟩
/-- cls(*e), cls a local name that holds the class -/
theorem pe_makeSL {X : Cx} {CX : CXT} {k i : Nat} {f C : Addr} {sp : Sp} {E : XK} {x : Str} {e : Expr} {te : TE} {p sp_ pos : Pos} (M : Mk X.K C f) (F : FnR X.prog X.w X.K X.mg X.base CX k f sp) (hr : Room (k + 1) X.A) (hN : X.N[i]? = some x) (hv : Vis X.env.scope x) (hx : Passes CX X E) (he : PE X e te)
    (hd : (x == ("__debug__" : Str)) = false := by rfl) (hcd : (x == ("__classdict__" : Str)) = false := by rfl) (hst : starEach [e.Starred sp_] X.env = [(true, eval e X.env)] := by rfl) :
    PE X (.Call (.Name x p) [.Starred e sp_] [] pos) (fun σ H Q => σ[i]? = some (some (.ref C)) ∧ tMakeS X.K C sp E te σ H Q) := by
  refine ⟨fun pins s σ H Q I ⟨hs, h⟩ => wpAny_Call_Name_kw (thn ((pe_var hN hv hd hcd).run pins s σ H (fun v H1 => v = V.ref C ∧ H1 = H) I ⟨.ref C, hs, rfl, rfl⟩) fun u s1 ⟨v, H0, I1, r1, ev, eH⟩ => ?_)⟩
  subst ev eH
  obtain rfl : u = Value.ref C := r1
  exact PySem.W.callWith_S I1.ok.mod.kin M.kp (thn (he.run pins s1 σ _ _ I1 h) fun v s1 ⟨y, H1, I1, ry, a, xs, ey, hxs, q⟩ => by
    subst ey
    obtain rfl : v = Value.ref a := ry
    exact StX.star_any I1 hxs fun us s2 I2 rv => ⟨Inv.kIn I2, StX.run_makeR M F hr hx I2 rv q⟩) hst
theorem fnr_of {P : Program} {w : World} {K : PySem.W.Frag} {mg : Str → Option Value} {base : Heap} {CX : CXT} {k : Nat} {f : Addr} {fd : FuncData} {ps : List Str} {sp : Sp} (F : FnOk P w K mg base CX k f fd ps sp) (b : Binds K fd ps []) : FnR P w K mg base CX k f sp := fun A outer s H us vs Q E hr e0 r h => by
  have hl := F.len vs H Q E h
  have ul : us.length = ps.length := by rw [← r.length, hl]
  have z := b s us (PySem.W.Frag.In.keeps e0.mod.kin fun b o e => (e0.bs b o e).1) (by rw [List.append_nil]; exact ul)
  rw [List.append_nil] at z
  exact F.run A outer s H _ us vs Q E hr e0 z r h
end Rw
namespace Rw
open PySem PySem.Spec PyProof.Rows L2
/-! ### rules: heads, denied, needs, bars -/
abbrev Rl := W × W × W × W
def parts (r : Rl) : List W := [r.1, r.2.1, r.2.2.1, r.2.2.2]
def rd (r : Rl) : PyData := .tuple ((parts r).map wd)
structure IsR (r : Rl) : Prop where
  h : IsW r.1
  d : IsW r.2.1
  n : IsW r.2.2.1
  b : IsW r.2.2.2
theorem IsR.all {r : Rl} (h : IsR r) : ∀ t ∈ parts r, IsW t := fun t ht => by
  unfold parts at ht
  simp only [List.mem_cons, List.mem_nil_iff, or_false] at ht
  rcases ht with e | e | e | e <;> subst e
  · exact h.h
  · exact h.d
  · exact h.n
  · exact h.b
theorem wds_inj : ∀ {a b : List W}, a.map wd = b.map wd → a = b
  | [], [], _ => rfl
  | [], _ :: _, h => by simp at h
  | _ :: _, [], h => by simp at h
  | x :: a, y :: b, h => by
    simp only [List.map_cons, List.cons.injEq] at h
    rw [wd_inj h.1, wds_inj h.2]
theorem rd_inj {p q : Rl} (h : rd p = rd q) : p = q := by
  unfold rd at h
  injection h with h
  have z := wds_inj h
  unfold parts at z
  simp only [List.cons.injEq, and_true] at z
  obtain ⟨h1, h2, h3, h4⟩ := z
  exact Prod.ext h1 (Prod.ext h2 (Prod.ext h3 h4))
theorem ok_rd (r : Rl) : okD (rd r) = true := by
  unfold rd
  rw [okD]
  exact okDs_wd _
theorem depthAll_wd : ∀ L : List W, PyData.depthAll (L.map wd) ≤ 1
  | [] => by simp [PyData.depthAll]
  | x :: L => by
    have := depthAll_wd L
    rw [List.map_cons, PyData.depthAll, depth_wd]
    omega
theorem depth_rd (r : Rl) : (rd r).depth ≤ 2 := by
  have := depthAll_wd (parts r)
  unfold rd
  rw [PyData.depth]
  omega
theorem good_rd (r : Rl) : Good (rd r) := ⟨ok_rd r, Nat.le_trans (depth_rd r) (by decide), ⟨_, rfl⟩⟩
theorem lay_wds : ∀ {L : List W}, (∀ t ∈ L, IsW t) → PyData.canLayAll0 (L.map wd) = true
  | [], _ => by simp [PyData.canLayAll0]
  | t :: L, h => by
    rw [List.map_cons, PyData.canLayAll0, lay_wds fun y hy => h y (List.mem_cons_of_mem _ hy), lay_wd (h t List.mem_cons_self).names]
    rfl
theorem lay_rd {r : Rl} (h : IsR r) : (rd r).canLay0 = true := by
  unfold rd
  rw [PyData.canLay0]
  exact lay_wds h.all
theorem shaped_rd {r : Rl} (h : IsR r) : SeqAt.shaped (rd r) = true := shaped_of (lay_rd h) (Nat.le_trans (depth_rd r) (by decide))
theorem alike_wds : ∀ a b : List W, PySem.W.alikeAll (a.map wd) (b.map wd) = true
  | [], _ => by simp [PySem.W.alikeAll]
  | _ :: _, [] => by simp [PySem.W.alikeAll]
  | x :: a, y :: b => by
    rw [List.map_cons, List.map_cons, PySem.W.alikeAll, alike_wds a b, alike_wd]
    rfl
theorem alike_rd (p q : Rl) : PySem.W.alike (rd p) (rd q) = true := by
  unfold rd
  rw [PySem.W.alike]
  exact alike_wds _ _
theorem eqv_wds : ∀ a b : List W, PyData.eqvAll (a.map wd) (b.map wd) = decide (a = b)
  | [], [] => by simp [PyData.eqvAll]
  | [], _ :: _ => by simp [PyData.eqvAll]
  | _ :: _, [] => by simp [PyData.eqvAll]
  | x :: a, y :: b => by
    rw [List.map_cons, List.map_cons, PyData.eqvAll, eqv_wds a b, eqv_wd]
    by_cases h : x = y
    · subst h
      by_cases h2 : a = b <;> simp [h2]
    · simp [h]
theorem eqv_rd (p q : Rl) : PyData.eqv (rd p) (rd q) = decide (p = q) := by
  have e : (p = q) ↔ (parts p = parts q) := ⟨fun h => by rw [h], fun h => rd_inj (by unfold rd; rw [h])⟩
  unfold rd
  rw [PyData.eqv, eqv_wds]
  by_cases h : parts p = parts q
  · rw [decide_eq_true h, decide_eq_true (e.mpr h)]
  · rw [decide_eq_false h, decide_eq_false fun z => h (e.mp z)]
theorem rules_one {R R' : List Rl} (r1 : Rising (R.map rd)) (r2 : Rising (R'.map rd)) (n1 : R.Nodup) (n2 : R'.Nodup) (h : ∀ p, p ∈ R ↔ p ∈ R') : R = R' :=
  rising_one alike_rd (fun p q e => by rw [eqv_rd] at e; exact of_decide_eq_true e) r1 r2 n1 n2 h
theorem okDs_rd (R : List Rl) : okDs (R.map rd) = true := okDs_all fun d hd => by
  obtain ⟨p, _, rfl⟩ := List.mem_map.mp hd
  exact ok_rd p
theorem all_rd : ∀ {ds : List PyData}, (∀ d ∈ ds, ∃ p, d = rd p) → ∃ R : List Rl, ds = R.map rd
  | [], _ => ⟨[], rfl⟩
  | d :: ds, h => by
    obtain ⟨p, rfl⟩ := h d List.mem_cons_self
    obtain ⟨R, rfl⟩ := all_rd fun e he => h e (List.mem_cons_of_mem _ he)
    exact ⟨p :: R, rfl⟩
theorem rd_mem {R : List Rl} {p : Rl} : rd p ∈ R.map rd ↔ p ∈ R :=
  ⟨fun h => by obtain ⟨q, hq, e⟩ := List.mem_map.mp h; rw [← rd_inj e]; exact hq, fun h => List.mem_map.mpr ⟨p, h, rfl⟩⟩
theorem Stay.rd {K : PySem.W.Frag} {H H' : Hp} {x : V} {r : Rl} (e : Stay H H') (h : Dp K H x (Rw.rd r)) : Dp K H' x (Rw.rd r) := e.dp _ _ (ok_rd r) h
theorem of_rd {K : PySem.W.Frag} {H : Hp} {x : V} {r : Rl} (h : Dp K H x (rd r)) : ∃ a v1 v2 v3 v4, x = .ref a ∧ SqT K H a [v1, v2, v3, v4] ∧ Dp K H v1 (wd r.1) ∧ Dp K H v2 (wd r.2.1) ∧ Dp K H v3 (wd r.2.2.1) ∧ Dp K H v4 (wd r.2.2.2) := by
  unfold rd parts at h
  cases h with
  | tup h1 h2 =>
    cases h2 with
    | cons a1 t =>
      cases t with
      | cons a2 t =>
        cases t with
        | cons a3 t =>
          cases t with
          | cons a4 t =>
            cases t
            exact ⟨_, _, _, _, _, rfl, h1, a1, a2, a3, a4⟩
theorem to_rd {K : PySem.W.Frag} {H : Hp} {a : Addr} {v1 v2 v3 v4 : V} {r : Rl} (h : SqT K H a [v1, v2, v3, v4]) (h1 : Dp K H v1 (wd r.1)) (h2 : Dp K H v2 (wd r.2.1)) (h3 : Dp K H v3 (wd r.2.2.1)) (h4 : Dp K H v4 (wd r.2.2.2)) : Dp K H (.ref a) (rd r) :=
  .tup h (.cons h1 (.cons h2 (.cons h3 (.cons h4 .nil))))
/-- a sorted list without repetition -/
structure Srt (S L : List Rl) : Prop where
  nd : S.Nodup
  ris : Rising (S.map rd)
  mem : ∀ p, p ∈ S ↔ p ∈ L
theorem Srt.one {S S' L L' : List Rl} (a : Srt S L) (b : Srt S' L') (h : ∀ p, p ∈ L ↔ p ∈ L') : S = S' := rules_one a.ris b.ris a.nd b.nd fun p => (a.mem p).trans ((h p).trans (b.mem p).symm)
/-! ### sorted(set(xs)) of rules -/
section
variable {X : Cx}
/-- set(xs), xs a list or a tuple of rules -/
def rSetR (K : PySem.W.Frag) (w : World) : List V → Hp → VK → Prop := fun vs H Q => ∃ (l : Addr) (xs : List V) (L : List Rl), vs = [.ref l] ∧ (SqL K H l xs ∨ SqT K H l xs) ∧ DpAll K H xs (L.map rd) ∧ L.length < 76 ∧
  ∀ a M, H a = none → (∀ p ∈ M, Good p.2 ∧ Dp K H (.ref p.1) p.2) → (∀ p ∈ M, ∃ r ∈ L, p.2 = rd r) → (∀ r ∈ L, rd r ∈ M.map (·.2)) → Q (.ref a) (upd H a (TSetO w a M))
theorem cr_setR (hc : X.calm = true) (hu : X.A.units + 64 < cLine) : CallR X (.type "set") (rSetR X.K X.w) := fun pins s σ H vs us Q I r ⟨l, xs, L, e, hl, hd, few, q⟩ =>
  cr_setT hc hu pins s σ H vs us Q I r ⟨l, xs, L.map rd, e, hl, hd, (fun d hd => by obtain ⟨p, _, rfl⟩ := List.mem_map.mp hd; exact good_rd p), by rw [List.length_map]; exact few, fun a M ha hM hall => by
    have isP : ∀ e ∈ M, ∃ p ∈ L, e.2 = rd p := fun e he => by
      obtain ⟨p, hp, ep⟩ := List.mem_map.mp (hM e he).1
      exact ⟨p, hp, ep.symm⟩
    refine q a M ha (fun e he => ?_) isP fun r hr => hall _ (List.mem_map.mpr ⟨r, hr, rfl⟩)
    obtain ⟨p, _, ep⟩ := isP e he
    exact ⟨by rw [ep]; exact good_rd p, (hM e he).2⟩⟩
/-- sorted(a set of rules) -/
def rSortR (K : PySem.W.Frag) (w : World) : List V → Hp → VK → Prop := fun vs H Q => ∃ (a : Addr) (M : List (Addr × PyData)) (L : List Rl), vs = [.ref a] ∧ H a = some (TSetO w a M) ∧ (∀ p ∈ M, Good p.2 ∧ Dp K H (.ref p.1) p.2) ∧ (∀ p ∈ M, ∃ r ∈ L, p.2 = rd r) ∧ (∀ r ∈ L, rd r ∈ M.map (·.2)) ∧
  ∀ (ys : List V) (S : List Rl) (p : Addr), Srt S L → S.length < 76 → DpAll K H ys (S.map rd) → H p = none → Q (.ref p) (upd H p (.lst ys))
theorem cr_sortR (hc : X.calm = true) (hu : X.A.units + 64 < cLine) : CallR X (.builtin "sorted") (rSortR X.K X.w) := fun pins s σ H vs us Q I r ⟨a, M, L, e, ha, hM, isP, hall, q⟩ =>
  cr_sortT hc hu pins s σ H vs us Q I r ⟨a, M, e, ha, hM, (fun d hd d' hd' => by
    obtain ⟨e, he, rfl⟩ := List.mem_map.mp hd
    obtain ⟨e', he', rfl⟩ := List.mem_map.mp hd'
    obtain ⟨p, _, ep⟩ := isP e he
    obtain ⟨p', _, ep'⟩ := isP e' he'
    rw [ep, ep']
    exact alike_rd p p'), fun ys ds p perm nd lt ris hys hp' => by
    obtain ⟨S, rfl⟩ := all_rd (ds := ds) fun d hd => by
      obtain ⟨e, he, rfl⟩ := List.mem_map.mp (perm.mem_iff.mp hd)
      obtain ⟨p, _, ep⟩ := isP e he
      exact ⟨p, ep⟩
    rw [List.length_map] at lt
    refine q ys S p ⟨nodup_of_map nd, ris, fun p => ?_⟩ lt hys hp'
    rw [← rd_mem, perm.mem_iff]
    constructor
    · intro hm
      obtain ⟨e, he, ee⟩ := List.mem_map.mp hm
      obtain ⟨p', hp', ep⟩ := isP e he
      rw [← rd_inj (ep.symm.trans ee)]
      exact hp'
    · intro hm
      exact hall _ hm⟩
end
end Rw
namespace Rw
open PySem PySem.Spec PyProof.Rows L2
/-! ### == and != of instances by their class's own __eq__ -/
section
variable {X : Cx}
def rEqP (C : Addr) (sp : Sp) (E : XK) : R2 := fun x y H Q => ∃ a dx fs b dy gs, x = .ref a ∧ y = .ref b ∧ H a = some (.ins C dx fs) ∧ H b = some (.ins C dy gs) ∧ sp [x, y] H Q E
theorem op_eqP {CX : CXT} {C g : Addr} {n : Nat} {sp : Sp} {E : XK} (hs : PySem.W.findIn X.K (.ref C) "__eq__" = some (some (.ref g))) (hf : PySem.W.isFn X.K (.ref g) = true) (F : FnR X.prog X.w X.K X.mg X.base CX n g sp) (hr : Room n X.A) (hx : Passes CX X E) : OpR X (compareOp .Eq) (rEqP C sp E) := by
  intro pins s σ H x y v u Q I rx ry h
  obtain ⟨a, dx, fs, b, dy, gs, rfl, rfl, ha, hb, q⟩ := h
  obtain rfl : v = Value.ref a := rx
  obtain rfl : u = Value.ref b := ry
  obtain ⟨mA, J, _⟩ := ins_get I.hok ha
  obtain ⟨mB, J', _⟩ := ins_get I.hok hb
  obtain ⟨od, J, _⟩ := J.look
  obtain ⟨od', J', _⟩ := J'.look
  obtain ⟨m, hF⟩ := I.fr
  show wpAny _ _ (richCompare .Eq (.ref a) (.ref b)) _ _ _
  refine PySem.W.cmp_K hr.units0 hF I.ok.mod.kin J J'.type (by simp [PySem.W.notFirst]) hs hf ?_
  refine wpAny_mono (wpAny_call (run_fnR F hr hx I (vs := [.ref a, .ref b]) (.cons rfl (.cons rfl .nil)) q)) (fun r s' h => ?_) fun e s' h => h
  obtain ⟨z, H', I', r, q⟩ := h
  exact SlX.cmpback r ⟨z, H', I', r, q⟩
/-- what the class is, for != -/
structure NeC (K : PySem.W.Frag) (C g : Addr) : Prop where
  cls : ∃ nm q N bs hd sn sub ab col dd k0 k1 k2 k3 k5 nid oN es ep, K.lookup C = some (excClassObj nm q C N bs [.type "object"] hd sn sub ab col dd k0 k1 k2 k3 k5 nid) ∧ K.lookup N = some oN ∧ oN.data = .dict es ep ∧ StrKeys es ∧ nsFind es "__eq__" = some (.ref g) ∧ nsFind es "__ne__" = none
  fn : ∃ og, K.lookup g = some og ∧ og.cls = .type "function"
def rNeP (C : Addr) (sp : Sp) (E : XK) : R2 := fun x y H Q => ∃ a dx fs b dy gs, x = .ref a ∧ y = .ref b ∧ H a = some (.ins C dx fs) ∧ H b = some (.ins C dy gs) ∧ sp [x, y] H (fun v H' => ∃ t, v = .bl t ∧ Q (.bl (!t)) H') E
theorem op_neP {CX : CXT} {C g : Addr} {n : Nat} {sp : Sp} {E : XK} (N : NeC X.K C g) (F : FnR X.prog X.w X.K X.mg X.base CX n g sp) (hr : Room (n + 1) X.A) (hx : Passes CX X E) : OpR X (compareOp .NotEq) (rNeP C sp E) := by
  intro pins s σ H x y v u Q I rx ry h
  obtain ⟨a, dx, fs, b, dy, gs, rfl, rfl, ha, hb, q⟩ := h
  obtain rfl : v = Value.ref a := rx
  obtain rfl : u = Value.ref b := ry
  obtain ⟨mA, J, _⟩ := ins_get I.hok ha
  obtain ⟨mB, J', _⟩ := ins_get I.hok hb
  obtain ⟨od, J, _⟩ := J.look
  obtain ⟨od', J', _⟩ := J'.look
  obtain ⟨nm, q1, NN, bs, hd, sn, sub, ab, col, dd, k0, k1, k2, k3, k5, nid, oN, es, ep, c1, c2, c3, c4, c5, c6⟩ := N.cls
  obtain ⟨og, g1, g2⟩ := N.fn
  have kin := I.kIn
  have own : s.heap.OwnEqNoNe a C g "object" [.type "object"] := ⟨_, og, nm, q1, NN, bs, hd, sn, sub, ab, col, dd, k0, k1, k2, k3, k5, nid, _, _, J.at_, J.cls, kin _ _ c1, ⟨oN, es, ep, kin _ _ c2, c3, c4, fun _ => rfl⟩, c5, kin _ _ g1, g2, PySem.F.cmp_object.mro, PySem.F.cmp_object.eq.lookup, c6⟩
  have un := hr.un
  refine compareOp_ne_ownEq PySem.F.cmp_object own J'.at_ J'.cls (by omega) ?_
  have e0 := I.env0
  have e1 : Env0 X.prog X.w X.K X.mg X.base X.A.in1 X.stack s H := ⟨e0.frames, e0.mod, e0.bs, e0.bsz, e0.funs, e0.frf, e0.hok, e0.bare⟩
  refine wpAny_call (codeAny_mono (F X.A.in1 X.stack s H [.ref a, .ref b] [.ref a, .ref b] _ E hr.in1 e1 (.cons rfl (.cons rfl .nil)) q) fun r s' h => ?_)
  cases r with
  | error e => exact hx pins σ H s e s' I h
  | ok f =>
    cases f with
    | ret v =>
      obtain ⟨z, H', I', r, t, rfl, q⟩ := I.after h
      obtain rfl : v = Value.bool t := r
      exact ⟨t, rfl, .bl (!t), H', I', rfl, q⟩
    | _ => exact h.elim
end
end Rw
namespace Rw
open PySem PySem.Spec PyProof.Rows L2
/-! ### an error that was caught and kept -/
/-- an error of the class cls at a, whose own dict is d -/
def ExH (cls : Value) (d : Option Addr) (a : Addr) : HO := .ext fun h => ∃ oe vs, h.get? a = some oe ∧ Zc cls d oe ∧ oe.data = .fields vs
def wKeep (K : PySem.W.Frag) (c : Value) (i j : Nat) (D : Ends) : WX := fun cls d σ H => PySem.W.exmOne K cls c = some true ∧ ∀ a, H a = none → D.nx (((σ.set i (some (.ref a))).set j (some (.ref a))).set i none) (upd H a (ExH cls d a))
/-- an error's object is tracked from now on -/
theorem keep_inv {X : Cx} {pins : List (Addr × Obj)} {σ : L2.St} {H : Hp} {s : Shared} {a : Addr} {oe : Obj} {cls : Value} {d : Option Addr} {vs : Array Value} (I : Inv X pins σ H s) (he : s.heap.get? a = some oe) (hz : Zc cls d oe) (hd : oe.data = .fields vs) (hH : H a = none) (nL : a ≠ X.env.locals)
    (h0 : X.s_0.heap.get? a = none) (hp : ∀ p ∈ X.pn ++ pins, p.1 ≠ a) : Inv X pins σ (upd H a (ExH cls d a)) s := by
  have cell : ∀ x c, X.env.cells.lookup x = some c → c ≠ a := fun x c e z => by
    obtain ⟨v, o, h1, h2⟩ := I.cell x c e
    rw [z, he] at h1
    cases h1
    rw [hd] at h2
    cases h2
  refine ⟨I.ok, I.os, I.bare, ?_, I.loc, I.cell, ?_, fun x c e => ?_, fun p hpm => ?_, fun b o hb => ?_, I.len⟩
  · have u := I.base
    refine ⟨u.keep, u.slot, fun b o e1 e2 e3 => ?_, u.there, fun b xs e => ?_, fun b o w' e => ?_, fun b ps e => ?_⟩
    · have nb : b ≠ a := fun z => by
        rw [z, h0] at e1
        cases e1
      rw [upd_ne nb]
      exact u.free b o e1 e2 e3
    · have z := u.tups b xs e
      rw [upd_ne (ne_of_none z hH)]
      exact z
    · have z := u.frzs b o w' e
      rw [upd_ne (ne_of_none z hH)]
      exact z
    · obtain ⟨more, z⟩ := u.tbls b ps e
      refine ⟨more, ?_⟩
      rw [upd_ne (ne_of_none z hH)]
      exact z
  · rw [upd_ne nL.symm]
    exact I.free
  · rw [upd_ne (cell x c e)]
    exact I.freeC x c e
  · obtain ⟨p1, p2, p3⟩ := I.pin p hpm
    refine ⟨p1, ?_, p3⟩
    rw [upd_ne (hp p hpm)]
    exact p2
  · have new : ObjOk X.prog X.w (upd H a (ExH cls d a)) s.heap a (ExH cls d a) := ⟨⟨oe, vs, he, hz, hd⟩, ⟨oe, he⟩, fun h1 h2 ⟨oe', vs', e1, e2⟩ kk => ⟨oe', vs', kk oe' e1, e2⟩⟩
    by_cases e : b = a
    · subst e
      rw [upd_same] at hb
      cases hb
      exact new
    · rw [upd_ne e] at hb
      have same : ∀ (b' : Addr) (u : HO), H b' = some u → (upd H a (ExH cls d a)) b' = some u := fun b' u h => by
        rw [upd_ne (ne_of_none h hH)]
        exact h
      exact (I.hok b o hb).stay (fun _ _ _ e => e) (fun b' h => same b' _ h) fun b' xs h => same b' _ h
/-- try: body except x as n: y = n (every error of the body is an x) -/
theorem ps_try_keep {X : Cx} {x n y : Str} {c : Value} {i j : Nat} {body : List Stmt} {np pos pos' p1 p2 p3 : Pos} {tb : WX → TS} (hs : X.stack = X.env :: X.outer) (hf : X.env.frame = some X.env.locals) (hN : X.N.Nodup) (hi : X.N[i]? = some n) (hln : X.env.kindOf n = some .local) (hc : Names X x c)
    (hj : X.N[j]? = some y) (hyl : X.env.scope.names.lookup y = some .local) (hnl : X.env.scope.names.lookup n = some .local) (hex : X.ex = []) (hdb : (n == ("__debug__" : Str)) = false) (hcd : (n == ("__classdict__" : Str)) = false) (hsw : swapsWith (.Name n p2) (some (.Name y p1)) p3.line X.env = pure false)
    (hb : ∀ (W : WX) (pn : List (Addr × Obj)) (xe : Value → Shared → Prop), Takes (X.tr pn xe) W → PassesOwn (model X.prog X.w) X.A X.env xe → PSs (X.tr pn xe) body (tb W)) :
    PS X (.Try body [.ExceptHandler (some (.Name x np)) (some n) [.Assign [.Name y p1] (.Name n p2) p3] pos'] [] [] pos) (fun D σ H => tb (wKeep X.K c i j D) D σ H) := by
  refine ⟨fun pins s σ H D I h => ?_⟩
  have ok := I.ok
  have hfr : X.A.frames = some (X.env :: X.outer) := by rw [ok.frames, hs]
  have hloc : L2.Loc X.env.scope n := Or.inl hln
  refine wpAny_Try_except (wpAny_mono ((hb (wKeep X.K c i j D) (X.pn ++ pins) (fun e s₁ => wpAny (model X.prog X.w) X.A (noteFrame e X.env) (fun _ s₂ => wpAny (model X.prog X.w) X.A (setFlight e none) (fun _ s₃ => wpAny (model X.prog X.w) X.A (handleBy e X.env [.ExceptHandler (some (.Name x np)) (some n) [.Assign [.Name y p1] (.Name n p2) p3] pos']) (SP X pins D) X.xe s₃) X.xe s₂) X.xe s₁) ?_ PassesOwn.looking).run [] s σ H D (I.toTry _) h) ?_ fun e s1 he => he)
  · rintro u s' ⟨a, B, sI, pins', σ', H', cls, d, rfl, J', nb, up, sky, na, os, ag, hb1, hyes⟩
    have J := J'.ofTry ok
    have sky' : Sky B (X.env :: X.outer) a (Zc cls d) X.env.locals s'.heap := by
      rw [← hs]
      exact sky
    refine Sky.land Zc.steady hfr hf sky' fun h3 fl3 up3 => ?_
    have J3 := J.landed (s' := { heap := h3, gens := s'.gens, drawn := s'.drawn, toks := s'.toks, os := s'.os }) nb fl3.left (up.trans up3) os ag
    obtain ⟨oe3, vs3, he3, hz3, hd3⟩ := fl3.there
    have notFr : ∀ {h : Heap} {o : Obj} {vs : Array Value}, h.FunFrames B (X.env :: X.outer) → h.get? a = some o → o.data = .fields vs → a ∉ frs (X.env :: X.outer) := fun ff e dd hm => by
      obtain ⟨_, o', e', hnf⟩ := ff.mem hm
      rw [e] at e'
      cases e'
      exact hnf _ dd
    have nfr := notFr fl3.2.2.1 he3 hd3
    have nL : a ≠ X.env.locals := fun z => nfr (List.mem_filterMap.mpr ⟨X.env, List.mem_cons_self, by rw [hf, z]⟩)
    have nF : a ∉ X.fs := fun hm => by
      obtain ⟨e, he, q⟩ := List.mem_filterMap.mp hm
      exact nfr (List.mem_filterMap.mpr ⟨e, List.mem_cons_of_mem _ he, q⟩)
    have Ba : B.get? a = none := fl3.2.1
    have nfr' : a ∉ frs X.stack := by
      rw [hs]
      exact nfr
    have sIa : sI.heap.get? a = none := by
      cases e : sI.heap.get? a with
      | none => rfl
      | some o =>
        rw [nb a o e nfr'] at Ba
        cases Ba
    have h0 : X.s_0.heap.get? a = none := by
      cases e : X.s_0.heap.get? a with
      | none => rfl
      | some o =>
        obtain ⟨o', e'⟩ := J.base.there a o e (by rw [hex]; exact List.not_mem_nil)
        rw [sIa] at e'
        cases e'
    have hp : ∀ p ∈ X.pn ++ pins, p.1 ≠ a := fun p hpm z => by
      have := (J.pin p hpm).1
      rw [z, sIa] at this
      cases this
    have S3 := J3.suite he3 hd3 na nL nF
    have LT : ∀ (A : Around) (Q : Value → Shared → Prop) (E : Value → Shared → Prop) (s : Shared), (∀ b o, h3.get? b = some o → s.heap.get? b = some o) → Q cls s → wpAny (model X.prog X.w) A (typeOf (.ref a)) Q E s := fun A Q E s k q => wpAny_typeOf_ref (k a oe3 he3) (by rw [hz3.1]; exact q)
    refine wpAny_handleBy_cons (codeAny_handlers_test ?_) (by intro z; cases z)
    have LM := PySem.W.exm_one J3.kIn LT hb1
    have test : ∀ {Q : Value → Shared → Prop} {E : Value → Shared → Prop}, Q c { heap := h3, gens := s'.gens, drawn := s'.drawn, toks := s'.toks, os := s'.os } → wpAny (model X.prog X.w) (X.A.mark (some (.ref a))) (eval (.Name x np) X.env) Q E { heap := h3, gens := s'.gens, drawn := s'.drawn, toks := s'.toks, os := s'.os } := fun {Q E} q => by
      obtain ⟨hg, hdbg, hm | ⟨hm, hv, hnn⟩⟩ := hc
      · exact ld_glob (X := X.suite a ((a, oe3) :: (X.pn ++ pins))) S3 hg hm q hdbg
      · exact ld_blt (X := X.suite a ((a, oe3) :: (X.pn ++ pins))) S3 hg hm hv q hnn hdbg
    refine test (PySem.W.Looks.here LM ?_)
    refine codeAny_handlers_suite_as (HandSPX.lands_againZ fl3 fun h4 fl4 up4 => ?_)
    have J4 := J.landed (s' := { heap := h4, gens := s'.gens, drawn := s'.drawn, toks := s'.toks, os := s'.os }) nb fl4.left ((up.trans up3).trans up4) os ag
    obtain ⟨oe4, vs4, he4, hz4, hd4⟩ := fl4.there
    have S4 := J4.suite he4 hd4 na nL nF
    refine store_ok (X := X.suite a ((a, oe4) :: (X.pn ++ pins))) (v := .ref a) S4 hN hi hloc rfl (fun s5 S5 => ?_) (.inr hnl)
    have suite : PSs (X.suite a ((a, oe4) :: (X.pn ++ pins))) [.Assign [.Name y p1] (.Name n p2) p3] _ := pss_one (ps_asg (pe_var (i := i) hi (.inl hnl) hdb hcd) (pg_name (i := j) hN hj (.inl hyl) (.inr hyl)) hsw)
    have il : i < σ'.length := by
      rw [J.len]
      exact (List.getElem?_eq_some_iff.mp hi).1
    refine wpAny_mono (suite.run [] s5 (σ'.set i (some (.ref a))) H' { nx := fun σ6 H6 => σ6 = (σ'.set i (some (.ref a))).set j (some (.ref a)) ∧ H6 = H', rt := fun _ _ => False } S5 ⟨.ref a, by rw [List.getElem?_set_self il], rfl, rfl⟩) (fun f s6 hsp => ?_) fun e s' z => z.elim
    cases f with
    | next =>
      obtain ⟨σ6, H6, S6, rfl, rfl⟩ := hsp
      have he6 := (S6.pin (a, oe4) (List.mem_append_left _ List.mem_cons_self)).1
      have K6 := keep_inv (Inv.unsuite S6 ok) he6 hz4 hd4 na nL h0 hp
      exact gone_ok K6 hN hi hln fun s7 J7 => ⟨_, _, J7, hyes a na⟩
    | brk =>
      obtain ⟨_, _, _, z⟩ := hsp
      exact z.elim
    | cont =>
      obtain ⟨_, _, _, z⟩ := hsp
      exact z.elim
    | ret v =>
      obtain ⟨_, _, _, _, _, z⟩ := hsp
      exact z.elim
  · intro f s1 hsp
    cases f with
    | next =>
      obtain ⟨σ', H', J', q⟩ := hsp
      exact wpAny_execs_nil ⟨σ', H', J'.ofTry ok, q⟩
    | brk =>
      obtain ⟨σ', H', J', q⟩ := hsp
      exact ⟨σ', H', J'.ofTry ok, q⟩
    | cont =>
      obtain ⟨σ', H', J', q⟩ := hsp
      exact ⟨σ', H', J'.ofTry ok, q⟩
    | ret v =>
      obtain ⟨v', σ', H', J', r, q⟩ := hsp
      exact ⟨v', σ', H', J'.ofTry ok, r, q⟩
end Rw
namespace Rw
open PySem PySem.Spec PyProof.Rows L2
/-! ### what is asked of a kept error -/
open PySem.W in
theorem kin_classD {prog : Program} {w : World} {A : Around} {E : Value → Shared → Prop} {s : Shared} {K : PySem.W.Frag} {x D : Addr} {ox od : Obj} {Q : Option Value → Shared → Prop} (hga : PySem.W.findIn K (.ref D) "__getattribute__" = some (some (.builtin "BaseException.__getattribute__"))) (hgt : PySem.W.findIn K (.ref D) "__getattr__" = some none)
    (hsub : PySem.W.subIn K (.ref D) (.type "BaseException") = some true) (hdct : PySem.W.hasDictIn K D = true) (ha : PySem.W.findIn K (.ref D) "__class__" = some (some (.builtin "object.__class__"))) (hn : PySem.W.specialIn K (.builtin "object.__class__") "__get__" = some (some (.builtin "getset_descriptor.__get__"))) (htk : PySem.W.takesIn K (.builtin "object.__class__") = some true) (hm : PySem.W.mroIn K D (.type "object") = some true)
    (X : K.In s.heap) (I : PySem.W.InstAt s.heap x ox D (some od)) (h : Q (some (.ref D)) { heap := s.heap, gens := s.gens, drawn := s.drawn, toks := s.toks + 1, os := s.os }) : wpAny (model prog w) A (getAttr? (.ref x) "__class__") Q E s := by
  have hf := PySem.W.findObj_data (K := K) (C := D) (od := od) (by obtain ⟨cd, hc, _⟩ := PySem.W.any_some hdct; rw [hc]; rfl) ha hn htk
  obtain ⟨hp, g, d, t, os⟩ := s
  have L0 := PySem.W.InstAt.type (M := model prog w) I
  have L1 := PySem.W.looks_findIn (M := model prog w) X hga
  have L2 := PySem.W.looks_findIn (M := model prog w) X hgt
  have L3 := PySem.W.looks_find (M := model prog w) X I hf
  have sub : PySem.W.Looks (model prog w) hp (typeOf (.ref x) >>= fun t => isSubtype t (.type "BaseException")) true := PySem.W.Looks.andThen L0 (PySem.W.looks_subIn X hsub)
  unfold getAttr?
  refine wpAny_bind (wpAny_mkText (wpAny_bind (wpAny_attempt (wpAny_holding ?_))))
  refine wpAny_bind (PySem.W.Looks.at L0 (wpAny_bind (PySem.W.Looks.at L1 ?_)))
  have c1 : (onTheHeap (Value.ref D) && (Value.builtin "BaseException.__getattribute__" == Value.builtin "object.__getattribute__")) = false := by
    rw [show (Value.builtin "BaseException.__getattribute__" == Value.builtin "object.__getattribute__") = false by decide]
    rfl
  show wpAny _ _ (if (onTheHeap (Value.ref D) && (Value.builtin "BaseException.__getattribute__" == Value.builtin "object.__getattribute__")) = true then _ else _) _ _ _
  rw [c1, if_neg Bool.false_ne_true]
  unfold getAttrByItsOwn
  refine wpAny_bind ?_
  unfold hookBefore
  rw [if_pos (show onTheHeap (Value.ref D) = true from rfl)]
  refine PySem.W.Looks.at L2 (wpAny_bind (wpAny_attempt (wpAny_holding ?_)))
  unfold callGetattribute
  rw [if_neg (show ¬ ((false && onTheHeap (Value.builtin "BaseException.__getattribute__")) = true) from Bool.false_ne_true)]
  unfold boundAndCalled
  rw [F.excAttr_ValueError.ga.bind (Value.ref x)]
  refine wpAny_bind (wpAny_pure ?_)
  show wpAny _ _ (call (Value.builtin "BaseException.__getattribute__") [.ref x, .str "__class__" t]) _ _ _
  refine wpAny_call ?_
  refine codeAny_call_builtin (id := "BaseException.__getattribute__") (b := Builtin.«object.__getattribute__») F.excAttr_ValueError.ga.plain F.entry_bexc_ga ?_
  refine PySem.W.check_slot (i := "BaseException.__getattribute__") (owner := "BaseException") (n := "__getattribute__") (self := .ref x) (rest := [.str "__class__" t]) (kw := []) PySem.W.kin_classE._proof_2 PySem.W.kin_classE._proof_3 sub (F.args_bexc_ga (.ref x) (.str "__class__" t)) ?_
  unfold Builtin.«object.__getattribute__»
  refine wpAny_bind ?_
  refine wpAny_of_eq (a := (Value.ref x, [Value.str "__class__" t])) rfl ?_
  refine wpAny_bind (wpAny_pure (wpAny_bind (PySem.W.Looks.at L0 (wpAny_bind (PySem.W.Looks.at L3 ?_)))))
  unfold Builtin.ObjectAttr.bindTo
  refine wpAny_bind (wpAny_holding (wpAny_call (PySem.W.class_get X I hm (wpAny_pure ?_))))
  show wpAny (model prog w) A (handedOut (.ref D)) _ _ _
  rw [PySem.W.handedOut_of rfl]
  exact wpAny_pure (wpAny_pure h)
theorem cls_at {K : PySem.W.Frag} {D : Addr} (h : PySem.W.hasDictIn K D = true) : ∃ o cd, K.lookup D = some o ∧ o.data = .cls cd := by
  obtain ⟨cd, hc, _⟩ := PySem.W.any_some h
  unfold PySem.W.clsIn at hc
  split at hc
  · rename_i heq
    exact ⟨_, _, heq, rfl⟩
  · cases hc
theorem kitx_excD {K : PySem.W.Frag} {x D : Addr} {ox od : Obj} (C : ExcC K D) : PySem.W.KitX K (.ref x) (.ref D) (fun h => PySem.W.InstAt h x ox D (some od)) := by
  obtain ⟨⟨cl, dc, da, sl⟩, cd, ho, hd⟩ := cls_at C.hd
  refine ⟨fun M h X I => PySem.W.InstAt.type I, fun M h X _ => ?_, fun h tp dd its n sl' X htp => ?_, fun X I k => kin_classD C.hg C.hk C.hs C.hd C.ha C.hn C.ht C.hm X I k⟩
  · subst hd
    intro A' Q' E' s' k q
    exact wpAny_bind (wpAny_loadPart (k D _ (X D _ ho)) (wpAny_pure q))
  · refine Bool.eq_false_iff.mpr fun q => ?_
    have e := Value.ref.inj (beq_iff_eq.mp q)
    subst e
    have z := (X D _ ho).symm.trans htp
    cases z
    cases hd
/-- isinstance(caught, C): None, or a kept error -/
def rIsH (K : PySem.W.Frag) : List V → Hp → VK → Prop := fun xs H Q => ∃ (x c : V) (u : Value), xs = [x, c] ∧ (∀ v, RelV c v → v = u) ∧
  ((x = .non ∧ ∃ b, PySem.W.kitOne K (.type "NoneType") u = some b ∧ Q (.bl b) H) ∨
   (∃ (a D dd : Addr) (fs : List (Str × V)) (b : Bool), x = .ref a ∧ H a = some (ExH (.ref D) (some dd) a) ∧ H dd = some (.xd fs) ∧ ExcC K D ∧ PySem.W.kitOne K (.ref D) u = some b ∧ Q (.bl b) H))
theorem call_isH {X : Cx} : CallR X (.builtin "isinstance") (rIsH X.K) := by
  intro pins s σ H xs us Q I r h
  obtain ⟨x, c, u, rfl, hu, h⟩ := h
  cases r with
  | cons r1 r2 =>
    cases r2 with
    | cons r2 r3 =>
      cases r3
      obtain rfl := hu _ r2
      rcases h with ⟨rfl, b, hk, q⟩ | ⟨a, D, dd, fs, b, rfl, ha, hd, C, hk, q⟩
      · cases r1
        exact PySem.W.kia_one PySem.W.kitx_none I.kIn trivial hk (fun z => nomatch z) fun tk => ⟨.bl b, H, I.tok _, rfl, q⟩
      · obtain ⟨oe, vs, hget, hz, hdat⟩ := (I.hok a _ ha).1
        obtain ⟨mA, hns, hr⟩ := I.hok dd _ hd
        obtain ⟨od, ho, hl⟩ := lookIn_ns hns
        have J : PySem.W.InstAt s.heap a oe D (some od) := ⟨hget, hz.1, by unfold PySem.W.notCls; rw [hdat] <;> rfl, by rw [hz.2]; exact ho⟩
        rw [show _ = Value.ref a from r1]
        exact PySem.W.kia_one (kitx_excD C) I.kIn J hk (fun z => nomatch z) fun tk => ⟨.bl b, H, I.tok _, rfl, q⟩
/-- caught.n -/
def tFldH (C : Addr) (n : Str) (te : TE) : TE := fun σ H Q => te σ H fun x H1 => ∃ (a dd : Addr) (fs : List (Str × V)) (v : V), x = .ref a ∧ H1 a = some (ExH (.ref C) (some dd) a) ∧ H1 dd = some (.xd fs) ∧ fs.lookup n = some v ∧ Q v H1
theorem pe_fldH {X : Cx} {C : Addr} {e : Expr} {te : TE} {pos : Pos} {n : Str} (T : XfC X.K C) (hno : PySem.W.findIn X.K (.ref C) n = some none) (he : PE X e te) (hb : attributeBase e n X.env (eval e X.env) = eval e X.env := by rfl) : PE X (.Attribute e n pos) (tFldH C n te) := by
  refine ⟨fun pins s σ H Q I h => attr_of hb (thn (he.run pins s σ H _ I h) fun u s1 ⟨x, H1, I1, rx, a, dd, fs, v, ex, ha, hdd, l, q⟩ => ?_)⟩
  subst ex
  obtain rfl : u = Value.ref a := rx
  obtain ⟨oe, vs, hget, hz, hdat⟩ := (I1.hok a _ ha).1
  obtain ⟨mA, hns, hr⟩ := I1.hok dd _ hdd
  obtain ⟨od, ho, hl⟩ := lookIn_ns hns
  obtain ⟨u, hu, ru⟩ := RelO.some_of (v := v) (o := mA n) (by rw [← l]; exact hr n)
  have J : PySem.W.InstAt s1.heap a oe C (some od) := ⟨hget, hz.1, by unfold PySem.W.notCls; rw [hdat] <;> rfl, by rw [hz.2]; exact ho⟩
  exact HandSPX.exc_get I1.kIn J T.ga T.gg T.exC (PySem.W.findObj_own T.hdC hno rfl (by rw [hl, hu])) (handed_of ru) ⟨v, H1, I1.tok _, ru, q⟩
end Rw
namespace Rw
open PySem PySem.Spec PyProof.Rows L2
/-! ### own errors with one field -/
/-- __init__(self, n): self.n = n -/
def spErr (C : Addr) (n : Str) : Sp := fun vs H Q _ => ∃ (a : Addr) (v : V), vs = [.ref a, v] ∧ H a = some (exo a C none) ∧ ∀ dx, H dx = none → dx ≠ a → Q .non (upd (upd H dx (exd dx [(n, v)])) a (exo a C (some dx)))
/-- C(v) made: what its making asks -/
theorem err_made {C : Addr} {n : Str} {v : V} {H1 : Hp} {Q : XK} (h : ∀ d, H1 d = none → Q (.ref C) (some d) (upd H1 d (.xd [(n, v)]))) : [v].length ≤ 1000 ∧ ∀ a : Addr, H1 a = none → spErr C n (.ref a :: ([v] ++ [])) (upd H1 a (exo a C none))
    (fun u H2 => u = .non ∧ ∃ d fs, H2 a = some (exo a C (some d)) ∧ H2 d = some (exd d fs) ∧ H1 d = none ∧ Q (.ref C) (some d) (upd (del H2 a) d (.xd fs))) (fun _ _ _ => False) := by
  refine ⟨by simp, fun a ha => ⟨a, v, rfl, upd_same, fun dx hdx ne => ?_⟩⟩
  have hd1 : H1 dx = none := by
    rw [upd_ne ne] at hdx
    exact hdx
  refine ⟨rfl, dx, [(n, v)], upd_same, ?_, hd1, ?_⟩
  · rw [upd_ne ne, upd_same]
  · have e : upd (del (upd (upd (upd H1 a (exo a C none)) dx (exd dx [(n, v)])) a (exo a C (some dx))) a) dx (.xd [(n, v)]) = upd H1 dx (.xd [(n, v)]) := by
      funext b
      by_cases h1 : b = dx
      · subst h1
        rw [upd_same, upd_same]
      · rw [upd_ne h1, upd_ne h1]
        by_cases h2 : b = a
        · subst h2
          unfold del
          rw [ha]
          simp
        · unfold del
          rw [if_neg h2, upd_ne h2, upd_ne h1, upd_ne h2]
    rw [e]
    exact h dx hd1
end Rw
namespace Rw
open PySem PySem.Spec PyProof.Rows L2
/-! ### a head that tells of defs anywhere, and more -/
/-! ### what a class is, as a test -/
theorem clsB_ok {K : PySem.W.Frag} {C : Addr} {f : List Value → Addr → Bool → Bool} {nid : String} (h : clsB K C f nid = true) : ∃ nm q N bs bm hd sn sub ab col dd k0 k1 k2 k3 k5, K.lookup C = some (excClassObj nm q C N bs bm hd sn sub ab col dd k0 k1 k2 k3 k5 nid) ∧ f bm N hd = true := by
  unfold clsB at h
  split at h
  · rename_i t dd cd sl e
    rw [Bool.and_eq_true, Bool.and_eq_true, Bool.and_eq_true] at h
    obtain ⟨h1, h2, h3, h4⟩ := h
    obtain ⟨h1, h0⟩ := of_decide_eq_true h1
    have h2 := of_decide_eq_true h2
    split at h4
    · rename_i k0 k1 k2 k3 i k5
      have h4 := of_decide_eq_true h4
      subst h1 h4
      obtain ⟨nm, bs, mro, ns, q, hd, sn, sub, ab, col, del⟩ := cd
      refine ⟨nm, q, ns, bs, mro.tail, hd, sn, sub, ab, col, dd, k0, k1, k2, k3, k5, ?_, h3⟩
      rw [e]
      have h2' : mro = .ref C :: mro.tail := h2
      have h0' : del = false := h0
      subst h0'
      unfold excClassObj
      rw [← h2']
    · exact nomatch h4
  · exact nomatch h
theorem strKeysB_ok {es : Array DictEntry} (h : strKeysB es = true) : StrKeys es := fun e he => by
  have z := List.all_eq_true.mp h e (Array.mem_toList_iff.mpr he)
  split at z
  · exact ⟨_, _, by assumption⟩
  · exact nomatch z
theorem neC_of {K : PySem.W.Frag} {C g : Addr} (h1 : clsB K C (fun bm N _ => decide (bm = [.type "object"]) && nsB K N g) "object.__new__" = true) (h2 : fnB K g = true) : NeC K C g := by
  obtain ⟨nm, q, N, bs, bm, hd, sn, sub, ab, col, dd, k0, k1, k2, k3, k5, e, hf⟩ := clsB_ok h1
  rw [Bool.and_eq_true] at hf
  obtain ⟨f1, f2⟩ := hf
  have f1 := of_decide_eq_true f1
  subst f1
  constructor
  · unfold nsB at f2
    split at f2
    · rename_i oc od es ep os eN
      rw [Bool.and_eq_true, Bool.and_eq_true] at f2
      obtain ⟨g1, g2, g3⟩ := f2
      exact ⟨nm, q, N, bs, hd, sn, sub, ab, col, dd, k0, k1, k2, k3, k5, "object.__new__", _, es, ep, e, eN, rfl, strKeysB_ok g1, of_decide_eq_true g2, of_decide_eq_true g3⟩
    · exact nomatch f2
  · unfold fnB at h2
    split at h2
    · exact ⟨_, by assumption, of_decide_eq_true h2⟩
    · exact nomatch h2
/-- an own error class, by tests -/
theorem oexB_ok {K : PySem.W.Frag} {C : Addr} (h : oexB K C = true) : OexC K C := by
  unfold oexB at h
  rw [Bool.and_eq_true, Bool.and_eq_true, Bool.and_eq_true, Bool.and_eq_true] at h
  obtain ⟨h1, h2, h3, h4, h5⟩ := h
  obtain ⟨nm, q, N, bs, bm, hd, sn, sub, ab, col, dd, k0, k1, k2, k3, k5, e, hf⟩ := clsB_ok h1
  rw [Bool.and_eq_true] at hf
  obtain ⟨f1, f2⟩ := hf
  subst f1
  exact ⟨⟨nm, q, N, bs, bm, sn, sub, ab, col, dd, k0, k1, k2, k3, k5, e, f2⟩, of_decide_eq_true h2, of_decide_eq_true h3, of_decide_eq_true h4, h5⟩
theorem excP_ok {K : PySem.W.Frag} {D : Addr} (h : excP K D) : ExcC K D := by
  obtain ⟨h1, h2, h3, h4, h5, h6, h7, h8⟩ := h
  exact ⟨h1, h2, h3, h4, h5, h6, h7, h8⟩
theorem propP_ok {K : PySem.W.Frag} {C : Addr} {f : Str} (h : propP K C f) (r : recB K (He.ma K C f) "property" = true) : PropOf K C f (He.ma K C f) (He5.wf K C "property" f) := by
  obtain ⟨h1, h2, h3⟩ := h
  refine ⟨h1, h2, h3, ?_⟩
  unfold recB at r
  unfold He5.wf
  split at r
  · rename_i a l e
    rw [e]
    exact ⟨_, rfl⟩
  · exact nomatch r
end Rw
namespace Rw
open PySem PySem.Spec PyProof.Rows L2
/-! ### the text -/
theorem scIsName : FnScope ["thing", "letter"] ["thing"] (defScope sIsName) := ⟨rfl, rfl, rfl, by decide +kernel, rfl, by decide +kernel, by decide +kernel⟩
theorem scIsWorld : FnScope ["thing"] ["thing"] (defScope sIsWorld) := ⟨rfl, rfl, rfl, by decide +kernel, rfl, by decide +kernel, by decide +kernel⟩
theorem scIsRule : FnScope ["thing", "part"] ["thing"] (defScope sIsRule) := ⟨rfl, rfl, rfl, by decide +kernel, rfl, by decide +kernel, by decide +kernel⟩
theorem scAreNames : FnScope ["thing", "item"] ["thing"] (defScope sAreNames) := ⟨rfl, rfl, rfl, by decide +kernel, rfl, by decide +kernel, by decide +kernel⟩
theorem scSetOf : FnScope ["names"] ["names"] (defScope sSetOf) := ⟨rfl, rfl, rfl, by decide +kernel, rfl, by decide +kernel, by decide +kernel⟩
theorem scInit : FnScope ["self", "rules", "place", "row"] ["self", "rules"] (defScope sInit) := ⟨rfl, rfl, rfl, by decide +kernel, rfl, by decide +kernel, by decide +kernel⟩
theorem scOf : FnScope ["cls", "rules"] ["cls", "rules"] (defScope sOf) := ⟨rfl, rfl, rfl, by decide +kernel, rfl, by decide +kernel, by decide +kernel⟩
theorem scRules : FnScope ["self"] ["self"] (defScope sRules) := ⟨rfl, rfl, rfl, by decide +kernel, rfl, by decide +kernel, by decide +kernel⟩
/-- the built-in names that the text does not bind -/
structure Bl (mg : Str → Option Value) : Prop where
  len : mg "len" = none
  isi : mg "isinstance" = none
  all : mg "all" = none
  any : mg "any" = none
  tuple : mg "tuple" = none
  list : mg "list" = none
  sorted : mg "sorted" = none
  set : mg "set" = none
  str : mg "str" = none
  int : mg "int" = none
  max : mg "max" = none
  min : mg "min" = none
  range : mg "range" = none
  enum : mg "enumerate" = none
/-! ### odd values -/
def nameD : PyData → Bool
  | .str x => nameB x
  | _ => false
def oddN : PyData → Prop
  | .str x => x.cps.size ≤ 10000
  | .bool _ => False
  | .dict _ => False
  | _ => True
def tyName : PyData → String
  | .none => "NoneType"
  | .bool _ => "bool"
  | .int _ => "int"
  | .str _ => "str"
  | .list _ => "list"
  | .tuple _ => "tuple"
  | .dict _ => "dict"
theorem tyx_dp {K : PySem.W.Frag} {H : Hp} {x : V} {d : PyData} (h : Dp K H x d) : TyX K H x (.type (tyName d)) := by
  cases h with
  | non => exact .base .non
  | bl b => exact .base (.bl b)
  | int i => exact .base (.int i)
  | str x => exact .base (.str x)
  | lst h1 _ =>
    rcases h1 with (h | ⟨o, h⟩) | ⟨o, its, n, h1, h2, _⟩
    · exact .base (.lst h)
    · exact .base (.frz h)
    · exact .kList h1 h2
  | tup h1 _ => exact tyx_tup h1
section
variable {K : PySem.W.Frag} {H H' : Hp}
mutual
theorem dp_same (e : Same H H') : ∀ (d : PyData) (x : V), Dp K H x d → Dp K H' x d
  | .none, _, h => by cases h; exact .non
  | .bool _, _, h => by cases h; exact .bl _
  | .int _, _, h => by cases h; exact .int _
  | .str _, _, h => by cases h; exact .str _
  | .list ds, _, h => by
    cases h with
    | lst h1 h2 => exact .lst (e.seq h1) (dpAll_same e ds _ h2)
  | .tuple ds, _, h => by
    cases h with
    | tup h1 h2 => exact .tup (same_tup e h1) (dpAll_same e ds _ h2)
  | .dict _, _, h => by cases h
theorem dpAll_same (e : Same H H') : ∀ (ds : List PyData) (xs : List V), DpAll K H xs ds → DpAll K H' xs ds
  | [], _, h => by cases h; exact .nil
  | d :: ds, _, h => by
    cases h with
    | cons h1 h2 => exact .cons (dp_same e d _ h1) (dpAll_same e ds _ h2)
end
end
theorem letter_in {c : Nat} : decide (c ∈ lettersS.cps.toList) = letter c := by
  cases h : letter c with
  | true => exact decide_eq_true (in_letters h)
  | false =>
    refine decide_eq_false fun m => ?_
    have all : (lettersS.cps.toList.all letter) = true := by decide +kernel
    rw [List.all_eq_true.mp all c m] at h
    exact nomatch h
section
variable {P : Program} {w : World} {K : PySem.W.Frag} {mg : Str → Option Value} {base : Heap} {f : Addr} {fd : FuncData} {k : Nat}
/-! ### is_name -/
def spIsName (K : PySem.W.Frag) : Sp := fun vs H Q _ => ∃ (x : V) (d : PyData), vs = [x] ∧ Dp K H x d ∧ oddN d ∧ ∀ H', Same H H' → Q (.bl (nameD d)) H'
theorem ok_isName (F : Fun K "is_name" "is_name" sIsName f fd) (T : Bl mg) (mL : ∃ t, mg "LETTERS" = some (.str lettersS t)) : FnOk P w K mg base CX0 (k + 1) f fd ["thing"] (spIsName K) := by
  refine F.ok scIsName (fun vs H Q E h => ?_) (fun cdv A outer s H vs Q E hr h => ?_)
  · obtain ⟨x, d, rfl, _⟩ := h
    rfl
  obtain ⟨x, d, rfl, hd, odd, q⟩ := h
  obtain ⟨tl, mL⟩ := mL
  refine ⟨_, pss_cons (ps_if (PW.pt (pw_or (pt_not (pt_val (pe_callB call_isi (by rfl) T.isi PyProof.Rows.boot_isinstance (pa_cons (pv 0) (pa_cons (pe_bltn (v := .ty "str") (by rfl) T.str (by decide +kernel) rfl) pa_nil)))))
      (pw_or1 (pt_cmpR op_eq (pv 0) pe_str (nomark _))))) (pss_one (ps_ret pe_bl)) pss_nil)
    (pss_one (ps_ret (pe_and (pe_chain op_le op_le pe_int (pe_callB call_len_str (by rfl) T.len PySem.boot_len (pa_cons (pv 0) pa_nil)) pe_int)
      (pe_one (pe_callB (cr_all rfl) (by rfl) T.all (by decide +kernel) (pa_cons (pe_lc (own := [("letter", 1)]) (g := gName 1) (by rfl) scIsName.nd (pi_str (pv 0)) (blkOk_by (N := ["thing", "letter"]) (sc := defScope sIsName) (by decide +kernel))
        (fun _ _ _ _ _ => pg_name (i := 1) scIsName.nd rfl (Or.inl rfl)) (fun _ _ _ _ _ => pts_nil) (fun _ _ _ _ _ => pe_cmpR op_in_sign (pv 1) (pe_glob (v := .str lettersS) (by rfl) mL ⟨_, rfl⟩) (by rfl))) pa_nil)))))), ?_⟩
  have cases' : (∃ t : String, TyX K H x (.type t) ∧ PySem.W.kitOne K (.type t) (.type "str") = some false ∧ nameD d = false) ∨ ∃ z, d = .str z := by
    have ty := tyx_dp hd
    cases d with
    | none => exact .inl ⟨"NoneType", ty, kit_ty (by decide +kernel), rfl⟩
    | bool _ => exact absurd odd id
    | dict _ => exact absurd odd id
    | int i => exact .inl ⟨"int", ty, kit_ty (by decide +kernel), rfl⟩
    | list ds => exact .inl ⟨"list", ty, kit_ty (by decide +kernel), rfl⟩
    | tuple ds => exact .inl ⟨"tuple", ty, kit_ty (by decide +kernel), rfl⟩
    | str z => exact .inr ⟨z, rfl⟩
  rcases cases' with ⟨t, h1, h2, h3⟩ | ⟨z, rfl⟩
  · refine ⟨x, rfl, x, .ty "str", .type t, .type "str", false, rfl, .ty "str", h1, h2, false, rfl, iteT ?_⟩
    have := q H fun _ _ e => e
    rw [h3] at this
    exact this
  · cases hd
    have few : z.cps.size ≤ 10000 := odd
    refine ⟨.str z, rfl, .str z, .ty "str", .type "str", .type "str", true, rfl, .ty "str", .base (.str z), kit_ty (by decide +kernel), true, rfl, ?_⟩
    refine ⟨.str z, rfl, rfl, _, rfl, ?_⟩
    refine ite2 (fun e => ?_) (fun e => ?_)
    · have ez : z = notS := V.str.inj (of_decide_eq_true e)
      have en : nameB z = false := by
        rw [ez]
        decide +kernel
      have := q H fun _ _ e => e
      rw [show nameD (.str z) = nameB z from rfl, en] at this
      exact this
    · have nz : z ≠ notS := fun h => e (decide_eq_true (by rw [h]; rfl))
      have val : nameB z = (decide (1 ≤ z.cps.size) && (decide (z.cps.size ≤ 8) && z.cps.toList.all letter)) := by
        unfold nameB
        rw [decide_eq_false nz]
        cases z.cps.toList.all letter <;> cases decide (1 ≤ z.cps.size) <;> cases decide (z.cps.size ≤ 8) <;> rfl
      have q' : ∀ H', Same H H' → Q (.bl (decide (1 ≤ z.cps.size) && (decide (z.cps.size ≤ 8) && z.cps.toList.all letter))) H' := fun H' s => by
        have := q H' s
        rw [show nameD (.str z) = nameB z from rfl, val] at this
        exact this
      refine ⟨.str z, rfl, z, rfl, small_line few, 1, z.length, rfl, rfl, decide ((1 : Int) ≤ (z.length : Int)), rfl, ite2 (fun e1 => ?_) (fun e1 => ?_)⟩
      · have h1 : decide (1 ≤ z.cps.size) = true := by
          have := of_decide_eq_true e1
          exact decide_eq_true (by have : (1 : Int) ≤ (z.cps.size : Int) := this; omega)
        rw [h1] at q'
        refine ⟨z.length, 8, rfl, rfl, decide ((z.length : Int) ≤ 8), rfl, ite2 (fun e2 => ?_) (fun e2 => ?_)⟩
        · have h2 : decide (z.cps.size ≤ 8) = true := by
            have := of_decide_eq_true e2
            exact decide_eq_true (by have : (z.cps.size : Int) ≤ 8 := this; omega)
          rw [h2] at q'
          refine ⟨.str z, rfl, z, rfl, fun D hD => ?_⟩
          have s1 : Same H (upd H D (.lst [])) := same_new hD _
          refine lc_sgn (x := z) (fun i H1 => Same H H1 ∧ H1 D = some (.lst ((z.cps.toList.take i).map fun c => V.bl (letter c)))) ⟨s1, upd_same⟩ (fun i c H1 hc hI => ?_) (fun H1 hI => ?_)
          · obtain ⟨sm, hd⟩ := hI
            have hc' : z.cps.toList[i]? = some c := by rw [Array.getElem?_toList]; exact hc
            have il : i < z.cps.size := (Array.getElem?_eq_some_iff.mp hc).1
            refine ⟨rfl, .str ⟨#[c]⟩, rfl, c, lettersS, rfl, rfl, ?_⟩
            rw [letter_in]
            refine ⟨_, hd, small_line' (by rw [List.length_map, List.length_take, Array.length_toList]; omega), same_put sm hD, ?_⟩
            rw [upd_same, take_snoc hc', List.map_append]
            rfl
          · obtain ⟨sm, hd⟩ := hI
            rw [show z.cps.size = z.cps.toList.length by rw [Array.length_toList], List.take_length] at hd
            refine ⟨D, z.cps.toList.map letter, rfl, SqL.of (by rw [List.map_map]; exact hd), ?_⟩
            have eq : (z.cps.toList.map letter).all id = z.cps.toList.all letter := by
              rw [List.all_map]
              rfl
            rw [eq]
            exact q' H1 sm
        · have h2 : decide (z.cps.size ≤ 8) = false := decide_eq_false fun h => e2 (decide_eq_true (by show (z.cps.size : Int) ≤ 8; omega))
          rw [h2] at q'
          exact q' H fun _ _ e => e
      · have h1 : decide (1 ≤ z.cps.size) = false := decide_eq_false fun h => e1 (decide_eq_true (by show (1 : Int) ≤ (z.cps.size : Int); omega))
        rw [h1] at q'
        exact ⟨false, rfl, iteF (q' H fun _ _ e => e)⟩
end
end Rw
namespace Rw
open PySem PySem.Spec PyProof.Rows L2
/-! ### worlds of odd values -/
def strOf : PyData → Str
  | .str x => x
  | _ => notS
theorem strs_of : ∀ {ds : List PyData}, ds.all nameD = true → ds = (ds.map strOf).map PyData.str ∧ ∀ x ∈ ds.map strOf, nameB x = true
  | [], _ => ⟨rfl, fun x hx => nomatch hx⟩
  | d :: ds, h => by
    rw [List.all_cons, Bool.and_eq_true] at h
    obtain ⟨h1, h2⟩ := h
    obtain ⟨e, hn⟩ := strs_of h2
    cases d with
    | str x =>
      refine ⟨by rw [List.map_cons, List.map_cons, ← e]; rfl, fun y hy => ?_⟩
      rw [List.map_cons] at hy
      rcases List.mem_cons.mp hy with z | hy
      · rw [z]
        exact h1
      · exact hn y hy
    | _ => exact absurd h1 (by simp [nameD])
instance (ns : W) : Decidable (UpX ns) := inferInstanceAs (Decidable (ns.Pairwise fun a b => a.cps.toList < b.cps.toList))
def worldD : PyData → Bool
  | .tuple ds => ds.all nameD && decide (UpX (ds.map strOf))
  | _ => false
def oddW : PyData → Prop
  | .tuple ds => (∀ d ∈ ds, oddN d) ∧ ds.length ≤ 60
  | .bool _ => False
  | .dict _ => False
  | _ => True
theorem worldD_wd {ns : W} (h : IsW ns) : worldD (wd ns) = true := by
  unfold worldD wd
  have e1 : ((ns.map PyData.str).all nameD) = true := by
    rw [List.all_map, List.all_eq_true]
    exact fun x hx => h.names x hx
  have e2 : (ns.map PyData.str).map strOf = ns := by
    rw [List.map_map]
    exact List.map_id' ns
  show ((ns.map PyData.str).all nameD && decide (UpX ((ns.map PyData.str).map strOf))) = true
  rw [e1, e2, decide_eq_true h.up]
  rfl
theorem worldD_of {d : PyData} (o : oddW d) (h : worldD d = true) : ∃ ns, IsW ns ∧ d = wd ns := by
  cases d with
  | tuple ds =>
    have h' : (ds.all nameD && decide (UpX (ds.map strOf))) = true := h
    rw [Bool.and_eq_true] at h'
    obtain ⟨h1, h2⟩ := h'
    obtain ⟨e, hn⟩ := strs_of h1
    refine ⟨ds.map strOf, ⟨hn, of_decide_eq_true h2, by rw [List.length_map]; exact o.2⟩, ?_⟩
    unfold wd
    rw [← e]
  | _ => exact nomatch h
theorem oddN_name {x : Str} (h : nameB x = true) : oddN (.str x) := by
  obtain ⟨_, _, h3, _⟩ := nameB_iff.mp h
  show x.cps.size ≤ 10000
  omega
theorem oddW_wd {ns : W} (h : IsW ns) : oddW (wd ns) := ⟨fun d hd => by
  obtain ⟨x, hx, rfl⟩ := List.mem_map.mp hd
  exact oddN_name (h.names x hx), by rw [List.length_map]; exact h.few⟩
theorem shaped_names {ns : W} (h : ∀ x ∈ ns, nameB x = true) : SeqAt.shaped (wd ns) = true := shaped_of (lay_wd h) (by rw [depth_wd]; decide)
section
variable {P : Program} {w : World} {K : PySem.W.Frag} {mg : Str → Option Value} {base : Heap} {f : Addr} {fd : FuncData} {k : Nat}
def spAreNames (K : PySem.W.Frag) : Sp := fun vs H Q _ => ∃ (a : Addr) (xs : List V) (ds : List PyData), vs = [.ref a] ∧ SqT K H a xs ∧ DpAll K H xs ds ∧ (∀ d ∈ ds, oddN d) ∧ ds.length ≤ 1000 ∧ ∀ H', Same H H' → Q (.bl (ds.all nameD)) H'
theorem ok_areNames {f1 : Addr} {fd1 : FuncData} (F : Fun K "_are_names" "_are_names" sAreNames f fd) (T : Bl mg) (G : FnOk P w K mg base CX0 k f1 fd1 ["thing"] (spIsName K)) (b1 : Binds K fd1 ["thing"] []) (k1 : PySem.W.keepIn K (.ref f1) = true) (m1 : mg "is_name" = some (.ref f1)) :
    FnOk P w K mg base CX0 (k + 1) f fd ["thing"] (spAreNames K) := by
  refine F.ok scAreNames (fun vs H Q E h => ?_) (fun cdv A outer s H vs Q E hr h => ?_)
  · obtain ⟨a, xs, ds, rfl, _⟩ := h
    rfl
  obtain ⟨a, xs, ds, rfl, hS, hx, odd, few, q⟩ := h
  have xl := dpAll_len hx
  refine ⟨_, pss_one (ps_ret (pe_and (pe_isiTL (pv 0) (by rfl) T.isi (pa_cons (pe_bltn (v := .ty "tuple") (by rfl) T.tuple (by decide +kernel) rfl) (pa_cons (pe_bltn (v := .ty "list") (by rfl) T.list (by decide +kernel) rfl) pa_nil)))
      (pe_one (pe_callB (cr_all rfl) (by rfl) T.all (by decide +kernel) (pa_cons (pe_lc (own := [("item", 1)]) (g := gName 1) (by rfl) scAreNames.nd (pi_tup (pv 0)) (blkOk_by (N := ["thing", "item"]) (sc := defScope sAreNames) (by decide +kernel))
        (fun _ _ _ _ _ => pg_name (i := 1) scAreNames.nd rfl (Or.inl rfl)) (fun _ _ _ _ _ => pts_nil) (fun _ _ _ _ _ => pe_call G hr (by rfl) m1 k1 b1 .nil pass0 (pa_cons (pv 1) pa_nil))) pa_nil))))), ?_⟩
  refine ⟨.ref a, rfl, ⟨a, _, rfl, hS⟩, fun T0 hT => ⟨true, rfl, iteT ?_⟩⟩
  have s0 : Same H (upd H T0 (.tup [.ty "tuple", .ty "list"])) := same_new hT _
  generalize upd H T0 (.tup [.ty "tuple", .ty "list"]) = H0 at s0 ⊢
  refine ⟨.ref a, rfl, a, rfl, ⟨_, same_tup s0 hS⟩, fun D hD => ?_⟩
  have s1 : Same H0 (upd H0 D (.lst [])) := same_new hD _
  refine lc_tup (xs := xs) (fun i H1 => Same H0 H1 ∧ H1 D = some (.lst ((ds.take i).map fun d => V.bl (nameD d)))) ⟨s1, upd_same⟩ (fun i H1 _ hI => same_tup (s0.trans hI.1) hS) (fun i x H1 hxi hI => ?_) (fun H1 hI => ?_)
  · obtain ⟨sm, hd⟩ := hI
    obtain ⟨d, hdi, hxd⟩ := dpAll_at' hx hxi
    have il : i < ds.length := (List.getElem?_eq_some_iff.mp hdi).1
    refine ⟨rfl, x, rfl, x, d, rfl, dp_same (s0.trans sm) _ _ hxd, odd d (List.mem_of_getElem? hdi), fun H2 sm2 => ⟨_, sm2 _ _ hd, small_line' (by rw [List.length_map, List.length_take]; omega), same_put (sm.trans sm2) hD, ?_⟩⟩
    rw [upd_same, take_snoc hdi, List.map_append]
    rfl
  · obtain ⟨sm, hd⟩ := hI
    rw [xl, List.take_length] at hd
    refine ⟨D, ds.map nameD, rfl, SqL.of (by rw [List.map_map]; exact hd), ?_⟩
    have z : (ds.map nameD).all id = ds.all nameD := by
      rw [List.all_map]
      rfl
    rw [z]
    exact q H1 (s0.trans sm)
/-! ### _set_of -/
def spSetOf (K : PySem.W.Frag) : Sp := fun vs H Q _ => ∃ (a : Addr) (ns : W), vs = [.ref a] ∧ (SqL K H a (ns.map V.str) ∨ SqT K H a (ns.map V.str)) ∧ ns.length < 1000 ∧ ∀ (H' : Hp) (p : Addr) (zs : W), Same H H' → H' p = some (.tup (zs.map V.str)) → UpX zs → (∀ z, z ∈ zs ↔ z ∈ ns) → Q (.ref p) H'
theorem ok_setOf (F : Fun K "_set_of" "_set_of" sSetOf f fd) (T : Bl mg) : FnOk P w K mg base CX0 (k + 1) f fd ["names"] (spSetOf K) := by
  refine F.ok scSetOf (fun vs H Q E h => ?_) (fun cdv A outer s H vs Q E hr h => ?_)
  · obtain ⟨a, ns, rfl, _⟩ := h
    rfl
  obtain ⟨a, ns, rfl, hS, few, q⟩ := h
  refine ⟨_, pss_one (ps_ret (pe_callTy call_tuple_of (by rfl) T.tuple (by decide +kernel) (pa_cons (pe_callB (cr_sortX rfl hr.units) (by rfl) T.sorted (by decide +kernel) (pa_cons (pe_callTy (cr_setX rfl hr.units) (by rfl) T.set (by decide +kernel) (pa_cons (pv 0) pa_nil)) pa_nil)) pa_nil))), ?_⟩
  refine ⟨.ref a, rfl, a, ns, rfl, hS, few, fun b ms hb nd hm hl => ?_⟩
  refine ⟨b, ms, rfl, upd_same, by omega, fun zs p hz nz hlz rz hp => ?_⟩
  refine ⟨p, zs.map V.str, rfl, .inl ⟨SqL.of upd_same, fun l hl2 => ?_⟩⟩
  exact q _ l zs ((same_new hb _).trans ((same_new hp _).trans (same_new hl2 _))) upd_same (upX_of rz nz) fun z => (hz z).trans (hm z)
/-! ### is_world -/
def spIsWorld (K : PySem.W.Frag) : Sp := fun vs H Q _ => ∃ (x : V) (d : PyData), vs = [x] ∧ Dp K H x d ∧ oddW d ∧ ∀ H', Same H H' → Q (.bl (worldD d)) H'
theorem ok_isWorld {f1 f2 : Addr} {fd1 fd2 : FuncData} (F : Fun K "is_world" "is_world" sIsWorld f fd) (T : Bl mg) (G1 : FnOk P w K mg base CX0 k f1 fd1 ["thing"] (spAreNames K)) (b1 : Binds K fd1 ["thing"] []) (k1 : PySem.W.keepIn K (.ref f1) = true) (m1 : mg "_are_names" = some (.ref f1))
    (G2 : FnOk P w K mg base CX0 k f2 fd2 ["names"] (spSetOf K)) (b2 : Binds K fd2 ["names"] []) (k2 : PySem.W.keepIn K (.ref f2) = true) (m2 : mg "_set_of" = some (.ref f2)) : FnOk P w K mg base CX0 (k + 1) f fd ["thing"] (spIsWorld K) := by
  refine F.ok scIsWorld (fun vs H Q E h => ?_) (fun cdv A outer s H vs Q E hr h => ?_)
  · obtain ⟨x, d, rfl, _⟩ := h
    rfl
  obtain ⟨x, d, rfl, hx, odd, q⟩ := h
  refine ⟨_, pss_one (ps_ret (pe_and (pe_callB call_isi (by rfl) T.isi PyProof.Rows.boot_isinstance (pa_cons (pv 0) (pa_cons (pe_bltn (v := .ty "tuple") (by rfl) T.tuple (by decide +kernel) rfl) pa_nil)))
    (pe_and (pe_call G1 hr (by rfl) m1 k1 b1 .nil pass0 (pa_cons (pv 0) pa_nil)) (pe_one (pe_cmpR (op_eqD hr.units) (pv 0) (pe_call G2 hr (by rfl) m2 k2 b2 .nil pass0 (pa_cons (pv 0) pa_nil)) (nomark _)))))), ?_⟩
  have cases' : (∃ t : String, TyX K H x (.type t) ∧ PySem.W.kitOne K (.type t) (.type "tuple") = some false ∧ worldD d = false) ∨ ∃ ds, d = .tuple ds := by
    have ty := tyx_dp hx
    cases d with
    | none => exact .inl ⟨"NoneType", ty, kit_ty (by decide +kernel), rfl⟩
    | bool _ => exact absurd odd id
    | dict _ => exact absurd odd id
    | int i => exact .inl ⟨"int", ty, kit_ty (by decide +kernel), rfl⟩
    | list ds => exact .inl ⟨"list", ty, kit_ty (by decide +kernel), rfl⟩
    | str z => exact .inl ⟨"str", ty, kit_ty (by decide +kernel), rfl⟩
    | tuple ds => exact .inr ⟨ds, rfl⟩
  rcases cases' with ⟨t, h1, h2, h3⟩ | ⟨ds, rfl⟩
  · refine ⟨x, rfl, x, .ty "tuple", .type t, .type "tuple", false, rfl, .ty "tuple", h1, h2, false, rfl, iteF ?_⟩
    have := q H fun _ _ e => e
    rw [h3] at this
    exact this
  obtain ⟨o1, o2⟩ := odd
  cases hx with
  | @tup a xs _ hS hxs =>
    refine ⟨.ref a, rfl, .ref a, .ty "tuple", .type "tuple", .type "tuple", true, rfl, .ty "tuple", tyx_tup hS, kit_ty (by decide +kernel), true, rfl, iteT ?_⟩
    refine ⟨.ref a, rfl, a, xs, ds, rfl, hS, hxs, o1, by omega, fun H1 s1 => ⟨_, rfl, ?_⟩⟩
    have val : ∀ b, ds.all nameD = b → worldD (.tuple ds) = (b && decide (UpX (ds.map strOf))) := fun b e => by
      rw [← e]
      rfl
    refine ite2 (fun c => ?_) (fun c => ?_)
    · rw [val _ c] at q
      obtain ⟨e, hn⟩ := strs_of c
      have ex : xs = (ds.map strOf).map V.str := dps_str (K := K) (H := H) (by rw [← e]; exact hxs)
      rw [ex] at hS
      refine ⟨.ref a, rfl, .ref a, rfl, a, ds.map strOf, rfl, .inr (same_tup s1 hS), by rw [List.length_map]; omega, fun H2 p zs s2 hp hu hm => ?_⟩
      have hz : ∀ x ∈ zs, nameB x = true := fun x hx => hn x ((hm x).mp hx)
      refine ⟨wd (ds.map strOf), wd zs, to_wd (same_tup (s1.trans s2) hS), to_wd (SqT.of hp), shaped_names hn, shaped_names hz, ?_⟩
      rw [eqv_wd]
      have ed : decide (ds.map strOf = zs) = decide (UpX (ds.map strOf)) := by
        by_cases u : UpX (ds.map strOf)
        · rw [decide_eq_true u, decide_eq_true (upX_one u hu fun z => (hm z).symm)]
        · rw [decide_eq_false u, decide_eq_false fun z => u (by rw [z]; exact hu)]
      rw [ed]
      exact q H2 (s1.trans s2)
    · rw [val false (by simpa using c)] at q
      exact q H1 s1
/-! ### is_rule -/
def spIsRule (K : PySem.W.Frag) : Sp := fun vs H Q _ => ∃ (x : V) (r : Rl), vs = [x] ∧ Dp K H x (rd r) ∧ IsR r ∧ ∀ H', Same H H' → Q (.bl true) H'
theorem ok_isRule {f1 : Addr} {fd1 : FuncData} (F : Fun K "is_rule" "is_rule" sIsRule f fd) (T : Bl mg) (G1 : FnOk P w K mg base CX0 k f1 fd1 ["thing"] (spIsWorld K)) (b1 : Binds K fd1 ["thing"] []) (k1 : PySem.W.keepIn K (.ref f1) = true) (m1 : mg "is_world" = some (.ref f1)) :
    FnOk P w K mg base CX0 (k + 1) f fd ["thing"] (spIsRule K) := by
  refine F.ok scIsRule (fun vs H Q E h => ?_) (fun cdv A outer s H vs Q E hr h => ?_)
  · obtain ⟨x, r, rfl, _⟩ := h
    rfl
  obtain ⟨x, r, rfl, hx, hr', q⟩ := h
  refine ⟨_, pss_one (ps_ret (pe_and (pe_callB call_isi (by rfl) T.isi PyProof.Rows.boot_isinstance (pa_cons (pv 0) (pa_cons (pe_bltn (v := .ty "tuple") (by rfl) T.tuple (by decide +kernel) rfl) pa_nil)))
    (pe_and (pe_cmpR op_eq (pe_callB call_len_seq (by rfl) T.len PySem.boot_len (pa_cons (pv 0) pa_nil)) pe_int (nomark _)) (pe_one (pe_callB (cr_all rfl) (by rfl) T.all (by decide +kernel) (pa_cons (pe_lc (own := [("part", 1)]) (g := gName 1) (by rfl) scIsRule.nd (pi_tup (pv 0)) (blkOk_by (N := ["thing", "part"]) (sc := defScope sIsRule) (by decide +kernel))
        (fun _ _ _ _ _ => pg_name (i := 1) scIsRule.nd rfl (Or.inl rfl)) (fun _ _ _ _ _ => pts_nil) (fun _ _ _ _ _ => pe_call G1 hr (by rfl) m1 k1 b1 .nil pass0 (pa_cons (pv 1) pa_nil))) pa_nil)))))), ?_⟩
  unfold rd at hx
  cases hx with
  | @tup a xs _ hS hxs =>
    have xl : xs.length = 4 := by
      rw [dpAll_len hxs, List.length_map]
      rfl
    refine ⟨.ref a, rfl, .ref a, .ty "tuple", .type "tuple", .type "tuple", true, rfl, .ty "tuple", tyx_tup hS, kit_ty (by decide +kernel), true, rfl, iteT ?_⟩
    refine ⟨.ref a, rfl, a, xs, rfl, .inr hS, rfl, true, congrArg V.bl (decide_eq_true (by rw [xl]; rfl)), iteT ?_⟩
    refine ⟨.ref a, rfl, a, rfl, ⟨_, hS⟩, fun D hD => ?_⟩
    refine lc_tup (xs := xs) (fun i H1 => Same H H1 ∧ H1 D = some (.lst (List.replicate i (V.bl true)))) ⟨same_new hD _, upd_same⟩ (fun i H1 _ hI => same_tup hI.1 hS) (fun i x H1 hxi hI => ?_) (fun H1 hI => ?_)
    · obtain ⟨sm, hd⟩ := hI
      obtain ⟨d, hdi, hxd⟩ := dpAll_at' hxs hxi
      obtain ⟨t, ht, rfl⟩ := map_at hdi
      have wt := hr'.all t (List.mem_of_getElem? ht)
      have il : i < (parts r).length := (List.getElem?_eq_some_iff.mp ht).1
      have il' : i < 4 := il
      refine ⟨rfl, x, rfl, x, wd t, rfl, (Stay.same sm).wd hxd, oddW_wd wt, fun H2 sm2 => ?_⟩
      rw [worldD_wd wt]
      refine ⟨_, sm2 _ _ hd, small_line' (by rw [List.length_replicate]; omega), same_put (sm.trans sm2) hD, ?_⟩
      rw [upd_same, show List.replicate (i + 1) (V.bl true) = List.replicate i (V.bl true) ++ [V.bl true] from List.replicate_succ']
    · obtain ⟨sm, hd⟩ := hI
      refine ⟨D, List.replicate xs.length true, rfl, SqL.of (by rw [List.map_replicate]; exact hd), ?_⟩
      have z : (List.replicate xs.length true).all id = true := by simp
      rw [z]
      exact q H1 sm
end
end Rw
namespace Rw
open PySem PySem.Spec PyProof.Rows L2
/-! ### programs -/
/-- an instance of the class at C whose rules are S -/
def PgAt (K : PySem.W.Frag) (C : Addr) (H : Hp) (v : V) (S : List Rl) : Prop := ∃ a dx t ys, v = .ref a ∧ H a = some (.ins C dx [(("_rules" : Str), .ref t)]) ∧ SqT K H t ys ∧ DpAll K H ys (S.map rd)
theorem PgAt.same {K : PySem.W.Frag} {C : Addr} {H H' : Hp} {v : V} {S : List Rl} (h : PgAt K C H v S) (e : Same H H') : PgAt K C H' v S := by
  obtain ⟨a, dx, t, ys, h1, h2, h3, h4⟩ := h
  exact ⟨a, dx, t, ys, h1, e _ _ h2, same_tup e h3, dpAll_same e _ _ h4⟩
theorem mut_ins {H : Hp} {p C dx : Addr} {fs : List (Str × V)} (h : H p = some (.ins C dx fs)) : Mut (H p) := by
  rw [h]
  exact True.intro
section
variable {P : Program} {w : World} {K : PySem.W.Frag} {mg : Str → Option Value} {base : Heap} {f : Addr} {fd : FuncData} {k : Nat}
/-- Program.__init__(self, *rules) -/
def spInit (K : PySem.W.Frag) (C : Addr) : Sp := fun vs H Q _ => ∃ (x dx : Addr) (xs : List V) (L : List Rl), vs = .ref x :: xs ∧ H x = some (.ins C dx []) ∧ DpAll K H xs (L.map rd) ∧ (∀ r ∈ L, IsR r) ∧ L.length < 76 ∧
  ∀ H' S, (∀ b u, b ≠ x → H b = some u → H' b = some u) → Srt S L → S.length < 76 → PgAt K C H' (.ref x) S → Q .non H'
theorem ok_init {C f1 : Addr} {fd1 : FuncData} {name qual : Str} {kV doc pm cdv ct oc : Value} {an od : Option Addr} {osl : Array (Option Value)}
    (lk : K.lookup f = some ⟨oc, od, .func (PySem.W.fnOf name qual (defArgs sInit) (defBody sInit) (defScope sInit) .none kV doc pm an cdv ct), osl⟩) (hcd : PySem.W.codeIn K cdv qual = true) (T : Bl mg) (c : Cls K C) (n : NoAttr K C "_rules")
    (G1 : FnOk P w K mg base CX0 k f1 fd1 ["thing"] (spIsRule K)) (b1 : Binds K fd1 ["thing"] []) (k1 : PySem.W.keepIn K (.ref f1) = true) (m1 : mg "is_rule" = some (.ref f1)) : FnR P w K mg base CX0 (k + 1) f (spInit K C) := by
  have main := StX.fn_star (CX := CX0) (P := P) (w := w) (mg := mg) (base := base) (k := k) (N := ["self", "rules", "place", "row"]) (ps := ["self"]) (pv := "rules") (sp := fun vs H Q E => ∃ (x p dx : Addr) (xs : List V) (L : List Rl), vs = [.ref x, .ref p] ∧ H x = some (.ins C dx []) ∧ SqT K H p xs ∧ DpAll K H xs (L.map rd) ∧ (∀ r ∈ L, IsR r) ∧ L.length < 76 ∧
      ∀ H' S, (∀ b u, b ≠ x → H b = some u → H' b = some u) → Srt S L → S.length < 76 → PgAt K C H' (.ref x) S → Q .non H') lk hcd scInit StX.cxUp_none (StX.bind_star1 (p1 := "self") (pv := "rules") (B := fun vs => bindArgs (PySem.W.fnOf name qual (defArgs sInit) (defBody sInit) (defScope sInit) .none kV doc pm an cdv ct) { pos := vs }) (fun _ => by first | rfl | with_unfolding_all rfl) (fun _ _ _ => by first | rfl | with_unfolding_all rfl)) (fun A outer s H vs Q E hr h => ?_)
  · intro A outer s H us vs Q E hr e0 r h
    refine main A outer s H us vs Q E hr e0 r ?_
    obtain ⟨x, dx, xs, L, rfl, hx, hxs, hL, few, q⟩ := h
    refine ⟨[.ref x], xs, rfl, rfl, small_line (by rw [dpAll_len hxs, List.length_map]; omega), fun p hp => ?_⟩
    have sp := same_new hp (.tup xs)
    exact ⟨x, p, dx, xs, L, rfl, sp _ _ hx, SqT.of upd_same, dpAll_same sp _ _ hxs, hL, few, fun H' S hb hs hl hg => q H' S (fun b u nb e => hb b u nb (sp _ _ e)) hs hl hg⟩
  obtain ⟨x, p, dx, xs, L, rfl, hx, hp, hxs, hL, few, q⟩ := h
  have xl : xs.length = L.length := by rw [dpAll_len hxs, List.length_map]
  refine ⟨_, PSs.nox (pss_cons (ps_for PassesOwn.never rfl (pi_enumT (by rfl) T.enum (pa_cons (pv 1) pa_nil)) (pg_tup (by rfl) (pgs_cons (pg_name (i := 2) scInit.nd rfl (.inl rfl)) (pgs_cons (pg_name (i := 3) scInit.nd rfl (.inl rfl)) pgs_nil)))
      (pss_one (ps_if (pt_not (pt_val (pe_call G1 hr (by rfl) m1 k1 b1 .nil pass0 (pa_cons (pv 3) pa_nil)))) pss_never pss_nil)))
    (pss_one (ps_fld (pv 0) (pe_callTy call_tuple_of (by rfl) T.tuple (by decide +kernel) (pa_cons (pe_callB (cr_sortR rfl hr.units) (by rfl) T.sorted (by decide +kernel) (pa_cons (pe_callTy (cr_setR rfl hr.units) (by rfl) T.set (by decide +kernel) (pa_cons (pv 1) pa_nil)) pa_nil)) pa_nil)) rfl))), ?_⟩
  refine ⟨.ref p, rfl, p, xs, rfl, hp, for_enumT (xs := xs) (fun i σ H1 => (∃ y2 y3, σ = [some (.ref x), some (.ref p), y2, y3]) ∧ Same H H1) ⟨⟨none, none, rfl⟩, fun _ _ e => e⟩ (fun i σ H1 _ hI => same_tup hI.2 hp) (fun i v σ H1 T0 hv hI hT => ?_) (fun σ H1 hI => ?_)⟩
  · obtain ⟨⟨y2, y3, rfl⟩, sm⟩ := hI
    obtain ⟨d, hd, hvd⟩ := dpAll_at' hxs hv
    obtain ⟨r, hr', rfl⟩ := map_at hd
    have st := same_new hT (.tup [.int (i : Int), v])
    refine ⟨T0, [.int (i : Int), v], rfl, SqT.of upd_same, rfl, .int (i : Int), [v], rfl, v, [], rfl, rfl, ?_⟩
    refine ⟨v, rfl, v, r, rfl, dp_same (sm.trans st) _ _ hvd, hL r (List.mem_of_getElem? hr'), fun H2 s2 => ⟨true, rfl, iteF ⟨⟨_, _, rfl⟩, sm.trans (st.trans s2)⟩⟩⟩
  · obtain ⟨⟨y2, y3, rfl⟩, sm⟩ := hI
    refine ⟨.ref p, rfl, p, xs, L, rfl, .inr (same_tup sm hp), dpAll_same sm _ _ hxs, few, fun a M ha hM isP hall => ?_⟩
    have sa := same_new ha (TSetO w a M)
    refine ⟨a, M, L, rfl, upd_same, (fun e he => ⟨(hM e he).1, (Stay.same sa).dp _ _ (hM e he).1.ok (hM e he).2⟩), isP, hall, fun ys S l hS hSl hys hl => ?_⟩
    have sl := same_new hl (.lst ys)
    refine ⟨l, ys, rfl, .inl ⟨SqL.of upd_same, fun t ht => ?_⟩⟩
    have st := same_new ht (.tup ys)
    have all := sm.trans (sa.trans (sl.trans st))
    refine ⟨.ref x, rfl, x, C, dx, _, rfl, all _ _ hx, c, n, by show 0 < 1000; decide, ?_⟩
    have hx' := all _ _ hx
    have stp := Stay.put (mut_ins hx') (.ins C dx [(("_rules" : Str), .ref t)])
    refine q _ S (fun b u nb e => ?_) hS hSl ⟨x, dx, t, ys, rfl, upd_same, stp.seq (SqT.of upd_same), (Stay.same st |>.trans stp).dpAll _ _ (okDs_rd S) ((Stay.same sl).dpAll _ _ (okDs_rd S) hys)⟩
    rw [upd_ne nb]
    exact all _ _ e
/-- a program made: where the class is called with the rules L -/
theorem made_ok {C : Addr} {H : Hp} {xs : List V} {L : List Rl} {Q : VK} {E : XK} (hx : DpAll K H xs (L.map rd)) (hL : ∀ r ∈ L, IsR r) (few : L.length < 76) (q : ∀ H' v S, Same H H' → Srt S L → S.length < 76 → PgAt K C H' v S → Q v H') :
    ∀ x dx, H x = none → H dx = none → dx ≠ x → spInit K C (.ref x :: xs) (upd (upd H dx (.own x)) x (.ins C dx [])) (fun v H2 => v = .non ∧ Q (.ref x) H2) E := fun x dx hx0 hd0 ne => by
  have s1 := same_new hd0 (.own x)
  have hx1 : (upd H dx (.own x)) x = none := by
    rw [upd_ne ne.symm]
    exact hx0
  have s2 := s1.trans (same_new hx1 (.ins C dx []))
  refine ⟨x, dx, xs, L, rfl, upd_same, (Stay.same s2).dpAll _ _ (okDs_rd L) hx, hL, few, fun H' S hb hS hl hg => ⟨rfl, q H' _ S (fun b u e => ?_) hS hl hg⟩⟩
  exact hb b u (ne_of_none e hx0) (s2 _ _ e)
/-- Program.of(cls, rules) -/
def spOf (K : PySem.W.Frag) (C : Addr) : Sp := fun vs H Q _ => ∃ (l : Addr) (xs : List V) (L : List Rl), vs = [.ref C, .ref l] ∧ (SqT K H l xs ∨ SqL K H l xs) ∧ DpAll K H xs (L.map rd) ∧ (∀ r ∈ L, IsR r) ∧ L.length < 76 ∧ ∀ H' v S, Same H H' → Srt S L → S.length < 76 → PgAt K C H' v S → Q v H'
theorem ok_of {C f1 : Addr} (F : Fun K "of" "Program.of" sOf f fd) (M : Mk K C f1) (G : FnR P w K mg base CX0 k f1 (spInit K C)) : FnOk P w K mg base CX0 (k + 2) f fd ["cls", "rules"] (spOf K C) := by
  refine F.ok scOf (fun vs H Q E h => ?_) (fun cdv A outer s H vs Q E hr h => ?_)
  · obtain ⟨l, xs, L, rfl, _⟩ := h
    rfl
  obtain ⟨l, xs, L, rfl, hS, hx, hL, few, q⟩ := h
  refine ⟨_, pss_one (ps_ret (pe_makeSL (i := 0) M G hr rfl (.inl rfl) pass0 (pv 1))), ?_⟩
  exact ⟨rfl, .ref l, rfl, l, xs, rfl, hS, made_ok hx hL few q⟩
/-- program.rules -/
def spRules (K : PySem.W.Frag) (C : Addr) : Sp := fun vs H Q _ => ∃ (v : V) (S : List Rl), vs = [v] ∧ PgAt K C H v S ∧ ∀ t ys, SqT K H t ys → DpAll K H ys (S.map rd) → Q (.ref t) H
theorem ok_rules {C : Addr} (F : Fun K "rules" "Program.rules" sRules f fd) (c : Cls K C) (n : NoAttr K C "_rules") : FnOk P w K mg base CX0 (k + 1) f fd ["self"] (spRules K C) := by
  refine F.ok scRules (fun vs H Q E h => ?_) (fun cdv A outer s H vs Q E hr h => ?_)
  · obtain ⟨v, S, rfl, _⟩ := h
    rfl
  obtain ⟨v, S, rfl, ⟨a, dx, t, ys, rfl, h1, h2, h3⟩, q⟩ := h
  refine ⟨_, pss_one (ps_ret (pe_fld (pv 0) rfl)), ?_⟩
  exact ⟨.ref a, rfl, a, C, dx, _, .ref t, rfl, h1, c, n, rfl, q t ys h2 h3⟩
end
end Rw
namespace Rw
open PySem PySem.Spec PyProof.Rows L2 PySem.Froz
/-! ### comprehensions of any depth: one level of their loops -/
def turnOf (tg : Expr) (ifs : List Expr) (pos : Pos) (it : Value) (env : Env) (bk : Sem PySem.Fin) (c : Code) : Sem PySem.Fin := do
  standAt pos
  let r ← pyNext it
  match r with
  | none => pure (PySem.Fin.done Flow.next)
  | some v => do
    letOwnedTupleGo tg it v
    assign tg env v
    let ok ← forIn ifs true fun c r => if r = true then do let ok ← PySem.isTrue c env (eval c env); pure (ForInStep.yield ok) else pure (ForInStep.yield r)
    if ok = true then bk else again c
def Le (σ σ' : L2.St) : Prop := σ.length = σ'.length ∧ ∀ (i : Nat) (v : V), σ[i]? = some (some v) → σ'[i]? = some (some v)
theorem Le.refl (σ : L2.St) : Le σ σ := ⟨rfl, fun _ _ e => e⟩
theorem Le.trans {a b c : L2.St} (h : Le a b) (g : Le b c) : Le a c := ⟨h.1.trans g.1, fun i v e => g.2 i v (h.2 i v e)⟩
theorem Le.wipe (σ : L2.St) (vs : List Nat) : Le (wipe σ vs) σ := ⟨wipe_length σ vs, fun i v e => (wipe_some e).1⟩
theorem Le.wipes {σ : L2.St} {vs vs1 : List Nat} (h : ∀ i ∈ vs1, i ∈ vs) : Le (L2.wipe σ vs) (L2.wipe σ vs1) := ⟨(wipe_length σ vs).trans (wipe_length σ vs1).symm, fun i v e => by
  obtain ⟨h1, h2⟩ := wipe_some e
  rw [wipe_out fun z => h2 (h i z)]
  exact h1⟩
theorem loop_lvl {Y : Cx} {elt : Expr} {gens : List Comprehension} {scope : Scope} {ep : Pos} {d : Nat} {tg : Expr} {ifs : List Expr} {pos : Pos} {it : Addr} {acc : Value} {bk : Sem PySem.Fin} {fp : List Addr} {tn : Nat → Heap → Prop} {J : It} {pins : List (Addr × Obj)} {σ0 : L2.St} {g : TG} {tt : TT} {B : L2.St → Hp → (Hp → Prop) → Prop} {C : L2.St → Prop} {R : Result → Shared → Prop} {N : Hp → Prop} {W : Nat → Nat → Hp → Prop}
    (hc : Y.calm = true) (hxe : ∀ e s, ¬ Y.xe e s) (hT : compTurn (.SetComp elt gens scope ep) d (.ref it) acc Y.env = turnOf tg ifs pos (.ref it) Y.env bk (.compLoop (.SetComp elt gens scope ep) d (.ref it) acc Y.env)) (T : Turn Y.prog Y.w Y.K tg J fp it tn) (hg : PG Y tg g) (ht : PTs Y ifs tt)
    (hb : ∀ pl s σ H (Nx : Hp → Prop) (Q : PySem.Fin → Shared → Prop) (E : Value → Shared → Prop), L2.Inv Y (pins ++ pl) σ H s → C σ → B σ H Nx → (∀ σ' H' s', L2.Inv Y (pins ++ pl) σ' H' s' → Le σ0 σ' → Nx H' → Q (.again (.compLoop (.SetComp elt gens scope ep) d (.ref it) acc Y.env)) s') → wpAny (model Y.prog Y.w) Y.A bk Q E s)
    (hC : ∀ σ, C σ → Le σ0 σ)
    (turn : ∀ i m H, W i m H → (J.stop i H ∧ N H) ∨ (J.go i H ∧ ∃ Nx : Hp → Prop, (∀ H', Nx H' → ∃ m', m' < m ∧ W (i + 1) m' H') ∧ ∀ x H', J.yld i H x H' → g x σ0 H' fun σ2 H2 => C σ2 ∧ tt σ2 H2 fun b H3 => if b = true then B σ2 H3 Nx else Nx H3))
    (hR : ∀ s' H', L2.Inv Y pins σ0 H' s' → N H' → R (.ok .next) s') :
    ∀ (n i : Nat) (H : Hp) (s : Shared), L2.Inv Y pins σ0 H s → tn i s.heap → (∀ b ∈ fp, FpOk Y pins H b) → W i n H → codeAny (model Y.prog Y.w) Y.A (.compLoop (.SetComp elt gens scope ep) d (.ref it) acc Y.env) R s := by
  intro n i H s I0 t0 f0 w0
  refine codeAny_loop (c := .compLoop (.SetComp elt gens scope ep) d (.ref it) acc Y.env) rfl (fun n s' => ∃ i H', L2.Inv Y pins σ0 H' s' ∧ tn i s'.heap ∧ (∀ b ∈ fp, FpOk Y pins H' b) ∧ W i n H') (fun n s5 ⟨i, H5, I5, st5, n5, w5⟩ => ?_) n ⟨i, H, I0, t0, f0, w0⟩
  show wpAny (model Y.prog Y.w) Y.A (Sem.onRaise (compTurn (.SetComp elt gens scope ep) d (.ref it) acc Y.env) fun x => do noteFrame x Y.env; theTreesLotGoes x) _ _ s5
  refine wpAny_noted ?_
  rw [hT]
  unfold turnOf
  refine wpAny_bind (wpAny_standAt (wpAny_bind ?_))
  rcases turn i n H5 w5 with ⟨stop, qq⟩ | ⟨go, Nx, hNx, step⟩
  · refine thnF (T.done Y rfl rfl rfl hc i pins s5 σ0 H5 (fun _ _ => False) I5 n5 st5 stop) fun r s6 ⟨hr, I6⟩ => ?_
    subst hr
    exact wpAny_pure (hR s6 H5 I6 qq)
  · refine thnF (T.item Y rfl rfl rfl hc i pins s5 σ0 H5 (fun _ _ => False) I5 n5 st5 go) fun r s6 ⟨u, hr, h6⟩ => ?_
    subst hr
    refine wpAny_bind (thnF h6 fun _ s7 ⟨x, H7, I7, r7, y7, st7, n7⟩ => ?_)
    have fp7 : ∀ b ∈ fp, FpOk Y pins H7 b := fun b hb => ⟨n7 b hb, (n5 b hb).2⟩
    have I7' := Inv.pinned I7 fp7 (T.obj (i + 1) s7.heap st7)
    refine wpAny_bind (wpAny_mono (hg.run (pins ++ pinsAt fp s7.heap) s7 σ0 H7 x u _ I7' r7 (step x H7 y7)) (fun _ s8 ⟨σ8, H8, I8, hw8, q8⟩ => ?_) fun e s z => (hxe e s z).elim)
    have fin : ∀ {s' : Shared} {H' : Hp} {σ' : L2.St}, L2.Inv Y (pins ++ pinsAt fp s7.heap) σ' H' s' → Le σ0 σ' → Nx H' → ∃ m, m < n ∧ ∃ i H', L2.Inv Y pins σ0 H' s' ∧ tn i s'.heap ∧ (∀ b ∈ fp, FpOk Y pins H' b) ∧ W i m H' := fun {s' H' σ'} I' le nx => by
      obtain ⟨m', hm, w'⟩ := hNx H' nx
      have pin' : ∀ b ∈ fp, ∀ o, s7.heap.get? b = some o → s'.heap.get? b = some o ∧ H' b = none := fun b hb o e => by
        have z := I'.pin (b, o) (List.mem_append_right Y.pn (List.mem_append_right pins (mem_pinsAt hb e)))
        exact ⟨z.1, z.2.1⟩
      refine ⟨m', hm, i + 1, H', Inv.weak (Inv.unpinned I') le.1 le.2, T.keep (i + 1) s7.heap s'.heap st7 fun b hb o e => (pin' b hb o e).1, fun b hb => ?_, w'⟩
      obtain ⟨o, e, _⟩ := T.obj (i + 1) s7.heap st7 b hb
      exact ⟨(pin' b hb o e).2, (n5 b hb).2⟩
    refine wpAny_bind (wpAny_mono (ht.run _ s8 σ8 H8 _ I8 q8) (fun b s9 ⟨H9, I9, q9⟩ => ?_) fun e s z => (hxe e s z).elim)
    cases b with
    | false =>
      have q9' : Nx H9 := q9
      exact wpAny_pure ⟨rfl, fin I9 (hC σ8 hw8) q9'⟩
    | true =>
      have q9' : B σ8 H9 Nx := q9
      exact hb (pinsAt fp s7.heap) s9 σ8 H9 Nx _ _ I9 hw8 q9' fun σ' H' s' I' le nx => ⟨rfl, fin I' le nx⟩
/-- the start of a level -/
theorem start_lvl {P : Program} {w : World} {A : Around} {R : Result → Shared → Prop} {s : Shared} {elt : Expr} {gens : List Comprehension} {scope : Scope} {ep : Pos} {d : Nat} {t i : Expr} {ifs : List Expr} {it acc : Value} {env : Env} (hcl : gens[d]? = some ⟨t, i, ifs, 0⟩)
    (h0 : codeAny (model P w) A (.compLoop (.SetComp elt gens scope ep) d it acc env) R s) (h : wpAny (model P w) A (pyIter it) (fun it' s' => codeAny (model P w) A (.compLoop (.SetComp elt gens scope ep) d it' acc env) R s') (notedBy (model P w) A env fun x s' => R (.error x) s') s) :
    codeAny (model P w) A (.compStart (.SetComp elt gens scope ep) d it acc env) R s := by
  refine codeAny_of_tree ?_
  show wpAny (model P w) A (Sem.onRaise (compStart (.SetComp elt gens scope ep) d it acc env) fun x => do noteFrame x env; standAt theWindowsPlace) _ _ s
  refine wpAny_notedAt ?_
  unfold compStart
  rw [show (clausesOf (.SetComp elt gens scope ep))[d]? = some ⟨t, i, ifs, 0⟩ from hcl]
  show wpAny (model P w) A (ask >>= _) _ _ s
  refine wpAny_bind (wpAny_askSetting ?_)
  split
  · exact wpAny_pure ⟨rfl, h0⟩
  · refine wpAny_bind (wpAny_rule ?_)
    refine wpAny_bind (wpAny_standAt (wpAny_bind (wpAny_mono h (fun it' s' h' => wpAny_pure ⟨rfl, h'⟩) fun _ _ z => z)))
/-! ### a set of texts, one more put in -/
theorem addX_ok {X : Cx} {pins : List (Addr × Obj)} {σ : L2.St} {H : Hp} {s : Shared} {E : Value → Shared → Prop} {D : Addr} {ms : List Str} {z : Str} {u : Tok} {Q : Value → Shared → Prop} (I : L2.Inv X pins σ H s) (hD : H D = some (XSetO X.prog X.w D ms)) (room : ms.length + 1 < scanBound)
    (h : ∀ s' ms', ms'.Nodup → (∀ y, y ∈ ms' ↔ y = z ∨ y ∈ ms) → ms'.length ≤ ms.length + 1 → L2.Inv X pins σ (upd H D (XSetO X.prog X.w D ms')) s' → Q .none s') : wpAny (model X.prog X.w) X.A (call (.builtin "set.add") [.ref D, .str z u]) Q E s := by
  obtain ⟨es, ep, t, R⟩ := (I.hok D _ hD).1
  refine wpAny_call_entry PySem.F.slot_set_add ⟨_, R.ob, rfl⟩ PySem.F.entry_set_add ?_ (PySem.F.args_set_add_2 _ _)
  unfold Builtin.«set.add»
  show wpAny _ _ (Builtin.Frozenset.oneOther "add" _ >>= _) _ _ _
  unfold Builtin.Frozenset.oneOther
  refine wpAny_bind (wpAny_bind (wpAny_pure (wpAny_bind (wpAny_pure (wpAny_pure ?_)))))
  unfold setAdd
  refine wpAny_bind (wpAny_holding (wpAny_bind ((strKind X.prog X.w).pyHash (k := z) (is_str _ _) ?_)))
  refine put_text (s := { s with toks := s.toks + 1 }) R room fun b h' ms' es' ep' t' sb R' hm hl' => ?_
  refine wpAny_pure ⟨.none, rfl, h _ ms' R'.nd hm hl' ?_⟩
  exact Inv.write (I.tok (s.toks + 1)) (by rw [hD]; exact True.intro) (Or.inl rfl) (fun b u hb hu => (sb.2 b hb).trans hu) ⟨_, R'.ob⟩ ⟨⟨es', ep', t', R'⟩, ⟨_, R'.ob⟩, fun h1 h2 ⟨a1, a2, a3, a4⟩ kk => ⟨a1, a2, a3, a4.moved kk⟩⟩
/-! ### {e for x in a for y in b for z in c}, of texts -/
def lvlR (wi : TI) (g : TG) (vs : List Nat) (B : L2.St → Hp → (Hp → Prop) → Prop) : L2.St → Hp → (Hp → Prop) → Prop := fun σ H N => wi σ H fun J H1 => ∃ W : Nat → Nat → Hp → Prop, (∃ m, W 0 m H1) ∧
  ∀ i m H, W i m H → (J.stop i H ∧ N H) ∨ (J.go i H ∧ ∃ Nx : Hp → Prop, (∀ H', Nx H' → ∃ m', m' < m ∧ W (i + 1) m' H') ∧ ∀ x H', J.yld i H x H' → g x (wipe σ vs) H' fun σ2 H2 => wipe σ2 vs = wipe σ vs ∧ B σ2 H2 Nx)
def lastR (P : Program) (w : World) (D : Addr) (te : TE) : L2.St → Hp → (Hp → Prop) → Prop := fun σ H N => te σ H fun y H1 => ∃ z ms, y = .str z ∧ H1 D = some (XSetO P w D ms) ∧ ms.length + 1 < scanBound ∧ ∀ ms', ms'.Nodup → (∀ u, u ∈ ms' ↔ u = z ∨ u ∈ ms) → ms'.length ≤ ms.length + 1 → N (upd H1 D (XSetO P w D ms'))
def tSc3 (P : Program) (w : World) (wi0 wi1 wi2 : TI) (g0 g1 g2 : TG) (te : TE) (vs vs1 vs2 : List Nat) : TE := fun σ H Q => wi0 σ H fun J H1 => ∀ D, H1 D = none → ∃ W : Nat → Nat → Hp → Prop, (∃ m, W 0 m (upd H1 D (XSetO P w D []))) ∧
  ∀ i m H, W i m H → (J.stop i H ∧ Q (.ref D) H) ∨ (J.go i H ∧ ∃ Nx : Hp → Prop, (∀ H', Nx H' → ∃ m', m' < m ∧ W (i + 1) m' H') ∧ ∀ x H', J.yld i H x H' → g0 x (wipe σ vs) H' fun σ2 H2 => wipe σ2 vs = wipe σ vs ∧ lvlR wi1 g1 vs1 (lvlR wi2 g2 vs2 (lastR P w D te)) σ2 H2 Nx)
section
variable {elt t0 i0 t1 i1 t2 i2 : Expr} {scope : Scope} {ep : Pos}
abbrev gens3 (t0 i0 t1 i1 t2 i2 : Expr) : List Comprehension := [⟨t0, i0, [], 0⟩, ⟨t1, i1, [], 0⟩, ⟨t2, i2, [], 0⟩]
def bkIn (i1 : Expr) (e : Expr) (d : Nat) (acc : Value) (env : Env) (c : Code) : Sem PySem.Fin := do
  let x ← eval i1 env
  standAt i1.pos
  let x ← foldedSetIterable i1 env x
  let it ← holding [x] (pyIter x)
  let _ ← runOwn (.compStart e (d + 1) it acc env) env
  again c
def bkLast (elt : Expr) (acc : Value) (env : Env) (c : Code) : Sem PySem.Fin := do
  let _ ← (do let v ← eval elt env; standAt elt.pos; let _ ← call (.builtin "set.add") [acc, v]; pure () : Sem Unit)
  again c
theorem turn3_0 (it acc : Value) (env : Env) : compTurn (.SetComp elt (gens3 t0 i0 t1 i1 t2 i2) scope ep) 0 it acc env = turnOf t0 [] i0.pos it env (bkIn i1 (.SetComp elt (gens3 t0 i0 t1 i1 t2 i2) scope ep) 0 acc env (.compLoop (.SetComp elt (gens3 t0 i0 t1 i1 t2 i2) scope ep) 0 it acc env)) (.compLoop (.SetComp elt (gens3 t0 i0 t1 i1 t2 i2) scope ep) 0 it acc env) := rfl
theorem turn3_1 (it acc : Value) (env : Env) : compTurn (.SetComp elt (gens3 t0 i0 t1 i1 t2 i2) scope ep) 1 it acc env = turnOf t1 [] i1.pos it env (bkIn i2 (.SetComp elt (gens3 t0 i0 t1 i1 t2 i2) scope ep) 1 acc env (.compLoop (.SetComp elt (gens3 t0 i0 t1 i1 t2 i2) scope ep) 1 it acc env)) (.compLoop (.SetComp elt (gens3 t0 i0 t1 i1 t2 i2) scope ep) 1 it acc env) := rfl
theorem turn3_2 (it acc : Value) (env : Env) : compTurn (.SetComp elt (gens3 t0 i0 t1 i1 t2 i2) scope ep) 2 it acc env = turnOf t2 [] i2.pos it env (bkLast elt acc env (.compLoop (.SetComp elt (gens3 t0 i0 t1 i1 t2 i2) scope ep) 2 it acc env)) (.compLoop (.SetComp elt (gens3 t0 i0 t1 i1 t2 i2) scope ep) 2 it acc env) := rfl
theorem bk_step {Y : Cx} {elt : Expr} {gens : List Comprehension} {scope : Scope} {ep : Pos} {d : Nat} {tg iter : Expr} {acc : Value} {wi : TI} {g : TG} {vs : List Nat} {B : L2.St → Hp → (Hp → Prop) → Prop} {bkf : Value → Sem PySem.Fin} {D : L2.St → L2.St → Prop}
    (hc : Y.calm = true) (hxe : ∀ e s, ¬ Y.xe e s) (hgen : gens[d + 1]? = some ⟨tg, iter, [], 0⟩) (hs : ∀ x, foldedSetIterable iter Y.env x = pure x) (hi : PI Y tg iter wi) (hg : PG Y tg g)
    (hT : ∀ it, compTurn (.SetComp elt gens scope ep) (d + 1) it acc Y.env = turnOf tg [] iter.pos it Y.env (bkf it) (.compLoop (.SetComp elt gens scope ep) (d + 1) it acc Y.env))
    (hb : ∀ it pl s σ H (Nx : Hp → Prop) (Q : PySem.Fin → Shared → Prop) (E : Value → Shared → Prop), L2.Inv Y pl σ H s → B σ H Nx → (∀ σ' H' s', L2.Inv Y pl σ' H' s' → D σ σ' → Nx H' → Q (.again (.compLoop (.SetComp elt gens scope ep) (d + 1) it acc Y.env)) s') → wpAny (model Y.prog Y.w) Y.A (bkf it) Q E s)
    (hD : ∀ σ σ2 σ', wipe σ2 vs = wipe σ vs → D σ2 σ' → Le (wipe σ vs) σ') :
    ∀ pl s σ H (Nx : Hp → Prop) (Q : PySem.Fin → Shared → Prop) (E : Value → Shared → Prop) (c : Code), L2.Inv Y pl σ H s → lvlR wi g vs B σ H Nx → (∀ H' s', L2.Inv Y pl (wipe σ vs) H' s' → Nx H' → Q (.again c) s') → wpAny (model Y.prog Y.w) Y.A (bkIn iter (.SetComp elt gens scope ep) d acc Y.env c) Q E s := by
  intro pl s σ H Nx Q E c I hL hQ
  unfold bkIn
  refine wpAny_bind (wpAny_mono (hi.run pl s σ H _ I hL) (fun v s1 h1 => ?_) (fun e s z => (hxe e s z).elim))
  refine wpAny_bind (wpAny_standAt ?_)
  rw [hs v]
  refine wpAny_bind (wpAny_pure ?_)
  refine wpAny_bind (wpAny_holding (wpAny_mono h1 (fun itv s2 ⟨it, fp, tn, J, H2, e, I2, T, st2, f2, W, ⟨m, w0⟩, turn⟩ => ?_) (fun e s z => (hxe e s z).elim)))
  subst e
  have I2' : L2.Inv Y pl (wipe σ vs) H2 s2 := Inv.weak I2 (Le.wipe σ vs).1 (Le.wipe σ vs).2
  have loop : ∀ R : Result → Shared → Prop, (∀ s' H', L2.Inv Y pl (wipe σ vs) H' s' → Nx H' → R (.ok .next) s') → codeAny (model Y.prog Y.w) Y.A (.compLoop (.SetComp elt gens scope ep) (d + 1) (.ref it) acc Y.env) R s2 := fun R hR =>
    loop_lvl (Y := Y) (σ0 := wipe σ vs) (C := fun σ2 => wipe σ2 vs = wipe σ vs) (B := B) (tt := tYes) (W := W) (N := Nx) hc hxe (hT (.ref it)) T hg pts_nil
      (fun pl2 s σ2 H Nx2 Q E I hC hB hq => hb (.ref it) (pl ++ pl2) s σ2 H Nx2 Q E I hB fun σ' H' s' I' hd nx => hq σ' H' s' I' (hD σ σ2 σ' hC hd) nx)
      (fun σ2 hC => by have z := Le.wipe σ2 vs; rw [hC] at z; exact z) turn hR m 0 H2 s2 I2' st2 f2 w0
  refine wpAny_bind (wpAny_runOwn (h := none) (start_lvl hgen ?_ ?_))
  · exact loop _ fun s' H' I' nx => wpAny_pure (hQ H' s' I' nx)
  · exact T.self _ 0 s2 _ _ st2 (loop _ fun s' H' I' nx => wpAny_pure (hQ H' s' I' nx))
theorem last_step {Y : Cx} {elt : Expr} {D : Addr} {te : TE} (hxe : ∀ e s, ¬ Y.xe e s) (he : PE Y elt te) :
    ∀ pl s σ H (Nx : Hp → Prop) (Q : PySem.Fin → Shared → Prop) (E : Value → Shared → Prop) (c : Code), L2.Inv Y pl σ H s → lastR Y.prog Y.w D te σ H Nx → (∀ H' s', L2.Inv Y pl σ H' s' → Nx H' → Q (.again c) s') → wpAny (model Y.prog Y.w) Y.A (bkLast elt (.ref D) Y.env c) Q E s := by
  intro pl s σ H Nx Q E c I hL hQ
  unfold bkLast
  refine wpAny_bind (wpAny_bind (wpAny_mono (he.run pl s σ H _ I hL) (fun v s1 ⟨y, H1, I1, ry, z, ms, ey, hD, room, next⟩ => ?_) (fun e s z => (hxe e s z).elim)))
  subst ey
  obtain ⟨u, rfl⟩ := ry
  exact wpAny_bind (wpAny_standAt (wpAny_bind (addX_ok I1 hD room fun s' ms' nd hm hl I' => wpAny_pure (wpAny_pure (hQ _ s' I' (next ms' nd hm hl))))))
/-- a set comprehension of three clauses, of texts -/
theorem pe_sc3 {X : Cx} {own : List (Str × Nat)} {wi0 wi1 wi2 : TI} {g0 g1 g2 : TG} {te : TE} {vs1 vs2 : List Nat} (hc : X.calm = true) (hN : X.N.Nodup) (hi : PI X t0 i0 wi0) (ok : BlkOk X.N X.env.scope scope own) (hv1 : ∀ i ∈ vs1, i ∈ own.map (·.2)) (hv2 : ∀ i ∈ vs2, i ∈ vs1)
    (hg0 : ∀ s H C cl fp, PG (X.blk s H scope (compEnvC scope cl C X.env) fp) t0 g0) (hi1 : ∀ s H C cl fp, PI (X.blk s H scope (compEnvC scope cl C X.env) fp) t1 i1 wi1) (hg1 : ∀ s H C cl fp, PG (X.blk s H scope (compEnvC scope cl C X.env) fp) t1 g1)
    (hi2 : ∀ s H C cl fp, PI (X.blk s H scope (compEnvC scope cl C X.env) fp) t2 i2 wi2) (hg2 : ∀ s H C cl fp, PG (X.blk s H scope (compEnvC scope cl C X.env) fp) t2 g2) (he : ∀ s H C cl fp, PE (X.blk s H scope (compEnvC scope cl C X.env) fp) elt te)
    (hs : ∀ x, foldedSetIterable i0 X.env x = pure x := by intro x; rfl) (hs1 : ∀ env x, foldedSetIterable i1 env x = pure x := by intro env x; rfl) (hs2 : ∀ env x, foldedSetIterable i2 env x = pure x := by intro env x; rfl) :
    PE X (.SetComp elt (gens3 t0 i0 t1 i1 t2 i2) scope ep) (tSc3 X.prog X.w wi0 wi1 wi2 g0 g1 g2 te (own.map (·.2)) vs1 vs2) := by
  refine ⟨fun pins s σ H Q I h => ?_⟩
  rw [PpSet.eval_SetComp]
  have hfree : ∀ y ∈ scope.names, y.2 = NameKind.free → ∃ c, X.env.cells.lookup y.1 = some c := fun y hy e => (ok.free y hy e).elim (fun k => I.ok.has y.1 (.inl k)) fun k => I.ok.has y.1 (.inr k)
  refine wpAny_comprehension_free (g := ⟨t0, i0, [], 0⟩) (gs := [⟨t1, i1, [], 0⟩, ⟨t2, i2, [], 0⟩]) rfl hs (closure_ok hfree) ok.kind (fun y hy e => by rw [ok.uniq y hy, e]) ?_
  refine thn (hi.run pins s σ H _ I h) fun xv s1 hx => thn hx fun itv s2 ⟨it, fp, tn, J, H2, e, I2, T, st2, f2, q⟩ => ?_
  subst e
  refine PpSet.newSet_ok ?_
  refine newEnv_comp ?_
  have hDn := I2.hok.fresh (Nat.le_refl _)
  obtain ⟨W, ⟨m0, w0⟩, turn⟩ := q s2.heap.objs.size hDn
  have ho : (s2.heap.push (newSetObj X.w)).get? s2.heap.objs.size = some (newSetObj X.w) := Heap.get?_push_size s2.heap rfl
  have R0 : XSet X.prog X.w (s2.heap.push (newSetObj X.w)) s2.heap.objs.size [] #[] 0 (.fresh 0 0 (!X.w.params.followText "set-order")) := ⟨ho, TxOk.nil rfl, List.nodup_nil, List.Pairwise.nil, led_new X.w⟩
  have new : ObjOk X.prog X.w (upd H2 s2.heap.objs.size (XSetO X.prog X.w s2.heap.objs.size [])) (s2.heap.push (newSetObj X.w)) s2.heap.objs.size (XSetO X.prog X.w s2.heap.objs.size []) :=
    ⟨⟨_, _, _, R0⟩, ⟨_, ho⟩, fun h1 h2 ⟨a1, a2, a3, a4⟩ kk => ⟨a1, a2, a3, a4.moved kk⟩⟩
  have I3 : L2.Inv X pins σ (upd H2 s2.heap.objs.size (XSetO X.prog X.w s2.heap.objs.size [])) { s2 with heap := s2.heap.push (newSetObj X.w) } := I2.laid (t' := s2.toks) (fun b o e => Heap.get?_push_of_some _ e) (Nat.le_refl _) new
  have sz : ∀ b ∈ fp, b < s2.heap.objs.size := fun b hb => by
    obtain ⟨o, e, _⟩ := T.obj 0 s2.heap st2 b hb
    exact Heap.lt_size e
  have f3 : ∀ b ∈ fp, FpOk X pins (upd H2 s2.heap.objs.size (XSetO X.prog X.w s2.heap.objs.size [])) b ∧ b < (s2.heap.push (newSetObj X.w)).objs.size := fun b hb => by
    have hlt := sz b hb
    refine ⟨⟨?_, (f2 b hb).2⟩, ?_⟩
    · rw [upd_ne (Nat.ne_of_lt hlt)]
      exact (f2 b hb).1
    · rw [Heap.size_push]
      exact Nat.lt_succ_of_lt hlt
  have I4 := block_start I3 ok hN f3
  have st4 : tn 0 (pushCells ((s2.heap.push (newSetObj X.w)).push { cls := .type "dict", data := .dict #[] }) scope.names) := T.keep 0 s2.heap _ st2 fun b hb o e => pushCells_keeps scope.names _ b o (Heap.get?_push_of_some _ (Heap.get?_push_of_some _ e))
  let s3 : Shared := { s2 with heap := s2.heap.push (newSetObj X.w) }
  let H3 : Hp := upd H2 s2.heap.objs.size (XSetO X.prog X.w s2.heap.objs.size [])
  let cl := cellsFrom (s3.heap.objs.size + 1) scope.names (cloFrom X.env.cells scope.names [])
  let Y : Cx := X.blk s3 H3 scope (compEnvC scope cl s3.heap.objs.size X.env) fp
  have hxe : ∀ e s, ¬ Y.xe e s := fun _ _ z => z
  have stat : ∀ {σ' H' s'}, L2.Inv Y [] σ' H' s' → (∀ b ∈ fp, H' b = none) → ∀ b ∈ fp, FpOk Y [] H' b := fun {σ' H' s'} I' hn b hb => ⟨hn b hb, (I'.ok.exf b hb).1, I'.ok.exfs b hb, .inl hb, fun x c e => (I'.ok.exf b hb).2 x c e, fun p hp => by
    have z : p ∈ ([] : List (Addr × Obj)) := hp
    exact nomatch z⟩
  have last := last_step (Y := Y) (D := s2.heap.objs.size) hxe (he s3 H3 s3.heap.objs.size cl fp)
  have mid := bk_step (Y := Y) (scope := scope) (ep := ep) (d := 1) (acc := .ref s2.heap.objs.size) (vs := vs2) (D := fun σ σ' => σ' = σ) hc hxe (gens := gens3 t0 i0 t1 i1 t2 i2) rfl (hs2 _) (hi2 s3 H3 s3.heap.objs.size cl fp) (hg2 s3 H3 s3.heap.objs.size cl fp) (fun it => turn3_2 it _ _)
    (fun it pl s σ H Nx Q E I hB hq => last pl s σ H Nx Q E _ I hB fun H' s' I' nx => hq σ H' s' I' rfl nx) (fun σ σ2 σ' hw hd => by subst hd; rw [← hw]; exact Le.wipe _ _)
  have top := bk_step (Y := Y) (scope := scope) (ep := ep) (d := 0) (acc := .ref s2.heap.objs.size) (vs := vs1) (D := fun σ σ' => σ' = wipe σ vs2) hc hxe (gens := gens3 t0 i0 t1 i1 t2 i2) rfl (hs1 _) (hi1 s3 H3 s3.heap.objs.size cl fp) (hg1 s3 H3 s3.heap.objs.size cl fp) (fun it => turn3_1 it _ _)
    (fun it pl s σ H Nx Q E I hB hq => mid pl s σ H Nx Q E _ I hB fun H' s' I' nx => hq _ H' s' I' rfl nx) (fun σ σ2 σ' hw hd => by subst hd; rw [← hw]; exact Le.wipes hv2)
  have loop : ∀ R : Result → Shared → Prop, (∀ s' H', L2.Inv Y [] (wipe σ (own.map (·.2))) H' s' → Q (.ref s2.heap.objs.size) H' → R (.ok .next) s') → codeAny (model Y.prog Y.w) Y.A (.compLoop (.SetComp elt (gens3 t0 i0 t1 i1 t2 i2) scope ep) 0 (.ref it) (.ref s2.heap.objs.size) Y.env) R _ := fun R hR =>
    loop_lvl (Y := Y) (σ0 := wipe σ (own.map (·.2))) (pins := []) (C := fun σ2 => wipe σ2 (own.map (·.2)) = wipe σ (own.map (·.2))) (B := lvlR wi1 g1 vs1 (lvlR wi2 g2 vs2 (lastR Y.prog Y.w s2.heap.objs.size te))) (tt := tYes) (W := W) (N := fun H' => Q (.ref s2.heap.objs.size) H') hc hxe (turn3_0 _ _ _) T (hg0 s3 H3 s3.heap.objs.size cl fp) pts_nil
      (fun pl2 s σ2 H Nx2 Q E I hC hB hq => top pl2 s σ2 H Nx2 Q E _ I hB fun H' s' I' nx => hq _ H' s' I' (by rw [← hC]; exact Le.wipes hv1) nx)
      (fun σ2 hC => by have z := Le.wipe σ2 (own.map (·.2)); rw [hC] at z; exact z) turn hR m0 0 H3 _ I4 st4 (stat I4 fun b hb => (f3 b hb).1.1) w0
  have fin : ∀ s6 H5, L2.Inv Y [] (wipe σ (own.map (·.2))) H5 s6 → Q (.ref s2.heap.objs.size) H5 → compPost (model X.prog X.w) X.A X.xe none (EP X pins σ Q) (.ref s2.heap.objs.size) s3.heap.objs.size (.ok .next) s6 := fun s6 H5 I6 qq => by
    have I7 : L2.Inv X pins σ H5 s6 := Inv.call' I3 I6.os I6.base I6.hok I6.bare fun b hb => ⟨(f3 b hb).1.2.2.2.1, (f3 b hb).1.2.1, (f3 b hb).1.2.2.2.2.1, (f3 b hb).1.2.2.2.2.2⟩
    have nC : H5 s3.heap.objs.size = none := I6.free
    obtain ⟨m, hn, _⟩ := I6.loc
    obtain ⟨k0, k1, k2, k3, k4, k5⟩ := Inv.fpOk I3 (Nat.le_refl _) nC
    exact ⟨m, hn, fun h'' sb => ⟨.ref s2.heap.objs.size, H5, Inv.turned I7 (fun b o hb e => (sb.2 b hb).trans e) k0 k1 k3 k4 k5, rfl, qq⟩⟩
  refine start_lvl (d := 0) (t := t0) (i := i0) (ifs := []) rfl ?_ ?_
  · exact loop _ fin
  · exact T.self _ 0 _ _ _ st4 (loop _ fin)
end
end Rw
namespace Rw
open PySem PySem.Spec PyProof.Rows L2
/-! ### Program.names -/
theorem scNames : FnScope ["self", "row", "part", "name"] ["self"] (defScope sNames) := ⟨rfl, rfl, rfl, by decide +kernel, rfl, by decide +kernel, by decide +kernel⟩
/-- a walk over a tuple, the heap followed, as one level of a comprehension reads it -/
theorem lvl_tup {K : PySem.W.Frag} {a : Addr} {xs : List V} {H0 : Hp} {Qd : Hp → Prop} {B : V → Hp → (Hp → Prop) → Prop} (Pv : Nat → Hp → Prop) (h0 : Pv 0 H0) (hl : ∀ i H, i ≤ xs.length → Pv i H → SqT K H a xs) (hs : ∀ i x H, xs[i]? = some x → Pv i H → B x H (Pv (i + 1))) (hd : ∀ H, Pv xs.length H → Qd H) :
    ∃ W : Nat → Nat → Hp → Prop, (∃ m, W 0 m H0) ∧ ∀ i m H, W i m H → ((Itt K a).stop i H ∧ Qd H) ∨ ((Itt K a).go i H ∧ ∃ Nx : Hp → Prop, (∀ H', Nx H' → ∃ m', m' < m ∧ W (i + 1) m' H') ∧ ∀ x H', (Itt K a).yld i H x H' → B x H' Nx) := by
  refine ⟨fun i m H => m = xs.length - i ∧ i ≤ xs.length ∧ Pv i H, ⟨xs.length, by simp, Nat.zero_le _, h0⟩, ?_⟩
  rintro i m H ⟨rfl, hi, p⟩
  have hS := hl i H hi p
  by_cases hlt : i < xs.length
  · refine .inr ⟨⟨xs, xs[i], hS, List.getElem?_eq_getElem hlt⟩, Pv (i + 1), fun H' p' => ⟨xs.length - (i + 1), by omega, rfl, hlt, p'⟩, fun y H' yy => ?_⟩
    obtain ⟨rfl, fv⟩ := yy
    exact hs i y _ (fv xs hS) p
  · have e : i = xs.length := by omega
    subst e
    exact .inl ⟨⟨xs, hS, Nat.le_refl _⟩, hd H p⟩
/-- the names of a rule, of rules -/
def ownN (r : Rl) : W := (parts r).flatMap id
def namesL (S : List Rl) : W := S.flatMap ownN
theorem ownN_len {r : Rl} (h : IsR r) : (ownN r).length ≤ 240 := by
  unfold ownN parts
  simp only [List.flatMap_cons, List.flatMap_nil, List.length_append, List.length_nil, id]
  have := h.h.few
  have := h.d.few
  have := h.n.few
  have := h.b.few
  omega
section
variable {P : Program} {w : World} {K : PySem.W.Frag} {mg : Str → Option Value} {base : Heap} {f : Addr} {fd : FuncData} {k : Nat}
/-- the sorted names of a program whose names are among few -/
def spNames (K : PySem.W.Frag) (C : Addr) : Sp := fun vs H Q _ => ∃ (v : V) (S : List Rl) (bd : W), vs = [v] ∧ PgAt K C H v S ∧ (∀ r ∈ S, IsR r) ∧ (∀ z ∈ namesL S, z ∈ bd) ∧ bd.length ≤ 60 ∧ ∀ H' t (ns : W), Same H H' → SqT K H' t (ns.map V.str) → IsW ns → (∀ z, z ∈ ns ↔ z ∈ namesL S) → Q (.ref t) H'
theorem ok_names {C : Addr} (F : Fun K "names" "Program.names" sNames f fd) (T : Bl mg) (c : Cls K C) (n : NoAttr K C "_rules") : FnOk P w K mg base CX0 (k + 1) f fd ["self"] (spNames K C) := by
  refine F.ok scNames (fun vs H Q E h => ?_) (fun cdv A outer s H vs Q E hr h => ?_)
  · obtain ⟨v, S, bd, rfl, _⟩ := h
    rfl
  obtain ⟨v, S, bd, rfl, ⟨a, dx, t, ys, rfl, h1, h2, h3⟩, hI, hbd, b40, q⟩ := h
  refine ⟨_, pss_one (ps_ret (pe_callTy call_tuple_of (by rfl) T.tuple (by decide +kernel) (pa_cons (pe_callB (cr_sortX rfl hr.units) (by rfl) T.sorted (by decide +kernel) (pa_cons
    (pe_sc3 (own := [("row", 1), ("part", 2), ("name", 3)]) (vs1 := [2, 3]) (vs2 := [3]) (g0 := gName 1) (g1 := gName 2) (g2 := gName 3) (wi1 := iTup K (tVar 1)) (wi2 := iTup K (tVar 2)) (te := tVar 3) rfl scNames.nd (pi_tup (pe_fld (pv 0) rfl)) (blkOk_by (N := ["self", "row", "part", "name"]) (sc := defScope sNames) (by decide +kernel)) (by decide) (by decide)
      (fun _ _ _ _ _ => pg_name (i := 1) scNames.nd rfl (Or.inl rfl)) (fun _ _ _ _ _ => pi_tup (pv 1)) (fun _ _ _ _ _ => pg_name (i := 2) scNames.nd rfl (Or.inl rfl)) (fun _ _ _ _ _ => pi_tup (pv 2)) (fun _ _ _ _ _ => pg_name (i := 3) scNames.nd rfl (Or.inl rfl)) (fun _ _ _ _ _ => pv 3)) pa_nil)) pa_nil))), ?_⟩
  have yl : ys.length = S.length := by rw [dpAll_len h3, List.length_map]
  have few : ∀ ms : W, ms.Nodup → (∀ z ∈ ms, z ∈ bd) → ms.length ≤ 60 := fun ms nd h => Nat.le_trans (nodup_len_le nd h) b40
  have sb : scanBound = 4096 := rfl
  refine ⟨.ref a, rfl, a, C, dx, _, .ref t, rfl, h1, c, n, rfl, t, rfl, ⟨_, h2⟩, fun D hD => ?_⟩
  refine lvl_tup (xs := ys) (fun i H1 => Same H H1 ∧ ∃ ms : W, H1 D = some (XSetO P w D ms) ∧ ms.Nodup ∧ ∀ z, z ∈ ms ↔ z ∈ namesL (S.take i)) ⟨same_new hD _, [], upd_same, List.nodup_nil, fun z => Iff.rfl⟩ (fun i H1 _ hI => same_tup hI.1 h2) (fun i x H1 hx hI1 => ?_) (fun H1 hI1 => ?_)
  · obtain ⟨sm, ms, hm, nd, mem⟩ := hI1
    obtain ⟨dd, hdd, hxd⟩ := dpAll_at' h3 hx
    obtain ⟨r, hr0, rfl⟩ := map_at hdd
    have hrS := List.mem_of_getElem? hr0
    have hr' := hI r hrS
    have own_bd : ∀ z ∈ ownN r, z ∈ bd := fun z hz => hbd z (List.mem_flatMap.mpr ⟨r, hrS, hz⟩)
    have top_bd : ∀ z ∈ namesL (S.take i), z ∈ bd := fun z hz => by
      obtain ⟨q, hq, hz⟩ := List.mem_flatMap.mp hz
      exact hbd z (List.mem_flatMap.mpr ⟨q, List.mem_of_mem_take hq, hz⟩)
    have step : namesL (S.take (i + 1)) = namesL (S.take i) ++ ownN r := by
      unfold namesL
      rw [take_snoc hr0, List.flatMap_append]
      simp
    unfold rd at hxd
    cases hxd with
    | @tup b xs _ hT hxs =>
      have xl : xs.length = (parts r).length := by rw [dpAll_len hxs, List.length_map]
      refine ⟨rfl, .ref b, rfl, b, rfl, ⟨_, same_tup sm hT⟩, ?_⟩
      refine lvl_tup (xs := xs) (fun j H2 => Same H H2 ∧ ∃ ms : W, H2 D = some (XSetO P w D ms) ∧ ms.Nodup ∧ ∀ z, z ∈ ms ↔ z ∈ namesL (S.take i) ∨ z ∈ ((parts r).take j).flatMap id) ⟨sm, ms, hm, nd, fun z => by rw [mem z]; simp⟩ (fun j H2 _ hI => same_tup hI.1 hT) (fun j y H2 hy hI2 => ?_) (fun H2 hI2 => ?_)
      · obtain ⟨sm2, ms2, hm2, nd2, mem2⟩ := hI2
        obtain ⟨d, hdi, hyd⟩ := dpAll_at' hxs hy
        obtain ⟨p, hp, rfl⟩ := map_at hdi
        obtain ⟨u, rfl, hU⟩ := of_wd hyd
        have in_own : ∀ z ∈ ((parts r).take j).flatMap id, z ∈ ownN r := fun z hz => by
          obtain ⟨q, hq, hz⟩ := List.mem_flatMap.mp hz
          exact List.mem_flatMap.mpr ⟨q, List.mem_of_mem_take hq, hz⟩
        have p_own : ∀ z ∈ p, z ∈ ownN r := fun z hz => List.mem_flatMap.mpr ⟨p, List.mem_of_getElem? hp, hz⟩
        refine ⟨rfl, .ref u, rfl, u, rfl, ⟨_, same_tup sm2 hU⟩, ?_⟩
        refine lvl_tup (xs := p.map V.str) (fun l H3 => Same H H3 ∧ ∃ ms : W, H3 D = some (XSetO P w D ms) ∧ ms.Nodup ∧ ∀ z, z ∈ ms ↔ (z ∈ namesL (S.take i) ∨ z ∈ ((parts r).take j).flatMap id) ∨ z ∈ p.take l) ⟨sm2, ms2, hm2, nd2, fun z => by rw [mem2 z]; simp⟩ (fun l H3 _ hI => same_tup hI.1 hU) (fun l v H3 hv hI3 => ?_) (fun H3 hI3 => ?_)
        · obtain ⟨sm3, ms3, hm3, nd3, mem3⟩ := hI3
          obtain ⟨z, hz, rfl⟩ := map_at hv
          have f3 := few ms3 nd3 fun z hz => by
            rcases (mem3 z).mp hz with (h | h) | h
            · exact top_bd z h
            · exact own_bd z (in_own z h)
            · exact own_bd z (p_own z (List.mem_of_mem_take h))
          refine ⟨rfl, .str z, rfl, z, ms3, rfl, hm3, by omega, fun ms' nd' hm' _ => ⟨same_put sm3 hD, ms', upd_same, nd', fun u => ?_⟩⟩
          rw [hm' u, mem3 u, take_snoc hz, List.mem_append, List.mem_singleton]
          exact ⟨fun h => h.elim (fun e => .inr (.inr e)) fun h => h.elim .inl fun h => .inr (.inl h), fun h => h.elim (fun h => .inr (.inl h)) fun h => h.elim (fun h => .inr (.inr h)) .inl⟩
        · obtain ⟨sm3, ms3, hm3, nd3, mem3⟩ := hI3
          rw [List.length_map, List.take_length] at mem3
          refine ⟨sm3, ms3, hm3, nd3, fun z => ?_⟩
          rw [mem3 z, take_snoc hp, List.flatMap_append, List.mem_append]
          simp [or_assoc]
      · obtain ⟨sm2, ms2, hm2, nd2, mem2⟩ := hI2
        rw [xl, List.take_length] at mem2
        refine ⟨sm2, ms2, hm2, nd2, fun z => ?_⟩
        rw [mem2 z, step, List.mem_append]
        exact Iff.rfl
  · obtain ⟨sm, ms, hm, nd, mem⟩ := hI1
    rw [yl, List.take_length] at mem
    have f1 := few ms nd fun z hz => hbd z ((mem z).mp hz)
    refine ⟨D, ms, rfl, hm, by omega, fun zs L hz nz hlz rz hL => ?_⟩
    have sL := same_new hL (.lst (zs.map V.str))
    refine ⟨L, _, rfl, .inl ⟨SqL.of upd_same, fun t2 ht2 => ?_⟩⟩
    have s2 := same_new ht2 (.tup (zs.map V.str))
    have nam : ∀ z ∈ namesL S, nameB z = true := fun z hz => by
      obtain ⟨r, hr, hz⟩ := List.mem_flatMap.mp hz
      obtain ⟨p, hp, hz⟩ := List.mem_flatMap.mp hz
      exact ((hI r hr).all p hp).names z hz
    have memz : ∀ z, z ∈ zs ↔ z ∈ namesL S := fun z => (hz z).trans (mem z)
    exact q _ t2 zs (sm.trans (sL.trans s2)) (SqT.of upd_same) ⟨fun z hz => nam z ((memz z).mp hz), upX_of rz nz, by omega⟩ memz
end
end Rw
namespace Rw
open PySem PySem.Spec PyProof.Rows L2
/-! ### names in and out -/
/-- a list or a tuple of names -/
def Ws (K : PySem.W.Frag) (H : Hp) (v : V) (ns : W) : Prop := ∃ a, v = .ref a ∧ (SqL K H a (ns.map V.str) ∨ SqT K H a (ns.map V.str))
theorem Ws.same {K : PySem.W.Frag} {H H' : Hp} {v : V} {ns : W} (h : Ws K H v ns) (e : Same H H') : Ws K H' v ns := by
  obtain ⟨a, rfl, h⟩ := h
  exact ⟨a, rfl, h.elim (fun z => .inl (e.seq z)) (fun z => .inr (same_tup e z))⟩
theorem Ws.wd {K : PySem.W.Frag} {H : Hp} {v : V} {ns : W} (h : Dp K H v (Rw.wd ns)) : Ws K H v ns := by
  obtain ⟨a, rfl, h'⟩ := of_wd h
  exact ⟨a, rfl, .inr h'⟩
def meets (ns ms : W) : Bool := ns.any fun z => decide (z ∈ ms)
def minus (ns ms : W) : W := ns.filter fun z => !decide (z ∈ ms)
def hasK (kvs : List (Key × V)) (z : Str) : Bool := (valV kvs (.inr z)).isSome
theorem scENotProg : FnScope ["self", "thing"] ["self", "thing"] (defScope sENotProg) := ⟨rfl, rfl, rfl, by decide +kernel, rfl, by decide +kernel, by decide +kernel⟩
section
variable {P : Program} {w : World} {K : PySem.W.Frag} {mg : Str → Option Value} {base : Heap} {f : Addr} {fd : FuncData} {k : Nat}
theorem ok_eNotProg {C : Addr} (F : FunD K "__init__" "NotAProgram.__init__" (defArgs sENotProg) (defBody sENotProg) (defScope sENotProg) [.non] [] f fd) (O : OexC K C) (no : PySem.W.findIn K (.ref C) "thing" = some none) : FnOk P w K mg base CX0 (k + 1) f fd ["self", "thing"] (spErr C "thing") := by
  refine F.ok scENotProg (fun vs H Q E h => ?_) (fun cdv A outer s H vs Q E hr h => ?_)
  · obtain ⟨a, v, rfl, _⟩ := h
    rfl
  obtain ⟨a, v, rfl, ha, q⟩ := h
  exact ⟨_, PSs.nox (pss_one (ps_ost (pv 0) (pv 1))), v, rfl, .ref a, rfl, a, C, rfl, O, no, .inl ⟨ha, fun dx h1 h2 => q dx h1 h2⟩⟩
end
/-- what the text's own error class with one field is -/
structure ErrT (P : Program) (w : World) (K : PySem.W.Frag) (mg : Str → Option Value) (base : Heap) (k : Nat) (x : Str) (n : Str) (C : Addr) : Prop where
  oex : OexC K C
  ex : ∃ (fI : Addr) (fd : FuncData), PySem.W.findIn K (.ref C) "__init__" = some (some (.ref fI)) ∧ PySem.W.typeIn K (.ref fI) = some (.type "function") ∧ FnOk P w K mg base CX0 k fI fd ["self", n] (spErr C n) ∧ Binds K fd ["self", n] []
  m : mg x = some (.ref C)
/-- what a program's class says of what is no program -/
structure PgC (K : PySem.W.Frag) (mg : Str → Option Value) (C : Addr) : Prop where
  yes : PySem.W.kitOne K (.ref C) (.ref C) = some true
  non : PySem.W.kitOne K (.type "NoneType") (.ref C) = some false
  bool : PySem.W.kitOne K (.type "bool") (.ref C) = some false
  int : PySem.W.kitOne K (.type "int") (.ref C) = some false
  str : PySem.W.kitOne K (.type "str") (.ref C) = some false
  list : PySem.W.kitOne K (.type "list") (.ref C) = some false
  tuple : PySem.W.kitOne K (.type "tuple") (.ref C) = some false
  dict : PySem.W.kitOne K (.type "dict") (.ref C) = some false
  m : mg "Program" = some (.ref C)
  cls : Cls K C
  cg : PySem.W.findIn K (.ref C) "__class__" = some (some (.builtin "object.__class__"))
  sp : PySem.W.specialIn K (.builtin "object.__class__") "__get__" = some (some (.builtin "getset_descriptor.__get__"))
  tk : PySem.W.takesIn K (.builtin "object.__class__") = some true
  mro : PySem.W.mroIn K C (.type "object") = some true
section
variable {P : Program} {w : World} {K : PySem.W.Frag} {mg : Str → Option Value} {base : Heap} {f : Addr} {fd : FuncData} {k : Nat}
theorem PgC.odd {C : Addr} (T : PgC K mg C) : ∀ d : PyData, PySem.W.kitOne K (.type (tyName d)) (.ref C) = some false
  | .none => T.non
  | .bool _ => T.bool
  | .int _ => T.int
  | .str _ => T.str
  | .list _ => T.list
  | .tuple _ => T.tuple
  | .dict _ => T.dict
end
end Rw
namespace Rw
open PySem PySem.Spec PyProof.Rows L2
/-! ### a + b, a - b of instances of one class, v in a, len(a): by the class's own methods -/
section
variable {X : Cx}
def rBinP (C : Addr) (sp : Sp) (E : XK) : R2 := fun x y H Q => ∃ a dx fs b dy gs, x = .ref a ∧ y = .ref b ∧ H a = some (.ins C dx fs) ∧ H b = some (.ins C dy gs) ∧ sp [x, y] H Q E
theorem op_binP {CX : CXT} {op : Operator} {C g : Addr} {n : Nat} {sp : Sp} {E : XK} (hc : PySem.W.selfFirst X.K C = true) (hs : PySem.W.findIn X.K (.ref C) (PySem.dunder op.info.2) = some (some (.ref g))) (hf : PySem.W.isFn X.K (.ref g) = true) (F : FnR X.prog X.w X.K X.mg X.base CX n g sp) (hr : Room n X.A) (hx : Passes CX X E) :
    OpR X (binaryOp op) (rBinP C sp E) := by
  intro pins s σ H x y v u Q I rx ry h
  obtain ⟨a, dx, fs, b, dy, gs, rfl, rfl, ha, hb, q⟩ := h
  obtain rfl : v = Value.ref a := rx
  obtain rfl : u = Value.ref b := ry
  obtain ⟨mA, J, _⟩ := ins_get I.hok ha
  obtain ⟨mB, J', _⟩ := ins_get I.hok hb
  obtain ⟨od, J, _⟩ := J.look
  obtain ⟨od', J', _⟩ := J'.look
  obtain ⟨m, hF⟩ := I.fr
  refine PySem.W.binop_K hF I.ok.mod.kin J J'.type hc hs hf ?_
  refine wpAny_mono (wpAny_call (run_fnR F hr hx I (vs := [.ref a, .ref b]) (.cons rfl (.cons rfl .nil)) q)) (fun r s' h => ?_) fun e s' h => h
  obtain ⟨z, H', I', r, q⟩ := h
  exact SlX.cmpback r ⟨z, H', I', r, q⟩
/-- v in a: the method tells a bool -/
def rInP (C : Addr) (sp : Sp) (E : XK) : R2 := fun x y H Q => ∃ b dy gs, y = .ref b ∧ H b = some (.ins C dy gs) ∧ sp [y, x] H (fun v H' => ∃ t, v = .bl t ∧ Q (.bl t) H') E
theorem op_inP {CX : CXT} {C g : Addr} {n : Nat} {sp : Sp} {E : XK} (hs : PySem.W.findIn X.K (.ref C) "__contains__" = some (some (.ref g))) (hf : PySem.W.isFn X.K (.ref g) = true) (F : FnR X.prog X.w X.K X.mg X.base CX n g sp) (hr : Room n X.A) (hx : Passes CX X E) :
    OpR X (compareOp .In) (rInP C sp E) := by
  intro pins s σ H x y v u Q I rx ry h
  obtain ⟨b, dy, gs, rfl, hb, q⟩ := h
  obtain rfl : u = Value.ref b := ry
  obtain ⟨mB, J, _⟩ := ins_get I.hok hb
  obtain ⟨od, J, _⟩ := J.look
  obtain ⟨m, hF⟩ := I.fr
  refine PySem.W.in_K hF I.ok.mod.kin J hs hf ?_
  refine wpAny_mono (wpAny_call (run_fnR F hr hx I (vs := [.ref b, x]) (.cons rfl (.cons rx .nil)) q)) (fun r s' h => ?_) fun e s' h => h
  obtain ⟨z, H', I', r, t, rfl, q⟩ := h
  obtain rfl : _ = Value.bool t := r
  exact wpAny_pure ⟨.bl t, H', I', rfl, q⟩
/-- len(a) -/
def rLenP (C : Addr) (sp : Sp) (E : XK) : List V → Hp → VK → Prop := fun xs H Q => ∃ b dy gs, xs = [.ref b] ∧ H b = some (.ins C dy gs) ∧ sp xs H (fun v H' => ∃ i : Int, v = .int i ∧ 0 ≤ i ∧ i < 2 ^ 62 ∧ Q (.int i) H') E
theorem call_lenP {CX : CXT} {C g : Addr} {n : Nat} {sp : Sp} {E : XK} (hs : PySem.W.findIn X.K (.ref C) "__len__" = some (some (.ref g))) (hf : PySem.W.isFn X.K (.ref g) = true) (F : FnR X.prog X.w X.K X.mg X.base CX n g sp) (hr : Room (n + 1) X.A) (hx : Passes CX X E) :
    CallR X (.builtin "len") (rLenP C sp E) := by
  intro pins s σ H xs us Q I r h
  obtain ⟨b, dy, gs, rfl, hb, q⟩ := h
  rw [Vals.ref1 r]
  obtain ⟨mB, J, _⟩ := ins_get I.hok hb
  obtain ⟨od, J, _⟩ := J.look
  obtain ⟨m, hF⟩ := I.fr
  refine PySem.W.len_K hF I.ok.mod.kin J hs hf ?_
  have e0 := I.env0
  have e1 : Env0 X.prog X.w X.K X.mg X.base X.A.in1 X.stack s H := ⟨e0.frames, e0.mod, e0.bs, e0.bsz, e0.funs, e0.frf, e0.hok, e0.bare⟩
  refine wpAny_call (codeAny_mono (F X.A.in1 X.stack s H [.ref b] [.ref b] _ E hr.in1 e1 (.cons rfl .nil) q) fun r s' h => ?_)
  cases r with
  | error e => exact hx pins σ H s e s' I h
  | ok f =>
    cases f with
    | ret v =>
      obtain ⟨z, H', I', r, i, rfl, i0, i1, q⟩ := I.after h
      obtain ⟨t, rfl⟩ := r
      exact ⟨⟨i0, by omega⟩, .int i, H', I'.tok _, ⟨_, rfl⟩, q⟩
    | _ => exact h.elim
end
end Rw
namespace Rw
open PySem PySem.Spec PyProof.Rows L2
/-! ### Program's kind, +, in, len, == -/
abbrev nKind : List Str := ["self", "_", "denied", "heads"]
theorem scKind : FnScope nKind ["self"] (defScope sKind) := ⟨rfl, rfl, rfl, by decide +kernel, rfl, by decide +kernel, by decide +kernel⟩
theorem scAdd : FnScope ["self", "other", "rows"] ["self", "other"] (defScope sAdd) := ⟨rfl, rfl, rfl, by decide +kernel, rfl, by decide +kernel, by decide +kernel⟩
theorem scContains : FnScope ["self", "thing"] ["self", "thing"] (defScope sContains) := ⟨rfl, rfl, rfl, by decide +kernel, rfl, by decide +kernel, by decide +kernel⟩
theorem scPLen : FnScope ["self"] ["self"] (defScope sPLen) := ⟨rfl, rfl, rfl, by decide +kernel, rfl, by decide +kernel, by decide +kernel⟩
theorem scPEq : FnScope ["self", "other"] ["self", "other"] (defScope sPEq) := ⟨rfl, rfl, rfl, by decide +kernel, rfl, by decide +kernel, by decide +kernel⟩
def rLenK (K : PySem.W.Frag) : List V → Hp → VK → Prop := fun xs H Q => ∃ p ys, xs = [V.ref p] ∧ (SqL K H p ys ∨ SqT K H p ys) ∧ Q (.int ys.length) H
def kindS (S : List Rl) : Str := if S.any (fun r => decide (0 < r.2.1.length)) then ("any" : Str) else if S.any (fun r => decide (1 < r.1.length)) then ("plain" : Str) else ("single" : Str)
theorem catA_w {K : PySem.W.Frag} {H : Hp} {a b : Addr} {xs ys : List V} {Q : VK} (ha : SqT K H a xs) (hb : SqT K H b ys) (hz : xs.length + ys.length ≤ sizeLine) (q : ∀ c H0, Same H H0 → SqT K H0 c (xs ++ ys) → Q (.ref c) H0) : rCatA K (.ref a) (.ref b) H Q := by
  refine ⟨a, b, xs, ys, rfl, rfl, ha, hb, hz, fun e => ?_, fun _ e => ?_, fun _ _ p hp => ?_⟩
  · subst e
    exact q b H (fun _ _ e => e) hb
  · subst e
    exact q a H (fun _ _ e => e) (by rw [List.append_nil]; exact ha)
  · exact q p _ (same_new hp _) (SqT.of upd_same)
theorem dps_app12 {K : PySem.W.Frag} {H : Hp} {ys : List V} {es : List PyData} (h2 : DpAll K H ys es) : ∀ {xs : List V} {ds : List PyData}, DpAll K H xs ds → DpAll K H (xs ++ ys) (ds ++ es)
  | [], [], .nil => h2
  | _ :: _, _ :: _, .cons h t => .cons h (dps_app12 h2 t)
theorem ty_ins {K : PySem.W.Frag} {C : Addr} {mg : Str → Option Value} (G : PgC K mg C) {H : Hp} {a dx : Addr} {fs : List (Str × V)} (h : H a = some (.ins C dx fs)) : TyX K H (.ref a) (.ref C) := .base (.ins h G.cls G.cg G.sp G.tk G.mro)
section
variable {P : Program} {w : World} {K : PySem.W.Frag} {mg : Str → Option Value} {base : Heap} {f : Addr} {fd : FuncData} {k : Nat}
def spKind (K : PySem.W.Frag) (C : Addr) : Sp := fun vs H Q _ => ∃ (v : V) (S : List Rl), vs = [v] ∧ PgAt K C H v S ∧ S.length < 76 ∧ ∀ H', Same H H' → Q (.str (kindS S)) H'
theorem ok_kind {C : Addr} (F : Fun K "kind" "Program.kind" sKind f fd) (T : Bl mg) (c : Cls K C) (n : NoAttr K C "_rules") : FnOk P w K mg base CX0 (k + 1) f fd ["self"] (spKind K C) := by
  refine F.ok scKind (fun vs H Q E h => ?_) (fun cdv A outer s H vs Q E hr h => ?_)
  · obtain ⟨v, S, rfl, _⟩ := h
    rfl
  obtain ⟨v, S, rfl, ⟨a, dx, t, ys, rfl, h1, h2, h3⟩, few, q⟩ := h
  refine ⟨_, pss_cons (ps_if (pt_val (pe_callB (cr_any rfl) (by rfl) T.any (by decide +kernel) (pa_cons (pe_lc (own := [("_", 1), ("denied", 2)]) (g := gTup K 4 (gCons (gName 1) (gCons (gName 2) (gCons (gName 1) (gCons (gName 1) gNil))))) (by rfl) scKind.nd (pi_tup (pe_fld (pv 0) rfl)) (blkOk_by (N := nKind) (sc := defScope sKind) (by decide +kernel))
        (fun _ _ _ _ _ => pg_tup (by rfl) (pgs_cons (pg_name (i := 1) scKind.nd rfl (.inl rfl)) (pgs_cons (pg_name (i := 2) scKind.nd rfl (.inl rfl)) (pgs_cons (pg_name (i := 1) scKind.nd rfl (.inl rfl)) (pgs_cons (pg_name (i := 1) scKind.nd rfl (.inl rfl)) pgs_nil))))) (fun _ _ _ _ _ => pts_nil) (fun _ _ _ _ _ => pe_cmpR op_gt (pe_callB (r := rLenK K) call_len_seq (by rfl) T.len PySem.boot_len (pa_cons (pv 2) pa_nil)) pe_int (nomark _))) pa_nil))) (pss_one (ps_ret pe_str)) pss_nil)
    (pss_cons (ps_if (pt_val (pe_callB (cr_any rfl) (by rfl) T.any (by decide +kernel) (pa_cons (pe_lc (own := [("heads", 3), ("_", 1)]) (g := gTup K 4 (gCons (gName 3) (gCons (gName 1) (gCons (gName 1) (gCons (gName 1) gNil))))) (by rfl) scKind.nd (pi_tup (pe_fld (pv 0) rfl)) (blkOk_by (N := nKind) (sc := defScope sKind) (by decide +kernel))
        (fun _ _ _ _ _ => pg_tup (by rfl) (pgs_cons (pg_name (i := 3) scKind.nd rfl (.inl rfl)) (pgs_cons (pg_name (i := 1) scKind.nd rfl (.inl rfl)) (pgs_cons (pg_name (i := 1) scKind.nd rfl (.inl rfl)) (pgs_cons (pg_name (i := 1) scKind.nd rfl (.inl rfl)) pgs_nil))))) (fun _ _ _ _ _ => pts_nil) (fun _ _ _ _ _ => pe_cmpR op_gt (pe_callB (r := rLenK K) call_len_seq (by rfl) T.len PySem.boot_len (pa_cons (pv 3) pa_nil)) pe_int (nomark _))) pa_nil))) (pss_one (ps_ret pe_str)) pss_nil)
    (pss_one (ps_ret pe_str))), ?_⟩
  have yl : ys.length = S.length := by rw [dpAll_len h3, List.length_map]
  refine ⟨.ref a, rfl, a, C, dx, _, .ref t, rfl, h1, c, n, rfl, t, rfl, ⟨_, h2⟩, fun D hD => ?_⟩
  refine lc_tup (xs := ys) (fun i H1 => Same H H1 ∧ H1 D = some (.lst (((S.take i).map fun r => decide (0 < r.2.1.length)).map V.bl))) ⟨same_new hD _, upd_same⟩ (fun i H1 _ hI => same_tup hI.1 h2) (fun i x H1 hx hI => ?_) (fun H1 hI => ?_)
  · obtain ⟨sm, hd⟩ := hI
    obtain ⟨dd, hdd, hxd⟩ := dpAll_at' h3 hx
    obtain ⟨r, hr0, rfl⟩ := map_at hdd
    obtain ⟨b, v1, v2, v3, v4, rfl, hT, g1, g2, g3, g4⟩ := of_rd (dp_same sm _ _ hxd)
    obtain ⟨a2, rfl, t2⟩ := of_wd g2
    refine ⟨b, _, rfl, hT, rfl, _, _, rfl, _, _, rfl, _, _, rfl, _, [], rfl, rfl, rfl, .ref a2, rfl, a2, _, rfl, .inr t2, _, _, rfl, rfl, ?_⟩
    refine ⟨_, hd, small_line' (by rw [List.length_map, List.length_map, List.length_take]; omega), same_put sm hD, ?_⟩
    rw [upd_same, take_snoc hr0, List.map_append, List.map_append, List.length_map]
    have e : decide (((r.2.1.length : Nat) : Int) > 0) = decide (0 < r.2.1.length) := by
      by_cases z : 0 < r.2.1.length
      · rw [decide_eq_true z, decide_eq_true (by omega)]
      · rw [decide_eq_false z, decide_eq_false (by omega)]
    show some (HO.lst (_ ++ [V.bl (decide (((r.2.1.length : Nat) : Int) > 0))])) = _
    rw [e]
    rfl
  obtain ⟨s1, hd1⟩ := hI
  rw [yl, List.take_length] at hd1
  refine ⟨D, _, rfl, SqL.of hd1, _, rfl, ?_⟩
  have e1 : ((S.map fun r => decide (0 < r.2.1.length)).any id) = S.any (fun r => decide (0 < r.2.1.length)) := by
    rw [List.any_map]
    rfl
  rw [e1]
  refine ite2 (fun e => ?_) (fun e => ?_)
  · have z := q H1 s1
    unfold kindS at z
    rw [if_pos e] at z
    exact z
  refine ⟨.ref a, rfl, a, C, dx, _, .ref t, rfl, s1 _ _ h1, c, n, rfl, t, rfl, ⟨_, same_tup s1 h2⟩, fun D2 hD2 => ?_⟩
  refine lc_tup (xs := ys) (fun i H2 => Same H1 H2 ∧ H2 D2 = some (.lst (((S.take i).map fun r => decide (1 < r.1.length)).map V.bl))) ⟨same_new hD2 _, upd_same⟩ (fun i H2 _ hI => same_tup (s1.trans hI.1) h2) (fun i x H2 hx hI => ?_) (fun H2 hI => ?_)
  · obtain ⟨sm, hd⟩ := hI
    obtain ⟨dd, hdd, hxd⟩ := dpAll_at' h3 hx
    obtain ⟨r, hr0, rfl⟩ := map_at hdd
    obtain ⟨b, v1, v2, v3, v4, rfl, hT, g1, g2, g3, g4⟩ := of_rd (dp_same (s1.trans sm) _ _ hxd)
    obtain ⟨a2, rfl, t2⟩ := of_wd g1
    refine ⟨b, _, rfl, hT, rfl, _, _, rfl, _, _, rfl, _, _, rfl, _, [], rfl, rfl, rfl, .ref a2, rfl, a2, _, rfl, .inr t2, _, _, rfl, rfl, ?_⟩
    refine ⟨_, hd, small_line' (by rw [List.length_map, List.length_map, List.length_take]; omega), same_put sm hD2, ?_⟩
    rw [upd_same, take_snoc hr0, List.map_append, List.map_append, List.length_map]
    have e : decide (((r.1.length : Nat) : Int) > 1) = decide (1 < r.1.length) := by
      by_cases z : 1 < r.1.length
      · rw [decide_eq_true z, decide_eq_true (by omega)]
      · rw [decide_eq_false z, decide_eq_false (by omega)]
    show some (HO.lst (_ ++ [V.bl (decide (((r.1.length : Nat) : Int) > 1))])) = _
    rw [e]
    rfl
  obtain ⟨s2, hd2⟩ := hI
  rw [yl, List.take_length] at hd2
  refine ⟨D2, _, rfl, SqL.of hd2, _, rfl, ?_⟩
  have e2 : ((S.map fun r => decide (1 < r.1.length)).any id) = S.any (fun r => decide (1 < r.1.length)) := by
    rw [List.any_map]
    rfl
  rw [e2]
  have z := q H2 (s1.trans s2)
  unfold kindS at z
  rw [if_neg e] at z
  refine ite2 (fun e3 => ?_) (fun e3 => ?_)
  · rw [if_pos e3] at z
    exact z
  · rw [if_neg e3] at z
    exact z
end
end Rw
namespace Rw
open PySem PySem.Spec PyProof.Rows L2
/-! ### rules as data -/
theorem eqv_rds : ∀ a b : List Rl, PyData.eqvAll (a.map rd) (b.map rd) = decide (a = b)
  | [], [] => by simp [PyData.eqvAll]
  | [], _ :: _ => by simp [PyData.eqvAll]
  | _ :: _, [] => by simp [PyData.eqvAll]
  | x :: a, y :: b => by
    rw [List.map_cons, List.map_cons, PyData.eqvAll, eqv_rds a b, eqv_rd]
    by_cases h : x = y
    · subst h
      by_cases h2 : a = b <;> simp [h2]
    · simp [h]
theorem lay_rdsAll {S : List Rl} (h : ∀ r ∈ S, IsR r) : PyData.canLayAll0 (S.map rd) = true ∧ PyData.depthAll (S.map rd) ≤ 2 := by
  induction S with
  | nil => exact ⟨rfl, Nat.zero_le _⟩
  | cons r S ih =>
    obtain ⟨h1, h2⟩ := List.forall_mem_cons.mp h
    obtain ⟨i1, i2⟩ := ih h2
    have d := depth_rd r
    refine ⟨?_, ?_⟩
    · rw [List.map_cons, PyData.canLayAll0, lay_rd h1, i1]
      rfl
    · rw [List.map_cons, PyData.depthAll]
      omega
theorem shaped_rdT {S : List Rl} (h : ∀ r ∈ S, IsR r) : SeqAt.shaped (.tuple (S.map rd)) = true := by
  obtain ⟨i1, i2⟩ := lay_rdsAll h
  refine shaped_of ?_ ?_
  · rw [PyData.canLay0]
    exact i1
  · rw [PyData.depth]
    omega
section
variable {P : Program} {w : World} {K : PySem.W.Frag} {mg : Str → Option Value} {base : Heap} {f : Addr} {fd : FuncData} {k : Nat}
/-- one + other -/
def spAdd (K : PySem.W.Frag) (C CP : Addr) : Sp := fun vs H Q E => ∃ (x y : V) (S1 : List Rl), vs = [x, y] ∧ PgAt K C H x S1 ∧ (∀ r ∈ S1, IsR r) ∧
  ((∃ S2 : List Rl, PgAt K C H y S2 ∧ (∀ r ∈ S2, IsR r) ∧ S1.length + S2.length < 76 ∧ ∀ H' v S, Same H H' → Srt S (S1 ++ S2) → S.length < 76 → PgAt K C H' v S → Q v H') ∨
   (∃ d, Dp K H y d ∧ ∀ dx, H dx = none → E (.ref CP) (some dx) (upd H dx (.xd [(("thing" : Str), y)]))))
theorem ok_add {C CP fI : Addr} (F : Fun K "__add__" "Program.__add__" sAdd f fd) (T : Bl mg) (G : PgC K mg C) (n : NoAttr K C "_rules") (X : ErrT P w K mg base k "NotAProgram" "thing" CP) (M : Mk K C fI) (GI : FnR P w K mg base CX0 k fI (spInit K C)) : FnOk P w K mg base (L2.CX P w) (k + 2) f fd ["self", "other"] (spAdd K C CP) := by
  obtain ⟨fE, fdE, i1, i2, i3, i4⟩ := X.ex
  refine F.okX scAdd (fun vs H Q E h => ?_) (fun cdv A outer s H vs Q E hr h => ?_)
  · obtain ⟨x, y, S, rfl, _⟩ := h
    rfl
  obtain ⟨x, y, S1, rfl, ⟨a, dx, t, ys, rfl, h1, h2, h3⟩, hI, h⟩ := h
  refine ⟨_, pss_cons (ps_if (pt_not (pt_val (pe_callB call_isi (by rfl) T.isi PyProof.Rows.boot_isinstance (pa_cons (pv 1) (pa_cons (pe_glob (v := .ref C) (by rfl) G.m rfl) pa_nil)))))
      (pss_one (ps_raise rfl (takes_of rfl rfl rfl rfl) (pmk_oex X.oex i1 i2 i3 hr i4 .nil pass0 (by rfl) X.m (pa_cons (pv 1) pa_nil)))) pss_nil)
    (pss_cons (ps_set (i := 2) scAdd.nd rfl (.inl rfl) (pe_op op_catA (pe_fld (pv 0) rfl) (pe_fld (pv 1) rfl)))
    (pss_one (ps_ret (pe_makeS M GI hr (by rfl) G.m pass0 (pv 2))))), ?_⟩
  rcases h with ⟨S2, ⟨b, dy, u, zs, rfl, g1, g2, g3⟩, hI2, few, q⟩ | ⟨d, hd, q⟩
  · refine ⟨.ref b, rfl, .ref b, .ref C, .ref C, .ref C, true, rfl, .own C, ty_ins G g1, G.yes, true, rfl, iteF ?_⟩
    refine ⟨.ref a, rfl, a, C, dx, _, .ref t, rfl, h1, G.cls, n, rfl, .ref b, rfl, b, C, dy, _, .ref u, rfl, g1, G.cls, n, rfl, ?_⟩
    have l1 := dpAll_len h3
    have l2 := dpAll_len g3
    rw [List.length_map] at l1 l2
    refine catA_w h2 g2 (small_line (by omega)) fun c H1 s1 hc => ?_
    have hx : DpAll K H1 (ys ++ zs) ((S1 ++ S2).map rd) := by
      rw [List.map_append]
      exact dps_app12 ((Stay.same s1).dpAll _ _ (okDs_rd S2) g3) ((Stay.same s1).dpAll _ _ (okDs_rd S1) h3)
    have hL : ∀ r ∈ S1 ++ S2, IsR r := fun r hr => (List.mem_append.mp hr).elim (hI r) (hI2 r)
    exact ⟨.ref c, rfl, c, _, rfl, .inl hc, made_ok hx hL (by rw [List.length_append]; exact few) fun H' v S s2 => q H' v S (s1.trans s2)⟩
  · exact ⟨y, rfl, y, .ref C, .type (tyName d), .ref C, false, rfl, .own C, tyx_dp hd, G.odd d, false, rfl, iteT ⟨y, rfl, err_made q⟩⟩
/-- len(one) -/
def spPLen (K : PySem.W.Frag) (C : Addr) : Sp := fun vs H Q _ => ∃ (v : V) (S : List Rl), vs = [v] ∧ PgAt K C H v S ∧ Q (.int (S.length : Nat)) H
theorem ok_pLen {C : Addr} (F : Fun K "__len__" "Program.__len__" sPLen f fd) (T : Bl mg) (c : Cls K C) (n : NoAttr K C "_rules") : FnOk P w K mg base CX0 (k + 1) f fd ["self"] (spPLen K C) := by
  refine F.ok scPLen (fun vs H Q E h => ?_) (fun cdv A outer s H vs Q E hr h => ?_)
  · obtain ⟨v, S, rfl, _⟩ := h
    rfl
  obtain ⟨v, S, rfl, ⟨a, dx, t, ys, rfl, h1, h2, h3⟩, q⟩ := h
  refine ⟨_, pss_one (ps_ret (pe_callB call_len_seq (by rfl) T.len PySem.boot_len (pa_cons (pe_fld (pv 0) rfl) pa_nil))), ?_⟩
  refine ⟨.ref a, rfl, a, C, dx, _, .ref t, rfl, h1, c, n, rfl, t, _, rfl, .inr h2, ?_⟩
  rw [dpAll_len h3, List.length_map]
  exact q
/-- one == other -/
def spPEqG (K : PySem.W.Frag) (C : Addr) : Sp := fun vs H Q _ => ∃ (x y : V) (S1 : List Rl), vs = [x, y] ∧ PgAt K C H x S1 ∧ (∀ r ∈ S1, IsR r) ∧ ((∃ S2, PgAt K C H y S2 ∧ (∀ r ∈ S2, IsR r) ∧ Q (.bl (decide (S1 = S2))) H) ∨ (∃ d, Dp K H y d ∧ Q (.bl false) H))
theorem ok_pEqG {C : Addr} (F : Fun K "__eq__" "Program.__eq__" sPEq f fd) (T : Bl mg) (G : PgC K mg C) (n : NoAttr K C "_rules") : FnOk P w K mg base CX0 (k + 1) f fd ["self", "other"] (spPEqG K C) := by
  refine F.ok scPEq (fun vs H Q E h => ?_) (fun cdv A outer s H vs Q E hr h => ?_)
  · obtain ⟨x, y, S, rfl, _⟩ := h
    rfl
  obtain ⟨x, y, S1, rfl, ⟨a, dx, t, ys, rfl, h1, h2, h3⟩, hI, h⟩ := h
  refine ⟨_, pss_one (ps_ret (pe_and (pe_callB call_isi (by rfl) T.isi PyProof.Rows.boot_isinstance (pa_cons (pv 1) (pa_cons (pe_glob (v := .ref C) (by rfl) G.m rfl) pa_nil))) (pe_one (pe_cmpR (op_eqD hr.units) (pe_fld (pv 0) rfl) (pe_fld (pv 1) rfl) (nomark _))))), ?_⟩
  rcases h with ⟨S2, ⟨b, dy, u, zs, rfl, g1, g2, g3⟩, hI2, q⟩ | ⟨d, hd, q⟩
  · refine ⟨.ref b, rfl, .ref b, .ref C, .ref C, .ref C, true, rfl, .own C, ty_ins G g1, G.yes, true, rfl, iteT ?_⟩
    refine ⟨.ref a, rfl, a, C, dx, _, .ref t, rfl, h1, G.cls, n, rfl, .ref b, rfl, b, C, dy, _, .ref u, rfl, g1, G.cls, n, rfl, ?_⟩
    refine ⟨.tuple (S1.map rd), .tuple (S2.map rd), .tup h2 h3, .tup g2 g3, shaped_rdT hI, shaped_rdT hI2, ?_⟩
    rw [PyData.eqv, eqv_rds]
    exact q
  · exact ⟨y, rfl, y, .ref C, .type (tyName d), .ref C, false, rfl, .own C, tyx_dp hd, G.odd d, false, rfl, iteF q⟩
end
end Rw
namespace Rw
open PySem PySem.Spec PyProof.Rows
/-! ### where a text stands in another -/
def occStep (s sub : Str) (hi limit : Nat) (st : Array Nat × Nat) (i : Nat) : Array Nat × Nat :=
  if (decide (st.1.size < limit) && decide (st.2 ≤ i) && decide (i + sub.length ≤ hi) && Builtin.Str.subAt s sub i) = true then (st.1.push i, i + sub.length) else st
theorem occ_fold (s sub : Str) (hi limit : Nat) : Builtin.Str.occurrences s sub 0 hi limit = ((List.range (hi + 1)).foldl (occStep s sub hi limit) (#[], 0)).1.toList := by
  unfold Builtin.Str.occurrences
  have e : ∀ (l : List Nat) (st : Array Nat × Nat), (forIn (m := Id) l st fun i st => if (decide (st.1.size < limit) && decide (st.2 ≤ i) && decide (i + sub.length ≤ hi) && Builtin.Str.subAt s sub i) = true then pure (ForInStep.yield (st.1.push i, i + sub.length)) else pure (ForInStep.yield (st.1, st.2))) = l.foldl (occStep s sub hi limit) st := by
    intro l
    induction l with
    | nil => intro st; rfl
    | cons a l ih =>
      intro st
      rw [List.forIn_cons, List.foldl_cons]
      unfold occStep
      split
      · exact ih _
      · exact ih _
  dsimp only
  rw [Std.Legacy.Range.forIn_eq_forIn_range']
  have h := e (List.range' 0 (hi + 1) 1) (#[], 0)
  rw [← List.range_eq_range'] at h
  have sz : Std.Legacy.Range.size [0:hi + 1] = hi + 1 := by simp [Std.Legacy.Range.size]
  rw [sz, ← List.range_eq_range']
  exact congrArg (fun st : Array Nat × Nat => st.1.toList) h
theorem filt_none {l : List Nat} {m : Nat} (h : ∀ c ∈ l, m ≤ c) : l.filter (fun c => decide (c < m)) = [] :=
  List.filter_eq_nil_iff.mpr fun c hc e => Nat.not_lt.mpr (h c hc) (of_decide_eq_true e)
theorem filt_step {m : Nat} : ∀ {l : List Nat}, l.Pairwise (· < ·) → l.filter (fun c => decide (c < m + 1)) = l.filter (fun c => decide (c < m)) ++ if m ∈ l then [m] else []
  | [], _ => rfl
  | a :: l, h => by
    obtain ⟨h1, h2⟩ := List.pairwise_cons.mp h
    by_cases c : a < m
    · have ne : m ≠ a := by omega
      rw [List.filter_cons_of_pos (by simpa using by omega), List.filter_cons_of_pos (by simpa using c), filt_step h2]
      simp only [List.mem_cons, ne, false_or, List.cons_append]
    · by_cases d : a = m
      · subst d
        rw [List.filter_cons_of_pos (by simp), List.filter_cons_of_neg (by simp), filt_none (m := a + 1) fun c hc => h1 c hc, filt_none (m := a) fun c hc => by have := h1 c hc; omega]
        simp
      · have nm : m ∉ l := fun z => by have := h1 m z; omega
        have ne : m ≠ a := by omega
        rw [List.filter_cons_of_neg (by simpa using by omega), List.filter_cons_of_neg (by simpa using c), filt_step h2]
        simp [nm, ne]
/-- a text stands just at these places, none within another: so they are found -/
theorem occ_cuts {s sub : Str} {cuts : List Nat} (limit : Nat) (h0 : 0 < sub.length) (gap : cuts.Pairwise fun a b => a + sub.length ≤ b) (fit : ∀ c ∈ cuts, c + sub.length ≤ s.length) (at_ : ∀ i, i + sub.length ≤ s.length → (Builtin.Str.subAt s sub i = true ↔ i ∈ cuts)) :
    Builtin.Str.occurrences s sub 0 s.length limit = cuts.take limit := by
  have up : cuts.Pairwise (· < ·) := gap.imp fun h => by omega
  rw [occ_fold]
  have key : ∀ m, m ≤ s.length + 1 → ∃ fd fr, (List.range m).foldl (occStep s sub s.length limit) (#[], 0) = (fd, fr) ∧ fd.toList = (cuts.filter fun c => decide (c < m)).take limit ∧ ∀ c ∈ cuts, m ≤ c → fr ≤ c := by
    intro m
    induction m with
    | zero =>
      intro _
      exact ⟨#[], 0, rfl, by rw [filt_none fun c _ => Nat.zero_le c, List.take_nil], fun c _ _ => Nat.zero_le c⟩
    | succ m ih =>
      intro hm
      obtain ⟨fd, fr, e, hf, hr⟩ := ih (by omega)
      rw [List.range_succ, List.foldl_append, e, filt_step up]
      show ∃ fd' fr', occStep s sub s.length limit (fd, fr) m = (fd', fr') ∧ _
      have sz : fd.size = min limit (cuts.filter fun c => decide (c < m)).length := by
        rw [← Array.length_toList, hf, List.length_take]
      by_cases c : m ∈ cuts
      · have c1 := fit m c
        have c2 := (at_ m c1).mpr c
        have c3 := hr m c (Nat.le_refl _)
        rw [if_pos c]
        by_cases l : fd.size < limit
        · refine ⟨fd.push m, m + sub.length, ?_, ?_, fun c' hc' hl => ?_⟩
          · unfold occStep
            rw [if_pos (by rw [decide_eq_true l, decide_eq_true c3, decide_eq_true c1, c2]; rfl)]
          · rw [Array.toList_push, hf, List.take_of_length_le (by omega), List.take_of_length_le (by rw [List.length_append, List.length_singleton]; omega)]
          · exact (List.pairwise_iff_forall_sublist.mp gap) (by
              rcases List.mem_iff_append.mp c with ⟨A, B, rfl⟩
              have hb : c' ∈ B := by
                rcases List.mem_append.mp hc' with z | z
                · have := (List.pairwise_append.mp up).2.2 c' z m (List.mem_cons_self ..)
                  omega
                · rcases List.mem_cons.mp z with rfl | z
                  · omega
                  · exact z
              exact (List.Sublist.cons₂ m (List.singleton_sublist.mpr hb)).trans (List.sublist_append_right A (m :: B)))
        · refine ⟨fd, fr, ?_, ?_, fun c' hc' hl => hr c' hc' (by omega)⟩
          · unfold occStep
            rw [if_neg (by rw [decide_eq_false l]; simp)]
          · rw [hf, List.take_append_of_le_length (by omega)]
      · rw [if_neg c, List.append_nil]
        refine ⟨fd, fr, ?_, hf, fun c' hc' hl => hr c' hc' (by omega)⟩
        unfold occStep
        rw [if_neg]
        intro z
        simp only [Bool.and_eq_true, decide_eq_true_iff] at z
        exact c ((at_ m z.1.2).mp z.2)
  obtain ⟨fd, fr, e, hf, _⟩ := key (s.length + 1) (Nat.le_refl _)
  rw [e]
  show fd.toList = _
  rw [hf, List.filter_eq_self.mpr fun c hc => decide_eq_true (by have := fit c hc; omega)]
end Rw
namespace Rw
open PySem PySem.Spec PyProof.Rows
/-! ### joined texts taken apart -/
abbrev Sg := List Nat
theorem subAt_iff {s sub : Str} {i : Nat} : Builtin.Str.subAt s sub i = true ↔ (s.cps.toList.drop i).take sub.length = sub.cps.toList := by
  have e : (s.cps.extract i (i + sub.length)).toList = (s.cps.toList.drop i).take sub.length := by
    rw [Array.toList_extract, List.extract_eq_drop_take, Nat.add_sub_cancel_left]
  unfold Builtin.Str.subAt
  rw [beq_iff_eq, ← e]
  exact ⟨fun h => by rw [h], fun h => Array.toList_inj.mp h⟩
def jn (sep : Sg) : List Sg → Sg
  | [] => []
  | [w] => w
  | w :: v :: ws => w ++ (sep ++ jn sep (v :: ws))
def cuts (n : Nat) : List Sg → List Nat
  | [] => []
  | [_] => []
  | w :: v :: ws => w.length :: (cuts n (v :: ws)).map fun k => k + (w.length + n)
section
variable {sep : Sg} {c p : Nat}
theorem cuts_gap (sep : Sg) : ∀ ws, (cuts sep.length ws).Pairwise fun a b => a + sep.length ≤ b
  | [] => .nil
  | [_] => .nil
  | w :: v :: ws => by
    refine List.pairwise_cons.mpr ⟨fun b hb => ?_, List.pairwise_map.mpr ((cuts_gap sep (v :: ws)).imp fun h => by omega)⟩
    obtain ⟨k, _, rfl⟩ := List.mem_map.mp hb
    omega
theorem cuts_fit (sep : Sg) : ∀ ws, ∀ k ∈ cuts sep.length ws, k + sep.length ≤ (jn sep ws).length
  | [], _, h => nomatch h
  | [_], _, h => nomatch h
  | w :: v :: ws, k, h => by
    show _ ≤ (w ++ (sep ++ jn sep (v :: ws))).length
    rw [List.length_append, List.length_append]
    rcases List.mem_cons.mp h with rfl | h
    · omega
    · obtain ⟨k', h', rfl⟩ := List.mem_map.mp h
      have := cuts_fit sep (v :: ws) k' h'
      omega
theorem cuts_stand (sep : Sg) : ∀ ws, ∀ k ∈ cuts sep.length ws, ((jn sep ws).drop k).take sep.length = sep
  | [], _, h => nomatch h
  | [_], _, h => nomatch h
  | w :: v :: ws, k, h => by
    show ((w ++ (sep ++ jn sep (v :: ws))).drop k).take sep.length = sep
    rcases List.mem_cons.mp h with rfl | h
    · rw [List.drop_left, List.take_left]
    · obtain ⟨k', h', rfl⟩ := List.mem_map.mp h
      have e : (w ++ (sep ++ jn sep (v :: ws))).drop (k' + (w.length + sep.length)) = (jn sep (v :: ws)).drop k' := by
        rw [← List.append_assoc, Nat.add_comm, ← List.drop_drop, ← List.length_append, List.drop_left]
      rw [e]
      exact cuts_stand sep (v :: ws) k' h'
theorem marks (hp : sep[p]? = some c) (hu : ∀ q, sep[q]? = some c → q = p) : ∀ ws, (∀ w ∈ ws, c ∉ w) → ∀ j, (jn sep ws)[j]? = some c ↔ ∃ k ∈ cuts sep.length ws, j = k + p
  | [], _, j => ⟨fun h => by rw [show jn sep [] = [] from rfl, List.getElem?_nil] at h; exact (nomatch h), fun ⟨_, h, _⟩ => nomatch h⟩
  | [w], hw, j => ⟨fun h => absurd (List.mem_of_getElem? h) (hw w (List.mem_cons_self ..)), fun ⟨_, h, _⟩ => nomatch h⟩
  | w :: v :: ws, hw, j => by
    have ih := marks hp hu (v :: ws) (fun x hx => hw x (List.mem_cons_of_mem _ hx))
    have pl : p < sep.length := (List.getElem?_eq_some_iff.mp hp).1
    show (w ++ (sep ++ jn sep (v :: ws)))[j]? = some c ↔ ∃ k ∈ w.length :: (cuts sep.length (v :: ws)).map (fun k => k + (w.length + sep.length)), j = k + p
    constructor
    · intro h
      rw [List.getElem?_append] at h
      split at h
      · exact absurd (List.mem_of_getElem? h) (hw w (List.mem_cons_self ..))
      · rename_i h1
        rw [List.getElem?_append] at h
        split at h
        · have := hu _ h
          exact ⟨w.length, List.mem_cons_self .., by omega⟩
        · rename_i h2
          obtain ⟨k, hk, e⟩ := (ih _).mp h
          exact ⟨k + (w.length + sep.length), List.mem_cons_of_mem _ (List.mem_map.mpr ⟨k, hk, rfl⟩), by omega⟩
    · rintro ⟨k, hk, rfl⟩
      rcases List.mem_cons.mp hk with rfl | hk
      · rw [List.getElem?_append_right (by omega), List.getElem?_append_left (by omega), Nat.add_sub_cancel_left]
        exact hp
      · obtain ⟨k', h', rfl⟩ := List.mem_map.mp hk
        rw [List.getElem?_append_right (by omega), List.getElem?_append_right (by omega)]
        exact (ih _).mpr ⟨k', h', by omega⟩
end
/-- the places of the joining text -/
theorem occ_join {s sub : Str} {ws : List Sg} {c p : Nat} (limit : Nat) (hs : s.cps.toList = jn sub.cps.toList ws) (hp : sub.cps.toList[p]? = some c) (hu : ∀ q, sub.cps.toList[q]? = some c → q = p) (hw : ∀ w ∈ ws, c ∉ w) :
    Builtin.Str.occurrences s sub 0 s.length limit = (cuts sub.length ws).take limit := by
  have el : sub.length = sub.cps.toList.length := by rw [Array.length_toList]; rfl
  have sl : s.length = (jn sub.cps.toList ws).length := by rw [← hs, Array.length_toList]; rfl
  have pl : p < sub.cps.toList.length := (List.getElem?_eq_some_iff.mp hp).1
  rw [el]
  refine occ_cuts limit (by omega) (by rw [el]; exact cuts_gap _ ws) (fun k hk => by rw [el, sl]; exact cuts_fit _ ws k hk) fun i hi => ?_
  rw [subAt_iff, hs, el]
  constructor
  · intro h
    have h2 : (jn sub.cps.toList ws)[i + p]? = some c := by
      have z : (((jn sub.cps.toList ws).drop i).take sub.cps.toList.length)[p]? = some c := by rw [h]; exact hp
      rwa [List.getElem?_take_of_lt pl, List.getElem?_drop] at z
    obtain ⟨k, hk, e⟩ := (marks hp hu ws hw (i + p)).mp h2
    rwa [show i = k by omega]
  · exact cuts_stand _ ws i
theorem strSub_list (s : Str) (i j : Nat) : (Builtin.Str.strSub s i j).cps.toList = (s.cps.toList.drop i).take (j - i) := by
  unfold Builtin.Str.strSub
  rw [Array.toList_extract, List.extract_eq_drop_take]
theorem parts_of (sep : Sg) : ∀ (ws : List Sg) (A L : Sg), ws ≠ [] → L = A ++ jn sep ws →
    (((A.length :: (cuts sep.length ws).map fun k => k + A.length + sep.length).zip ((cuts sep.length ws).map (fun k => k + A.length) ++ [L.length])).map fun x => (L.drop x.1).take (x.2 - x.1)) = ws
  | [], _, _, h, _ => absurd rfl h
  | [w], A, L, _, e => by
    subst e
    show [((A ++ w).drop A.length).take ((A ++ w).length - A.length)] = [w]
    rw [List.drop_left, List.length_append, Nat.add_sub_cancel_left, List.take_length]
  | w :: v :: ws, A, L, _, e => by
    have ih := parts_of sep (v :: ws) (A ++ (w ++ sep)) L (by simp) (by rw [e]; simp [jn])
    have e1 : L.drop A.length = w ++ (sep ++ jn sep (v :: ws)) := by rw [e, List.drop_left]; rfl
    have l1 : (A ++ (w ++ sep)).length = w.length + A.length + sep.length := by simp; omega
    have m1 : (cuts sep.length (w :: v :: ws)).map (fun k => k + A.length + sep.length) = (w.length + A.length + sep.length) :: (cuts sep.length (v :: ws)).map fun k => k + (w.length + A.length + sep.length) + sep.length := by
      show (w.length + A.length + sep.length) :: ((cuts sep.length (v :: ws)).map fun k => k + (w.length + sep.length)).map _ = _
      rw [List.map_map]
      exact congrArg (List.cons _) (List.map_congr_left fun k _ => by show k + (w.length + sep.length) + A.length + sep.length = _; omega)
    have m2 : (cuts sep.length (w :: v :: ws)).map (fun k => k + A.length) = (w.length + A.length) :: (cuts sep.length (v :: ws)).map fun k => k + (w.length + A.length + sep.length) := by
      show (w.length + A.length) :: ((cuts sep.length (v :: ws)).map fun k => k + (w.length + sep.length)).map _ = _
      rw [List.map_map]
      exact congrArg (List.cons _) (List.map_congr_left fun k _ => by show k + (w.length + sep.length) + A.length = _; omega)
    rw [l1] at ih
    rw [m1, m2]
    show ((L.drop A.length).take (w.length + A.length - A.length)) :: _ = _
    rw [e1, Nat.add_sub_cancel, List.take_left]
    exact congrArg (List.cons w) ih
def tx (l : Sg) : Str := ⟨l.toArray⟩
theorem tx_list (s : Str) : tx s.cps.toList = s := by
  show (⟨s.cps.toList.toArray⟩ : Str) = s
  rw [Array.toArray_toList]
/-- a joined text, split at the joining text, gives the words -/
theorem split_join {s sub : Str} {ws : List Sg} {c p : Nat} (hs : s.cps.toList = jn sub.cps.toList ws) (hne : ws ≠ []) (hp : sub.cps.toList[p]? = some c) (hu : ∀ q, sub.cps.toList[q]? = some c → q = p) (hw : ∀ w ∈ ws, c ∉ w) (hk : Builtin.Str.strKind sub = 1) :
    Txt.split s sub = ws.map tx := by
  have el : sub.length = sub.cps.toList.length := by rw [Array.length_toList]; rfl
  have sl : s.length = (jn sub.cps.toList ws).length := by rw [← hs, Array.length_toList]; rfl
  have occ := occ_join (s := s) (ws := ws) (s.length + 1) hs hp hu hw
  have cl : (cuts sub.length ws).length ≤ s.length := by
    have key : ∀ l : List Nat, (∀ k ∈ l, k < s.length) → l.Nodup → l.length ≤ s.length := fun l h nd => by
      have := len_le nd (m := List.range s.length) fun k hk => List.mem_range.mpr (h k hk)
      rwa [List.length_range] at this
    have pl : p < sub.cps.toList.length := (List.getElem?_eq_some_iff.mp hp).1
    rw [el]
    refine key _ (fun k hk => by have := cuts_fit sub.cps.toList ws k hk; omega) ?_
    exact (cuts_gap sub.cps.toList ws).imp fun h => by omega
  rw [List.take_of_length_le (by omega)] at occ
  have one : ws.length = 1 → cuts sub.length ws = [] ∧ [s] = ws.map tx := fun h => by
    match ws, h with
    | [w], _ =>
      refine ⟨rfl, ?_⟩
      have : s.cps.toList = w := hs
      rw [← this, List.map_singleton, tx_list]
  have parts : Builtin.Str.partsBetween s (cuts sub.length ws) sub.length = ws.map tx := by
    have h := parts_of sub.cps.toList ws [] s.cps.toList hne hs
    unfold Builtin.Str.partsBetween
    have h2 := congrArg (List.map tx) h
    rw [List.map_map] at h2
    rw [← h2, el]
    have sl2 : s.length = s.cps.toList.length := by rw [Array.length_toList]; rfl
    simp only [List.length_nil, Nat.add_zero, List.map_id'] at *
    rw [sl2]
    refine List.map_congr_left fun x _ => ?_
    show Builtin.Str.strSub s x.1 x.2 = tx ((s.cps.toList.drop x.1).take (x.2 - x.1))
    rw [← strSub_list, tx_list]
  unfold Txt.split
  by_cases c1 : cuts sub.length ws = []
  · have l1 : ws.length = 1 := by
      match ws, hne, c1 with
      | [w], _, _ => rfl
    obtain ⟨_, e⟩ := one l1
    split
    · exact e
    · rw [occ, c1]
      exact e
  · rw [if_neg, occ, if_neg (by rw [List.isEmpty_iff]; exact c1)]
    · exact parts
    · obtain ⟨k, hk'⟩ := List.exists_mem_of_ne_nil _ c1
      rw [el] at hk'
      have fit := cuts_fit sub.cps.toList ws k hk'
      have kk : Builtin.Str.strKind s ≥ 1 := by
        unfold Builtin.Str.strKind
        split
        · decide
        · split <;> decide
      rw [decide_eq_false (by omega), decide_eq_false (by omega)]
      decide
end Rw
namespace Rw
open PySem PySem.Spec PyProof.Rows
/-! ### rules written as texts, and such texts taken apart -/
theorem str_ext {a b : Str} (h : a.cps.toList = b.cps.toList) : a = b := by
  rw [← tx_list a, ← tx_list b, h]
theorem tx_cps (l : Sg) : (tx l).cps.toList = l := rfl
theorem join_list (sep : Str) (ws : List Str) : (Txt.join sep ws).cps.toList = jn sep.cps.toList (ws.map fun w => w.cps.toList) := by
  have key : ∀ (ws : List Str) (acc : Array Nat), (ws.foldl (fun acc p => acc ++ sep.cps ++ p.cps) acc).toList = acc.toList ++ (ws.flatMap fun w => sep.cps.toList ++ w.cps.toList) := by
    intro ws
    induction ws with
    | nil => intro acc; simp
    | cons w ws ih =>
      intro acc
      rw [List.foldl_cons, ih]
      simp
  have jl : ∀ (w : Sg) (ws : List Str), jn sep.cps.toList (w :: ws.map fun w => w.cps.toList) = w ++ ws.flatMap fun w => sep.cps.toList ++ w.cps.toList := by
    intro w ws
    induction ws generalizing w with
    | nil => show w = w ++ []; rw [List.append_nil]
    | cons v ws ih =>
      show w ++ (sep.cps.toList ++ jn sep.cps.toList (v.cps.toList :: ws.map fun w => w.cps.toList)) = _
      rw [ih, List.flatMap_cons, List.append_assoc]
  show (List.foldl (fun acc p => acc ++ sep.cps ++ p.cps) (ws.headD Str.empty).cps (ws.drop 1)).toList = _
  rw [key]
  cases ws with
  | nil => rfl
  | cons w ws => exact (jl w.cps.toList ws).symm
/-- a text cut at the one place of another -/
theorem part_at {s sub : Str} {a b : Sg} {c p : Nat} (hs : s.cps.toList = a ++ (sub.cps.toList ++ b)) (hp : sub.cps.toList[p]? = some c) (hu : ∀ q, sub.cps.toList[q]? = some c → q = p) (ha : c ∉ a) (hb : c ∉ b) : Txt.partition s sub = (tx a, sub, tx b) ∧ Txt.find s sub = (a.length : Int) := by
  have o := occ_join (s := s) (sub := sub) (ws := [a, b]) 1 hs hp hu (fun w hw => by
    rcases List.mem_cons.mp hw with rfl | hw
    · exact ha
    · rw [List.mem_singleton.mp hw]
      exact hb)
  have o2 : Builtin.Str.occurrences s sub 0 s.length 1 = [a.length] := o
  have el : sub.length = sub.cps.toList.length := by rw [Array.length_toList]; rfl
  have sl : s.length = (a ++ (sub.cps.toList ++ b)).length := by rw [← hs, Array.length_toList]; rfl
  unfold Txt.partition Txt.find
  rw [o2]
  refine ⟨Prod.ext (str_ext ?_) (Prod.ext rfl (str_ext ?_)), rfl⟩
  · show (Builtin.Str.strSub s 0 a.length).cps.toList = a
    rw [strSub_list, hs, List.drop_zero, Nat.sub_zero, List.take_left]
  · show (Builtin.Str.strSub s (a.length + sub.length) s.length).cps.toList = b
    rw [strSub_list, hs, el, ← List.append_assoc, ← List.length_append, List.drop_left, List.take_of_length_le (by rw [sl]; simp; omega)]
theorem part_no {s sub : Str} {c : Nat} (hc : c ∈ sub.cps.toList) (h : c ∉ s.cps.toList) : Txt.partition s sub = (s, Str.empty, Str.empty) ∧ Txt.find s sub = -1 := by
  have o : Builtin.Str.occurrences s sub 0 s.length 1 = [] := by
    have h0 : 0 < sub.length := by
      have := List.length_pos_of_mem hc
      rwa [Array.length_toList] at this
    have z := occ_cuts (s := s) (sub := sub) (cuts := []) 1 h0 .nil (fun _ z => nomatch z) fun i hi => ⟨fun e => by
      rw [subAt_iff] at e
      rw [← e] at hc
      exact absurd (List.mem_of_mem_drop (List.mem_of_mem_take hc)) h, fun z => nomatch z⟩
    exact z
  unfold Txt.partition Txt.find
  rw [o]
  exact ⟨rfl, rfl⟩
theorem starts_iff {s sub : Str} : Txt.startswith s sub = true ↔ s.cps.toList.take sub.length = sub.cps.toList := by
  unfold Txt.startswith
  rw [Bool.and_eq_true, subAt_iff, List.drop_zero, decide_eq_true_iff]
  refine ⟨fun h => h.2, fun h => ⟨?_, h⟩⟩
  have := congrArg List.length h
  rw [List.length_take, Array.length_toList, Array.length_toList] at this
  show 0 + sub.cps.size ≤ s.cps.size
  have e : sub.length = sub.cps.size := rfl
  omega
/-! words: names, and names behind a not -/
def sNot : Sg := [110, 111, 116, 32]
theorem notSp_list : notSp.cps.toList = sNot := by decide +kernel
def NmL (w : Sg) : Prop := w ≠ [] ∧ ∀ c ∈ w, letter c = true
theorem nml_of {x : Str} (h : nameB x = true) : NmL x.cps.toList := by
  obtain ⟨h1, h2, _, _⟩ := nameB_iff.mp h
  refine ⟨fun e => ?_, h1⟩
  have : x.cps.toList.length = 0 := by rw [e]; rfl
  rw [Array.length_toList] at this
  omega
theorem nml_no {w : Sg} {c : Nat} (h : NmL w) (hc : letter c = false) : c ∉ w := fun z => by
  rw [h.2 c z] at hc
  cases hc
def wn (a b : List Sg) : List Sg := a ++ b.map fun w => sNot ++ w
theorem wn_mem {a b : List Sg} {w : Sg} (h : w ∈ wn a b) : w ∈ a ∨ ∃ v ∈ b, w = sNot ++ v := by
  rcases List.mem_append.mp h with h | h
  · exact .inl h
  · obtain ⟨v, hv, rfl⟩ := List.mem_map.mp h
    exact .inr ⟨v, hv, rfl⟩
theorem wn_no {a b : List Sg} {c : Nat} (ha : ∀ w ∈ a, NmL w) (hb : ∀ w ∈ b, NmL w) (hc : letter c = false) (h32 : c ≠ 32) : ∀ w ∈ wn a b, c ∉ w := fun w hw z => by
  rcases wn_mem hw with h | ⟨v, hv, rfl⟩
  · exact nml_no (ha w h) hc z
  · rcases List.mem_append.mp z with z | z
    · have : ∀ d ∈ sNot, letter d = true ∨ d = 32 := by decide +kernel
      rcases this c z with e | e
      · rw [e] at hc
        cases hc
      · exact h32 e
    · exact nml_no (hb v hv) hc z
theorem nml_starts {w : Sg} (h : NmL w) : Txt.startswith (tx w) notSp = false := by
  cases e : Txt.startswith (tx w) notSp with
  | false => rfl
  | true =>
    rw [starts_iff, notSp_list] at e
    have m : 32 ∈ w.take notSp.length := by
      rw [tx_cps] at e
      rw [e]
      decide
    have := h.2 32 (List.mem_of_mem_take m)
    exact absurd this (by decide +kernel)
theorem not_starts (w : Sg) : Txt.startswith (tx (sNot ++ w)) notSp = true := by
  rw [starts_iff, notSp_list, tx_cps]
  rfl
theorem not_off (w : Sg) : Txt.removeprefix (tx (sNot ++ w)) notSp = tx w := by
  unfold Txt.removeprefix
  have h : Builtin.Str.subAt (tx (sNot ++ w)) notSp 0 = true := by
    rw [subAt_iff, notSp_list, tx_cps]
    rfl
  rw [if_pos h]
  have l4 : notSp.length = 4 := by decide +kernel
  have ln : (tx (sNot ++ w)).length = 4 + w.length := by
    show (sNot ++ w).toArray.size = _
    rw [List.size_toArray, List.length_append]
    rfl
  rw [l4, ln]
  unfold Txt.affix
  show (if (4 + w.length - 4 == (tx (sNot ++ w)).length) = true then _ else _) = _
  rw [ln, if_neg (by rw [beq_iff_eq]; omega)]
  refine str_ext ?_
  rw [strSub_list, tx_cps, tx_cps, show 4 + w.length - 4 = w.length by omega]
  show (w.take w.length) = w
  exact List.take_length
def plS (ws : List Str) : List Str := ws.filter fun w => !Txt.startswith w notSp
def ngS (ws : List Str) : List Str := (ws.filter fun w => Txt.startswith w notSp).map fun w => Txt.removeprefix w notSp
theorem plS_wn {a b : List Sg} (ha : ∀ w ∈ a, NmL w) : plS ((wn a b).map tx) = a.map tx ∧ ngS ((wn a b).map tx) = b.map tx := by
  have A : ∀ x ∈ a.map tx, Txt.startswith x notSp = false := fun x hx => by
    obtain ⟨w, hw, rfl⟩ := List.mem_map.mp hx
    exact nml_starts (ha w hw)
  have B : ∀ x ∈ (b.map fun w => sNot ++ w).map tx, Txt.startswith x notSp = true := fun x hx => by
    obtain ⟨y, hy, rfl⟩ := List.mem_map.mp hx
    obtain ⟨w, hw, rfl⟩ := List.mem_map.mp hy
    exact not_starts w
  unfold plS ngS wn
  rw [List.map_append, List.filter_append, List.filter_append]
  constructor
  · rw [List.filter_eq_self.mpr fun x hx => by rw [A x hx]; rfl, List.filter_eq_nil_iff.mpr fun x hx => by rw [B x hx]; decide, List.append_nil]
  · rw [List.filter_eq_nil_iff.mpr fun x hx => by rw [A x hx]; decide, List.filter_eq_self.mpr fun x hx => B x hx, List.nil_append, List.map_map, List.map_map]
    exact List.map_congr_left fun w _ => not_off w
theorem jn_nil {sep : Sg} {ws : List Sg} (hs : sep ≠ []) (h : ∀ w ∈ ws, w ≠ []) : jn sep ws = [] ↔ ws = [] := by
  match ws, h with
  | [], _ => exact ⟨fun _ => rfl, fun _ => rfl⟩
  | [w], h => exact ⟨fun e => absurd e (h w (List.mem_cons_self ..)), fun e => nomatch e⟩
  | w :: v :: ws, h => exact ⟨fun e => absurd (List.append_eq_nil_iff.mp e).1 (h w (List.mem_cons_self ..)), fun e => nomatch e⟩
theorem wn_ne {a b : List Sg} (ha : ∀ w ∈ a, NmL w) : ∀ w ∈ wn a b, w ≠ [] := fun w hw e => by
  rcases wn_mem hw with h | ⟨v, _, rfl⟩
  · exact (ha w h).1 e
  · cases e
theorem wn_nil {a b : List Sg} : wn a b = [] ↔ a = [] ∧ b = [] := by
  unfold wn
  rw [List.append_eq_nil_iff, List.map_eq_nil_iff]
/-- one half, split -/
def splS (s sub : Str) : List Str := if s.length = 0 then [] else Txt.split s sub
theorem splS_wn {s sub : Str} {a b : List Sg} {c p : Nat} (hs : s.cps.toList = jn sub.cps.toList (wn a b)) (hp : sub.cps.toList[p]? = some c) (hu : ∀ q, sub.cps.toList[q]? = some c → q = p) (hc : letter c = false) (h32 : c ≠ 32) (hk : Builtin.Str.strKind sub = 1) (ha : ∀ w ∈ a, NmL w) (hb : ∀ w ∈ b, NmL w) : splS s sub = (wn a b).map tx := by
  have hn : sub.cps.toList ≠ [] := fun e => by
    rw [e] at hp
    cases hp
  have z : s.length = 0 ↔ wn a b = [] := by
    rw [← jn_nil hn (wn_ne ha), ← hs, ← List.length_eq_zero_iff, Array.length_toList]
    rfl
  unfold splS
  by_cases e : wn a b = []
  · rw [if_pos (z.mpr e), e]
    rfl
  · rw [if_neg fun q => e (z.mp q)]
    exact split_join hs e hp hu (wn_no ha hb hc h32) hk
end Rw
namespace Rw
open PySem PySem.Spec PyProof.Rows L2
/-! ### a rule written, and read back in two ways -/
def sOr : Str := " | "
def sCo : Str := ", "
def sIf : Str := " :- "
def sI3 : Str := ":- "
def sI2 : Str := ":-"
def sI : Str := ":-."
theorem sOr_l : sOr.cps.toList = [32, 124, 32] := by decide +kernel
theorem sCo_l : sCo.cps.toList = [44, 32] := by decide +kernel
theorem sIf_l : sIf.cps.toList = [32, 58, 45, 32] := by decide +kernel
theorem sI3_l : sI3.cps.toList = [58, 45, 32] := by decide +kernel
theorem sI2_l : sI2.cps.toList = [58, 45] := by decide +kernel
theorem sI_l : sI.cps.toList = [58, 45, 46] := by decide +kernel
def wL (w : W) : List Sg := w.map fun x => x.cps.toList
theorem wL_tx (w : W) : (wL w).map tx = w := by
  unfold wL
  rw [List.map_map]
  exact (List.map_congr_left fun x _ => tx_list x).trans (List.map_id' w)
def frL (r : Rl) : Sg := jn sOr.cps.toList (wn (wL r.1) (wL r.2.1))
def bkL (r : Rl) : Sg := jn sCo.cps.toList (wn (wL r.2.2.1) (wL r.2.2.2))
def wtL (r : Rl) : Sg := if bkL r = [] then (if frL r = [] then [58, 45, 46] else frL r ++ [46]) else (if frL r = [] then [58, 45, 32] ++ (bkL r ++ [46]) else frL r ++ ([32, 58, 45, 32] ++ (bkL r ++ [46])))
def wtS (r : Rl) : Str := tx (wtL r)
def halvesS (line : Str) : Str × Str :=
  if Txt.startswith (cutS line none (some (-1))) sI2 = true then (Str.empty, cutS (cutS line none (some (-1))) (some 3) none) else ((Txt.partition (cutS line none (some (-1))) sIf).1, (Txt.partition (cutS line none (some (-1))) sIf).2.2)
def rdS (line : Str) : Rl := (plS (splS (halvesS line).1 sOr), ngS (splS (halvesS line).1 sOr), plS (splS (halvesS line).2 sCo), ngS (splS (halvesS line).2 sCo))
def halvesP (line : Str) : Str × Str :=
  if 0 ≤ Txt.find line sI3 then (cutS line none (some (max 0 (Txt.find line sI3 - 1))), cutS line (some (Txt.find line sI3 + 3)) (some (-1))) else (cutS line none (some (-1)), Str.empty)
def splP (line s : Str) : List Str := if s = Str.empty ∨ line = sI then [] else Txt.split s sOr
def splQ (s : Str) : List Str := if s = Str.empty then [] else Txt.split s sCo
def rdP (line : Str) : Rl := (plS (splP line (halvesP line).1), ngS (splP line (halvesP line).1), plS (splQ (halvesP line).2), ngS (splQ (halvesP line).2))
section
variable {z : Str} {L : Sg}
theorem len_list (z : Str) : z.length = z.cps.toList.length := by
  rw [Array.length_toList]
  rfl
theorem cut_last (h : z.cps.toList = L ++ [46]) : (cutS z none (some (-1))).cps.toList = L := by
  have n : z.length = L.length + 1 := by rw [len_list, h, List.length_append]; rfl
  show (List.take (HT.sIx z.length z.length (some (-1)) - HT.sIx z.length 0 none) (List.drop (HT.sIx z.length 0 none) z.cps.toList)) = L
  have e1 : HT.sIx z.length 0 none = 0 := rfl
  have e2 : HT.sIx z.length z.length (some (-1)) = L.length := by
    show (if (-1 : Int) < 0 then ((-1 : Int) + z.length).toNat else min (-1 : Int).toNat z.length) = _
    rw [if_pos (by decide), n]
    omega
  rw [e1, e2, h, List.drop_zero, Nat.sub_zero, List.take_left]
theorem cut_from (k : Nat) : (cutS z (some (k : Int)) none).cps.toList = z.cps.toList.drop k := by
  show (List.take (HT.sIx z.length z.length none - HT.sIx z.length 0 (some (k : Int))) (List.drop (HT.sIx z.length 0 (some (k : Int))) z.cps.toList)) = _
  have e1 : HT.sIx z.length z.length none = z.length := rfl
  have e2 : HT.sIx z.length 0 (some (k : Int)) = min k z.length := by
    show (if (k : Int) < 0 then ((k : Int) + z.length).toNat else min (k : Int).toNat z.length) = _
    rw [if_neg (by omega)]
    rfl
  rw [e1, e2, List.take_of_length_le (by rw [List.length_drop, ← len_list]; omega)]
  by_cases c : k ≤ z.length
  · rw [Nat.min_eq_left c]
  · rw [Nat.min_eq_right (by omega), List.drop_of_length_le (by rw [← len_list]; omega), List.drop_of_length_le (by rw [← len_list]; omega)]
theorem cut_to (k : Nat) : (cutS z none (some (k : Int))).cps.toList = z.cps.toList.take k := by
  show (List.take (HT.sIx z.length z.length (some (k : Int)) - HT.sIx z.length 0 none) (List.drop (HT.sIx z.length 0 none) z.cps.toList)) = _
  have e1 : HT.sIx z.length 0 none = 0 := rfl
  have e2 : HT.sIx z.length z.length (some (k : Int)) = min k z.length := by
    show (if (k : Int) < 0 then ((k : Int) + z.length).toNat else min (k : Int).toNat z.length) = _
    rw [if_neg (by omega)]
    rfl
  rw [e1, e2, List.drop_zero, Nat.sub_zero]
  by_cases c : k ≤ z.length
  · rw [Nat.min_eq_left c]
  · rw [Nat.min_eq_right (by omega), List.take_of_length_le (by rw [← len_list]; omega), List.take_of_length_le (by rw [← len_list]; omega)]
theorem cut_mid {A : Sg} (h : z.cps.toList = A ++ (L ++ [46])) : (cutS z (some (A.length : Int)) (some (-1))).cps.toList = L := by
  have n : z.length = A.length + L.length + 1 := by rw [len_list, h]; simp; omega
  show (List.take (HT.sIx z.length z.length (some (-1)) - HT.sIx z.length 0 (some (A.length : Int))) (List.drop (HT.sIx z.length 0 (some (A.length : Int))) z.cps.toList)) = L
  have e1 : HT.sIx z.length 0 (some (A.length : Int)) = A.length := by
    show (if (A.length : Int) < 0 then ((A.length : Int) + z.length).toNat else min (A.length : Int).toNat z.length) = _
    rw [if_neg (by omega)]
    omega
  have e2 : HT.sIx z.length z.length (some (-1)) = A.length + L.length := by
    show (if (-1 : Int) < 0 then ((-1 : Int) + z.length).toNat else min (-1 : Int).toNat z.length) = _
    rw [if_pos (by decide), n]
    omega
  rw [e1, e2, h, List.drop_left, Nat.add_sub_cancel_left, List.take_left]
end
theorem jn_no {sep : Sg} {c : Nat} (hs : c ∉ sep) : ∀ ws : List Sg, (∀ w ∈ ws, c ∉ w) → c ∉ jn sep ws
  | [], _ => fun h => nomatch h
  | [w], h => h w (List.mem_cons_self ..)
  | w :: v :: ws, h => fun z => by
    rcases List.mem_append.mp z with z | z
    · exact h w (List.mem_cons_self ..) z
    · rcases List.mem_append.mp z with z | z
      · exact hs z
      · exact jn_no hs (v :: ws) (fun x hx => h x (List.mem_cons_of_mem _ hx)) z
def NmR (r : Rl) : Prop := (∀ w ∈ wL r.1, NmL w) ∧ (∀ w ∈ wL r.2.1, NmL w) ∧ (∀ w ∈ wL r.2.2.1, NmL w) ∧ ∀ w ∈ wL r.2.2.2, NmL w
theorem nmr_of {r : Rl} (h : IsR r) : NmR r := by
  have key : ∀ {w : W}, IsW w → ∀ v ∈ wL w, NmL v := fun {w} hw v hv => by
    obtain ⟨x, hx, rfl⟩ := List.mem_map.mp hv
    exact nml_of (hw.names x hx)
  obtain ⟨h1, h2, h3, h4⟩ := h
  exact ⟨key h1, key h2, key h3, key h4⟩
section
variable {r : Rl} (h : NmR r)
include h
theorem fr_no {c : Nat} (hc : letter c = false) (h32 : c ≠ 32) (h124 : c ≠ 124) : c ∉ frL r := by
  unfold frL
  refine jn_no ?_ _ (wn_no h.1 h.2.1 hc h32)
  rw [sOr_l]
  simp [h32, h124]
theorem bk_no {c : Nat} (hc : letter c = false) (h32 : c ≠ 32) (h44 : c ≠ 44) : c ∉ bkL r := by
  unfold bkL
  refine jn_no ?_ _ (wn_no h.2.2.1 h.2.2.2 hc h32)
  rw [sCo_l]
  simp [h32, h44]
theorem fr_spl {s : Str} (hs : s.cps.toList = frL r) : plS (splS s sOr) = r.1 ∧ ngS (splS s sOr) = r.2.1 := by
  rw [splS_wn (p := 1) (c := 124) hs (by rw [sOr_l]; rfl) (fun q hq => by
    rw [sOr_l] at hq
    match q, hq with
    | 0, hq => cases hq
    | 1, _ => rfl
    | 2, hq => cases hq
    | q + 3, hq => cases hq) (by decide +kernel) (by decide) (by decide +kernel) h.1 h.2.1]
  have := plS_wn (b := wL r.2.1) h.1
  rw [wL_tx, wL_tx] at this
  exact this
theorem bk_spl {s : Str} (hs : s.cps.toList = bkL r) : plS (splS s sCo) = r.2.2.1 ∧ ngS (splS s sCo) = r.2.2.2 := by
  rw [splS_wn (p := 0) (c := 44) hs (by rw [sCo_l]; rfl) (fun q hq => by
    rw [sCo_l] at hq
    match q, hq with
    | 0, _ => rfl
    | 1, hq => cases hq
    | q + 2, hq => cases hq) (by decide +kernel) (by decide) (by decide +kernel) h.2.2.1 h.2.2.2]
  have := plS_wn (b := wL r.2.2.2) h.2.2.1
  rw [wL_tx, wL_tx] at this
  exact this
theorem fr_head {c : Nat} {l : Sg} (e : frL r = c :: l) : letter c = true := by
  have key : ∀ ws : List Sg, (∀ w ∈ ws, ∃ d t, w = d :: t ∧ letter d = true) → ∀ {c l}, jn sOr.cps.toList ws = c :: l → letter c = true := fun ws hw c l e => by
    match ws, hw, e with
    | [w], hw, e =>
      obtain ⟨d, t, rfl, hd⟩ := hw w (List.mem_cons_self ..)
      have e' : d :: t = c :: l := e
      cases e'
      exact hd
    | w :: v :: ws, hw, e =>
      obtain ⟨d, t, rfl, hd⟩ := hw w (List.mem_cons_self ..)
      have e' : (d :: t) ++ (sOr.cps.toList ++ jn sOr.cps.toList (v :: ws)) = c :: l := e
      rw [List.cons_append] at e'
      injection e' with e1
      rw [← e1]
      exact hd
  refine key _ (fun w hw => ?_) e
  rcases wn_mem hw with z | ⟨v, _, rfl⟩
  · obtain ⟨n, a⟩ := h.1 w z
    match w, n, a with
    | d :: t, _, a => exact ⟨d, t, rfl, a d (List.mem_cons_self ..)⟩
  · exact ⟨110, _, rfl, by decide +kernel⟩
theorem no_sign2 {s : Str} {l : Sg} (hs : s.cps.toList = frL r ++ l) (hn : frL r ≠ []) : Txt.startswith s sI2 = false := by
  cases e : Txt.startswith s sI2 with
  | false => rfl
  | true =>
    rw [starts_iff, sI2_l, hs] at e
    match hf : frL r, hn with
    | c :: t, _ =>
      rw [hf] at e
      have l2 : sI2.length = 2 := by decide +kernel
      rw [l2] at e
      have e' : c :: (t ++ l).take 1 = [58, 45] := e
      injection e' with e1 _
      have := fr_head h hf
      rw [e1] at this
      exact absurd this (by decide +kernel)
/-- the program reads what it has written -/
theorem rdS_wt : rdS (wtS r) = r := by
  have fin : ∀ a b : Str, halvesS (wtS r) = (a, b) → a.cps.toList = frL r → b.cps.toList = bkL r → rdS (wtS r) = r := fun a b e ha hb => by
    obtain ⟨f1, f2⟩ := fr_spl h ha
    obtain ⟨g1, g2⟩ := bk_spl h hb
    unfold rdS
    rw [e]
    show (plS (splS a sOr), ngS (splS a sOr), plS (splS b sCo), ngS (splS b sCo)) = r
    rw [f1, f2, g1, g2]
  have hl : (wtS r).cps.toList = wtL r := rfl
  unfold halvesS at fin
  by_cases cb : bkL r = []
  · by_cases cf : frL r = []
    · have e : wtL r = [58, 45] ++ [46] := by unfold wtL; rw [if_pos cb, if_pos cf]; rfl
      have ct := cut_last (hl.trans e)
      refine fin Str.empty (cutS (cutS (wtS r) none (some (-1))) (some 3) none) (if_pos ?_) (by rw [cf]; rfl) ?_
      · rw [starts_iff, ct, sI2_l]
        decide +kernel
      · rw [show ((3 : Int)) = ((3 : Nat) : Int) from rfl, cut_from, ct, cb]
        rfl
    · have e : wtL r = frL r ++ [46] := by unfold wtL; rw [if_pos cb, if_neg cf]
      have ct := cut_last (hl.trans e)
      have np := (part_no (s := cutS (wtS r) none (some (-1))) (sub := sIf) (c := 58) (by rw [sIf_l]; decide) (by rw [ct]; exact fr_no h (by decide +kernel) (by decide) (by decide))).1
      refine fin (cutS (wtS r) none (some (-1))) Str.empty ?_ ct (by rw [cb]; rfl)
      rw [if_neg (by rw [no_sign2 h (l := []) (by rw [ct, List.append_nil]) cf]; decide), np]
  · by_cases cf : frL r = []
    · have e : wtL r = ([58, 45, 32] ++ bkL r) ++ [46] := by unfold wtL; rw [if_neg cb, if_pos cf, List.append_assoc]
      have ct := cut_last (hl.trans e)
      refine fin Str.empty (cutS (cutS (wtS r) none (some (-1))) (some 3) none) (if_pos ?_) (by rw [cf]; rfl) ?_
      · rw [starts_iff, ct, sI2_l]
        have l2 : sI2.length = 2 := by decide +kernel
        rw [l2]
        rfl
      · rw [show ((3 : Int)) = ((3 : Nat) : Int) from rfl, cut_from, ct]
        rfl
    · have e : wtL r = (frL r ++ (sIf.cps.toList ++ bkL r)) ++ [46] := by unfold wtL; rw [if_neg cb, if_neg cf, sIf_l]; simp
      have ct := cut_last (hl.trans e)
      have np := (part_at (s := cutS (wtS r) none (some (-1))) (sub := sIf) (c := 58) (p := 1) ct (by rw [sIf_l]; rfl) (fun q hq => by
        rw [sIf_l] at hq
        match q, hq with
        | 0, hq => cases hq
        | 1, _ => rfl
        | 2, hq => cases hq
        | 3, hq => cases hq
        | q + 4, hq => cases hq) (fr_no h (by decide +kernel) (by decide) (by decide)) (bk_no h (by decide +kernel) (by decide) (by decide))).1
      refine fin (tx (frL r)) (tx (bkL r)) ?_ rfl rfl
      rw [if_neg (by rw [no_sign2 h ct cf]; decide), np]
end
end Rw
namespace Rw
open PySem PySem.Spec PyProof.Rows L2
/-! ### a written rule, read the other way -/
theorem empty_iff {s : Str} : s = Str.empty ↔ s.cps.toList = [] := ⟨fun e => by rw [e]; rfl, fun e => str_ext e⟩
theorem splS_pos {s sub : Str} (h : s.cps.toList ≠ []) : splS s sub = Txt.split s sub := by
  unfold splS
  rw [if_neg]
  rw [len_list, List.length_eq_zero_iff]
  exact h
theorem splQ_eq (s : Str) : splQ s = splS s sCo := by
  unfold splQ splS
  have : s = Str.empty ↔ s.length = 0 := by rw [empty_iff, len_list, List.length_eq_zero_iff]
  by_cases c : s.length = 0
  · rw [if_pos c, if_pos (this.mpr c)]
  · rw [if_neg c, if_neg fun e => c (this.mp e)]
theorem wL_nil {w : W} (h : wL w = []) : w = [] := List.map_eq_nil_iff.mp h
section
variable {r : Rl} (h : NmR r)
include h
theorem fr_nil (e : frL r = []) : r.1 = [] ∧ r.2.1 = [] := by
  have := (jn_nil (by rw [sOr_l]; decide) (wn_ne h.1)).mp e
  obtain ⟨a, b⟩ := wn_nil.mp this
  exact ⟨wL_nil a, wL_nil b⟩
theorem bk_nil (e : bkL r = []) : r.2.2.1 = [] ∧ r.2.2.2 = [] := by
  have := (jn_nil (by rw [sCo_l]; decide) (wn_ne h.2.2.1)).mp e
  obtain ⟨a, b⟩ := wn_nil.mp this
  exact ⟨wL_nil a, wL_nil b⟩
theorem not_sI {s : Str} {l : Sg} (hs : s.cps.toList = frL r ++ l) (hn : frL r ≠ []) : s ≠ sI := fun e => by
  match hf : frL r, hn with
  | c :: t, _ =>
    rw [e, sI_l, hf] at hs
    injection hs with e1 _
    have := fr_head h hf
    rw [← e1] at this
    exact absurd this (by decide +kernel)
/-- the law reads what the program has written -/
theorem rdP_wt : rdP (wtS r) = r := by
  have hl : (wtS r).cps.toList = wtL r := rfl
  have fin : ∀ a b : Str, halvesP (wtS r) = (a, b) → plS (splP (wtS r) a) = r.1 → ngS (splP (wtS r) a) = r.2.1 → b.cps.toList = bkL r → rdP (wtS r) = r := fun a b e f1 f2 hb => by
    obtain ⟨g1, g2⟩ := bk_spl h hb
    unfold rdP
    rw [e]
    show (plS (splP (wtS r) a), ngS (splP (wtS r) a), plS (splQ b), ngS (splQ b)) = r
    rw [f1, f2, splQ_eq, g1, g2]
  have fin2 : ∀ a b : Str, halvesP (wtS r) = (a, b) → a.cps.toList = frL r → frL r ≠ [] → wtS r ≠ sI → b.cps.toList = bkL r → rdP (wtS r) = r := fun a b e ha hn hs hb => by
    have es : splP (wtS r) a = splS a sOr := by
      unfold splP
      rw [if_neg, splS_pos (by rw [ha]; exact hn)]
      rintro (z | z)
      · exact hn (by rw [← ha, empty_iff.mp z])
      · exact hs z
    obtain ⟨f1, f2⟩ := fr_spl h ha
    exact fin a b e (by rw [es]; exact f1) (by rw [es]; exact f2) hb
  have mark : ∀ q, sI3.cps.toList[q]? = some 58 → q = 0 := fun q hq => by
    rw [sI3_l] at hq
    match q, hq with
    | 0, _ => rfl
    | 1, hq => cases hq
    | 2, hq => cases hq
    | q + 3, hq => cases hq
  unfold halvesP at fin fin2
  by_cases cb : bkL r = []
  · by_cases cf : frL r = []
    · have e : wtL r = [58, 45, 46] := by unfold wtL; rw [if_pos cb, if_pos cf]
      have f := (part_no (s := wtS r) (sub := sI3) (c := 32) (by rw [sI3_l]; decide) (by rw [hl, e]; decide)).2
      have eI : wtS r = sI := str_ext (by rw [hl, e, sI_l])
      have es : ∀ a, splP (wtS r) a = [] := fun a => by
        unfold splP
        rw [if_pos (.inr eI)]
      obtain ⟨r1, r2⟩ := fr_nil h cf
      refine fin (cutS (wtS r) none (some (-1))) Str.empty (by rw [if_neg (by rw [f]; decide)]) (by rw [es, r1]; rfl) (by rw [es, r2]; rfl) (by rw [cb]; rfl)
    · have e : wtL r = frL r ++ [46] := by unfold wtL; rw [if_pos cb, if_neg cf]
      have f := (part_no (s := wtS r) (sub := sI3) (c := 58) (by rw [sI3_l]; decide) (by
        rw [hl, e, List.mem_append]
        rintro (z | z)
        · exact fr_no h (by decide +kernel) (by decide) (by decide) z
        · exact absurd z (by decide))).2
      exact fin2 (cutS (wtS r) none (some (-1))) Str.empty (by rw [if_neg (by rw [f]; decide)]) (cut_last (hl.trans e)) cf (not_sI h (hl.trans e) cf) (by rw [cb]; rfl)
  · by_cases cf : frL r = []
    · have e : wtL r = [] ++ (sI3.cps.toList ++ (bkL r ++ [46])) := by unfold wtL; rw [if_neg cb, if_pos cf, sI3_l]; rfl
      have f := (part_at (s := wtS r) (sub := sI3) (c := 58) (p := 0) (hl.trans e) (by rw [sI3_l]; rfl) mark (by simp) (by
        rw [List.mem_append]
        rintro (z | z)
        · exact bk_no h (by decide +kernel) (by decide) (by decide) z
        · exact absurd z (by decide))).2
      have f0 : Txt.find (wtS r) sI3 = 0 := f
      have ce : (cutS (wtS r) none (some (max 0 (Txt.find (wtS r) sI3 - 1)))) = Str.empty := by
        rw [f0]
        exact str_ext (by rw [show (max 0 ((0 : Int) - 1)) = ((0 : Nat) : Int) from rfl, cut_to]; rfl)
      have es : splP (wtS r) (cutS (wtS r) none (some (max 0 (Txt.find (wtS r) sI3 - 1)))) = [] := by
        unfold splP
        rw [if_pos (.inl ce)]
      obtain ⟨r1, r2⟩ := fr_nil h cf
      refine fin _ (cutS (wtS r) (some (Txt.find (wtS r) sI3 + 3)) (some (-1))) (by rw [if_pos (by rw [f0]; decide)]) (by rw [es, r1]; rfl) (by rw [es, r2]; rfl) ?_
      rw [f0]
      exact cut_mid (A := [58, 45, 32]) (by rw [hl, e, sI3_l]; rfl)
    · have e : wtL r = (frL r ++ [32]) ++ (sI3.cps.toList ++ (bkL r ++ [46])) := by unfold wtL; rw [if_neg cb, if_neg cf, sI3_l]; simp
      have f := (part_at (s := wtS r) (sub := sI3) (c := 58) (p := 0) (hl.trans e) (by rw [sI3_l]; rfl) mark (by
        rw [List.mem_append]
        rintro (z | z)
        · exact fr_no h (by decide +kernel) (by decide) (by decide) z
        · exact absurd z (by decide)) (by
        rw [List.mem_append]
        rintro (z | z)
        · exact bk_no h (by decide +kernel) (by decide) (by decide) z
        · exact absurd z (by decide))).2
      have f0 : Txt.find (wtS r) sI3 = ((frL r).length : Int) + 1 := by
        rw [f, List.length_append]
        rfl
      refine fin2 (cutS (wtS r) none (some (max 0 (Txt.find (wtS r) sI3 - 1)))) (cutS (wtS r) (some (Txt.find (wtS r) sI3 + 3)) (some (-1))) (by rw [if_pos (by rw [f0]; omega)]) ?_ cf (not_sI h (l := [32] ++ (sI3.cps.toList ++ (bkL r ++ [46]))) (by rw [hl, e, List.append_assoc]) cf) ?_
      · rw [f0, show max (0 : Int) ((frL r).length + 1 - 1) = ((frL r).length : Int) by omega, cut_to, hl, e, List.append_assoc, List.take_left]
      · rw [f0]
        have l4 : ((frL r).length : Int) + 1 + 3 = ((frL r ++ ([32] ++ sI3.cps.toList)).length : Int) := by
          rw [sI3_l, List.length_append]
          show _ = (((frL r).length + 4 : Nat) : Int)
          omega
        rw [l4]
        exact cut_mid (by rw [hl, e]; simp)
end
/-- a rule is told by what it is written as -/
theorem wtS_inj {r r' : Rl} (h : NmR r) (h' : NmR r') (e : wtS r = wtS r') : r = r' := by
  rw [← rdS_wt h, e, rdS_wt h']
end Rw
namespace Rw
open PySem PySem.Spec PyProof.Rows L2
/-! ### a rule written -/
theorem scWithNot : FnScope ["plain", "negated", "name"] ["plain", "negated"] (defScope sWithNot) := ⟨rfl, rfl, rfl, by decide +kernel, rfl, by decide +kernel, by decide +kernel⟩
abbrev nWritten1 : List Str := ["row", "heads", "denied", "needs", "bars", "front", "back"]
theorem scWritten1 : FnScope nWritten1 ["row"] (defScope sWritten1) := ⟨rfl, rfl, rfl, by decide +kernel, rfl, by decide +kernel, by decide +kernel⟩
def rListOf (K : PySem.W.Frag) : List V → Hp → VK → Prop := fun xs H Q => ∃ p ys, xs = [V.ref p] ∧ (SqL K H p ys ∨ SqT K H p ys) ∧ ∀ (l : Addr), H l = none → Q (.ref l) (upd H l (.lst ys))
def wnS (a b : W) : List Str := a ++ b.map fun z => notSp ++ z
theorem fn_or {P : Program} {w : World} {K : PySem.W.Frag} {mg : Str → Option Value} {base : Heap} {CX : CXT} {k : Nat} {f : Addr} {fd : FuncData} {ps : List Str} {sp sp' : Sp} (F : FnOk P w K mg base CX k f fd ps sp) (F' : FnOk P w K mg base CX k f fd ps sp') :
    FnOk P w K mg base CX k f fd ps (fun vs H Q E => sp vs H Q E ∨ sp' vs H Q E) :=
  ⟨fun vs H Q E q => q.elim (F.len vs H Q E) (F'.len vs H Q E), fun A outer s H args us vs Q E hr he hb hv hs => hs.elim (F.run A outer s H args us vs Q E hr he hb hv) (F'.run A outer s H args us vs Q E hr he hb hv)⟩
theorem filt_take {α : Type} {p : α → Bool} {l : List α} {i : Nat} {x : α} (h : l[i]? = some x) : (l.take (i + 1)).filter p = (l.take i).filter p ++ (if p x then [x] else []) := by
  rw [take_snoc h, List.filter_append]
  cases e : p x with
  | true => simp [e]
  | false => simp [e]
theorem app_cps (a b : Str) : (a ++ b).cps.toList = a.cps.toList ++ b.cps.toList := Array.toList_append
theorem wnS_list (a b : W) : (wnS a b).map (fun z => z.cps.toList) = wn (wL a) (wL b) := by
  unfold wnS wn wL
  rw [List.map_append, List.map_map, List.map_map]
  refine congrArg (_ ++ ·) (List.map_congr_left fun z _ => ?_)
  show (notSp ++ z).cps.toList = sNot ++ z.cps.toList
  rw [app_cps, notSp_list]
theorem name_len {z : Str} (h : nameB z = true) : z.length ≤ 8 := (nameB_iff.mp h).2.2.1
theorem wnS_sum {a b : W} (ha : IsW a) (hb : IsW b) : ((wnS a b).map fun z => z.length).sum ≤ 12 * (a.length + b.length) := by
  have key : ∀ (l : List Str), (∀ z ∈ l, z.length ≤ 12) → (l.map fun z => z.length).sum ≤ 12 * l.length := fun l h => by
    induction l with
    | nil => exact Nat.zero_le _
    | cons x l ih =>
      rw [List.map_cons, List.sum_cons, List.length_cons]
      have h1 := h x (List.mem_cons_self ..)
      have h2 := ih fun z hz => h z (List.mem_cons_of_mem _ hz)
      omega
  have h := key (wnS a b) fun z hz => by
    rcases List.mem_append.mp hz with hz | hz
    · have := name_len (ha.names z hz)
      omega
    · obtain ⟨y, hy, rfl⟩ := List.mem_map.mp hz
      have l8 := name_len (hb.names y hy)
      rw [len_list, app_cps, List.length_append, notSp_list, ← len_list]
      show 4 + y.length ≤ 12
      omega
  have e : (wnS a b).length = a.length + b.length := by unfold wnS; rw [List.length_append, List.length_map]
  rwa [e] at h
def frS (r : Rl) : Str := Txt.join sOr (wnS r.1 r.2.1)
def bkS (r : Rl) : Str := Txt.join sCo (wnS r.2.2.1 r.2.2.2)
theorem frS_list (r : Rl) : (frS r).cps.toList = frL r := by
  unfold frS
  rw [join_list, wnS_list]
  rfl
theorem bkS_list (r : Rl) : (bkS r).cps.toList = bkL r := by
  unfold bkS
  rw [join_list, wnS_list]
  rfl
theorem jn_len (sep : Sg) : ∀ ws : List Sg, (jn sep ws).length ≤ (ws.map List.length).sum + sep.length * ws.length
  | [] => Nat.zero_le _
  | [w] => by
    show w.length ≤ (w.length + 0) + sep.length * 1
    omega
  | w :: v :: ws => by
    have ih := jn_len sep (v :: ws)
    show (w ++ (sep ++ jn sep (v :: ws))).length ≤ (w.length + ((v :: ws).map List.length).sum) + sep.length * ((v :: ws).length + 1)
    rw [List.length_append, List.length_append, Nat.mul_add]
    omega
theorem half_len {sep : Str} {a b : W} (hs : sep.length ≤ 3) (ha : IsW a) (hb : IsW b) : (Txt.join sep (wnS a b)).length ≤ 15 * (a.length + b.length) := by
  have h1 := wnS_sum ha hb
  have h2 := jn_len sep.cps.toList ((wnS a b).map fun z => z.cps.toList)
  rw [← join_list, ← len_list, List.map_map, List.length_map, ← len_list] at h2
  have e : (List.map (List.length ∘ fun z : Str => z.cps.toList) (wnS a b)) = (wnS a b).map fun z => z.length := List.map_congr_left fun z _ => (len_list z).symm
  rw [e] at h2
  have el : (wnS a b).length = a.length + b.length := by unfold wnS; rw [List.length_append, List.length_map]
  rw [el] at h2
  have h3 : sep.length * (a.length + b.length) ≤ 3 * (a.length + b.length) := Nat.mul_le_mul_right _ hs
  omega
section
variable {P : Program} {w : World} {K : PySem.W.Frag} {mg : Str → Option Value} {base : Heap} {f : Addr} {fd : FuncData} {k : Nat}
def spWithNot (K : PySem.W.Frag) : Sp := fun vs H Q _ => ∃ (x y : V) (a b : W), vs = [x, y] ∧ Dp K H x (wd a) ∧ Dp K H y (wd b) ∧ IsW a ∧ IsW b ∧ ∀ H' p, Same H H' → H' p = some (.lst ((wnS a b).map V.str)) → Q (.ref p) H'
theorem ok_withNot (F : Fun K "_with_not" "_with_not" sWithNot f fd) (T : Bl mg) (mN : ∃ t, mg "NOT" = some (.str notSp t)) : FnOk P w K mg base CX0 (k + 1) f fd ["plain", "negated"] (spWithNot K) := by
  obtain ⟨tn, mN⟩ := mN
  refine F.ok scWithNot (fun vs H Q E h => ?_) (fun cdv A outer s H vs Q E hr h => ?_)
  · obtain ⟨x, y, a, b, rfl, _⟩ := h
    rfl
  obtain ⟨x, y, a, b, rfl, hx, hy, ha, hb, q⟩ := h
  refine ⟨_, pss_one (ps_ret (pe_op op_cat (pe_callTy (T := "list") (r := rListOf K) call_list_of (by rfl) T.list (by decide +kernel) (pa_cons (pv 0) pa_nil))
    (pe_lc (own := [("name", 2)]) (g := gName 2) (by rfl) scWithNot.nd (pi_tup (pv 1)) (blkOk_by (N := ["plain", "negated", "name"]) (sc := defScope sWithNot) (by decide +kernel)) (fun _ _ _ _ _ => pg_name (i := 2) scWithNot.nd rfl (Or.inl rfl)) (fun _ _ _ _ _ => pts_nil) (fun _ _ _ _ _ => pe_op op_add_str (pe_glob (v := .str notSp) (by rfl) mN ⟨_, rfl⟩) (pv 2))))), ?_⟩
  obtain ⟨ax, rfl, hX⟩ := of_wd hx
  obtain ⟨ay, rfl, hY⟩ := of_wd hy
  have fa := ha.few
  have fb := hb.few
  refine ⟨.ref ax, rfl, ax, _, rfl, .inr hX, fun lp hlp => ?_⟩
  have s1 := same_new hlp (.lst (a.map V.str))
  refine ⟨.ref ay, rfl, ay, rfl, ⟨_, same_tup s1 hY⟩, fun D hD => ?_⟩
  refine lc_tup (xs := b.map V.str) (fun i H1 => Same (upd H lp (.lst (a.map V.str))) H1 ∧ H1 D = some (.lst (((b.take i).map fun z => notSp ++ z).map V.str))) ⟨same_new hD _, upd_same⟩ (fun i H1 _ h => same_tup (s1.trans h.1) hY) (fun i x H1 hx h => ?_) (fun H1 h => ?_)
  · obtain ⟨sm, hd⟩ := h
    obtain ⟨z, hz, rfl⟩ := map_at hx
    have l8 := name_len (hb.names z (List.mem_of_getElem? hz))
    have l4 : notSp.length = 4 := by decide +kernel
    have il : i < b.length := (List.getElem?_eq_some_iff.mp hz).1
    refine ⟨rfl, .str z, rfl, notSp, z, rfl, rfl, by rw [l4]; exact small_line (by omega), _, hd, small_line' ?_, same_put sm hD, ?_⟩
    · rw [List.length_map, List.length_map, List.length_take]
      omega
    · rw [upd_same, take_snoc hz, List.map_append, List.map_append]
      rfl
  obtain ⟨sm, hd⟩ := h
  rw [List.length_map, List.take_length] at hd
  refine ⟨lp, D, a.map V.str, _, rfl, rfl, sm _ _ upd_same, hd, small_line (by rw [List.length_map, List.length_map, List.length_map]; omega), fun p hp => ?_⟩
  have s2 := same_new hp (.lst (a.map V.str ++ (b.map fun z => notSp ++ z).map V.str))
  exact q _ p (s1.trans (sm.trans s2)) (by rw [upd_same]; unfold wnS; rw [List.map_append])
def spWritten1 (K : PySem.W.Frag) : Sp := fun vs H Q _ => ∃ (x : V) (r : Rl), vs = [x] ∧ Dp K H x (rd r) ∧ IsR r ∧ ∀ H', Same H H' → Q (.str (wtS r)) H'
theorem ok_written1 {f1 : Addr} {fd1 : FuncData} (F : Fun K "_written_rule" "_written_rule" sWritten1 f fd) (G1 : FnOk P w K mg base CX0 k f1 fd1 ["plain", "negated"] (spWithNot K)) (b1 : Binds K fd1 ["plain", "negated"] []) (k1 : PySem.W.keepIn K (.ref f1) = true) (m1 : mg "_with_not" = some (.ref f1)) :
    FnOk P w K mg base CX0 (k + 1) f fd ["row"] (spWritten1 K) := by
  refine F.ok scWritten1 (fun vs H Q E h => ?_) (fun cdv A outer s H vs Q E hr h => ?_)
  · obtain ⟨x, r, rfl, _⟩ := h
    rfl
  obtain ⟨x, r, rfl, hx, hI, q⟩ := h
  refine ⟨_, pss_cons (ps_asg (pv 0) (pg_tup (by rfl) (pgs_cons (pg_name (i := 1) scWritten1.nd rfl (.inl rfl)) (pgs_cons (pg_name (i := 2) scWritten1.nd rfl (.inl rfl)) (pgs_cons (pg_name (i := 3) scWritten1.nd rfl (.inl rfl)) (pgs_cons (pg_name (i := 4) scWritten1.nd rfl (.inl rfl)) pgs_nil))))))
    (pss_cons (ps_set (i := 5) scWritten1.nd rfl (.inl rfl) (pe_join pe_str (pe_call G1 hr (by rfl) m1 k1 b1 .nil pass0 (pa_cons (pv 1) (pa_cons (pv 2) pa_nil)))))
    (pss_cons (ps_set (i := 6) scWritten1.nd rfl (.inl rfl) (pe_join pe_str (pe_call G1 hr (by rfl) m1 k1 b1 .nil pass0 (pa_cons (pv 3) (pa_cons (pv 4) pa_nil)))))
    (pss_cons (ps_if (pt_truth (pv 6) (fun _ => rfl)) (pss_one (ps_ret (pe_ifExp (pt_truth (pv 5) (fun _ => rfl)) (pe_joined (.cons (pe_fmt (pv 5)) (.cons pe_str (.cons (pe_fmt (pv 6)) (.cons pe_str .nil))))) (pe_joined (.cons pe_str (.cons (pe_fmt (pv 6)) (.cons pe_str .nil))))))) pss_nil)
    (pss_one (ps_ret (pe_ifExp (pt_truth (pv 5) (fun _ => rfl)) (pe_joined (.cons (pe_fmt (pv 5)) (.cons pe_str .nil))) pe_str)))))), ?_⟩
  obtain ⟨i1, i2, i3, i4⟩ := id hI
  obtain ⟨a, v1, v2, v3, v4, rfl, hT, g1, g2, g3, g4⟩ := of_rd hx
  have f1' := i1.few
  have f2' := i2.few
  have f3' := i3.few
  have f4' := i4.few
  have l3 : sOr.length = 3 := by decide +kernel
  have l2 : sCo.length = 2 := by decide +kernel
  have lf : (frS r).length ≤ 15 * (r.1.length + r.2.1.length) := half_len (by rw [l3]; decide) i1 i2
  have lb : (bkS r).length ≤ 15 * (r.2.2.1.length + r.2.2.2.length) := half_len (by rw [l2]; decide) i3 i4
  have sum1 := wnS_sum i1 i2
  have sum2 := wnS_sum i3 i4
  have e1 : (wnS r.1 r.2.1).length = r.1.length + r.2.1.length := by unfold wnS; rw [List.length_append, List.length_map]
  have e2 : (wnS r.2.2.1 r.2.2.2).length = r.2.2.1.length + r.2.2.2.length := by unfold wnS; rw [List.length_append, List.length_map]
  have few : ∀ n : Nat, n ≤ 10000 → n ≤ sizeLine := fun n h => small_line h
  refine ⟨.ref a, rfl, a, _, rfl, hT, rfl, _, _, rfl, _, _, rfl, _, _, rfl, _, [], rfl, rfl, ?_⟩
  refine ⟨⟨_, rfl⟩, v1, rfl, v2, rfl, v1, v2, r.1, r.2.1, rfl, g1, g2, i1, i2, fun H1 p1 s1 hp1 => ?_⟩
  refine ⟨sOr, p1, wnS r.1 r.2.1, rfl, rfl, .inl (SqL.of hp1), by rw [e1, l3]; omega, ?_⟩
  refine ⟨⟨_, rfl⟩, v3, rfl, v4, rfl, v3, v4, r.2.2.1, r.2.2.2, rfl, dp_same s1 _ _ g3, dp_same s1 _ _ g4, i3, i4, fun H2 p2 s2 hp2 => ?_⟩
  refine ⟨sCo, p2, wnS r.2.2.1 r.2.2.2, rfl, rfl, .inl (SqL.of hp2), by rw [e2, l2]; omega, ?_⟩
  have q0 := q H2 (s1.trans s2)
  have tb : TruV K (.str (bkS r)) H2 (!(bkL r).isEmpty) := ⟨few _ (by omega), by
    rw [len_list, bkS_list]
    cases bkL r <;> rfl⟩
  have tf : TruV K (.str (frS r)) H2 (!(frL r).isEmpty) := ⟨few _ (by omega), by
    rw [len_list, frS_list]
    cases frL r <;> rfl⟩
  have dot : (("." : Str)).cps.toList = [46] := by decide +kernel
  have em : (Str.empty).cps.toList = [] := rfl
  have ll : ∀ a b : Str, (a ++ b).length = a.length + b.length := fun a b => by rw [len_list, app_cps, List.length_append, ← len_list, ← len_list]
  have l0 : Str.empty.length = 0 := rfl
  have l1 : (("." : Str)).length = 1 := by decide +kernel
  have l4 : ((" :- " : Str)).length = 4 := by decide +kernel
  have l5 : ((":- " : Str)).length = 3 := by decide +kernel
  have m4 : ((" :- " : Str)).cps.toList = [32, 58, 45, 32] := by decide +kernel
  have m5 : ((":- " : Str)).cps.toList = [58, 45, 32] := by decide +kernel
  have wl : (wtS r).cps.toList = wtL r := rfl
  have st : ∀ {z : Str}, z.cps.toList = wtL r → Q (.str z) H2 := fun {z} e => by
    rw [show z = wtS r from str_ext e]
    exact q0
  refine ⟨.str (bkS r), rfl, _, tb, ?_⟩
  cases eb : bkL r with
  | nil =>
    refine iteF ⟨.str (frS r), rfl, _, tf, ?_⟩
    cases ef : frL r with
    | nil => exact iteF (st (by unfold wtL; rw [if_pos eb, if_pos ef]; decide +kernel))
    | cons c t =>
      refine iteT ⟨.str (frS r), rfl, .inl ⟨_, rfl, few _ (by omega), frS r, rfl, few _ (by rw [ll]; omega), ".", rfl, few _ (by rw [ll, ll]; omega), st ?_⟩⟩
      unfold wtL
      rw [if_pos eb, if_neg (by rw [ef]; simp), app_cps, app_cps, em, dot, frS_list]
      rfl
  | cons c t =>
    refine iteT ⟨.str (frS r), rfl, _, tf, ?_⟩
    cases ef : frL r with
    | nil =>
      refine iteF ⟨":- ", rfl, few _ (by rw [ll]; omega), .str (bkS r), rfl, .inl ⟨_, rfl, few _ (by omega), bkS r, rfl, few _ (by rw [ll, ll]; omega), ".", rfl, few _ (by rw [ll, ll, ll]; omega), st ?_⟩⟩
      unfold wtL
      rw [if_neg (by rw [eb]; simp), if_pos ef, app_cps, app_cps, app_cps, em, dot, m5, bkS_list]
      simp
    | cons c' t' =>
      refine iteT ⟨.str (frS r), rfl, .inl ⟨_, rfl, few _ (by omega), frS r, rfl, few _ (by rw [ll]; omega), " :- ", rfl, few _ (by rw [ll, ll]; omega), .str (bkS r), rfl, .inl ⟨_, rfl, few _ (by omega), bkS r, rfl, few _ (by rw [ll, ll, ll]; omega), ".", rfl, few _ (by rw [ll, ll, ll, ll]; omega), st ?_⟩⟩⟩
      unfold wtL
      rw [if_neg (by rw [eb]; simp), if_neg (by rw [ef]; simp), app_cps, app_cps, app_cps, app_cps, em, dot, m4, bkS_list, frS_list]
      simp
end
end Rw
namespace Rw
open PySem PySem.Spec PyProof.Rows L2
/-! ### names, worlds and rules asked of things of any kind -/
section
variable {K : PySem.W.Frag} {H H' : Hp} {x : V}
theorem tyOf_same (e : Same H H') {t : Value} (h : TyOf K H x t) : TyOf K H' x t := by
  cases h with
  | non => exact .non
  | bl b => exact .bl b
  | int i => exact .int i
  | str z => exact .str z
  | flt z => exact .flt z
  | lst h => exact .lst (e _ _ h)
  | frz h => exact .frz (e _ _ h)
  | tup h => exact .tup (e _ _ h)
  | dK h => exact .dK (e _ _ h)
  | dT h => exact .dT (e _ _ h)
  | ins h a b c d f => exact .ins (e _ _ h) a b c d f
theorem tyx_same (e : Same H H') {t : Value} (h : TyX K H x t) : TyX K H' x t := by
  cases h with
  | base h => exact .base (tyOf_same e h)
  | byt b => exact .byt b
  | set e1 => exact .set (e _ _ e1)
  | kList e1 c => exact .kList e1 c
  | kTuple e1 c => exact .kTuple e1 c
  | kDict e1 c => exact .kDict e1 c
  | fTuple e1 => exact .fTuple (e _ _ e1)
  | fDict e1 => exact .fDict (e _ _ e1)
/-- a thing that is of no class T -/
def NotT (K : PySem.W.Frag) (H : Hp) (x : V) (T : String) : Prop := ∃ t, TyX K H x t ∧ PySem.W.kitOne K t (.type T) = some false
theorem NotT.same {T : String} (h : NotT K H x T) (e : Same H H') : NotT K H' x T := let ⟨t, h1, h2⟩ := h; ⟨t, tyx_same e h1, h2⟩
/-- x, and whether it is a name -/
def NmV (K : PySem.W.Frag) (H : Hp) (x : V) (b : Bool) : Prop := (∃ d, Dp K H x d ∧ oddN d ∧ b = nameD d) ∨ (NotT K H x "str" ∧ b = false)
theorem NmV.same {b : Bool} (h : NmV K H x b) (e : Same H H') : NmV K H' x b := h.elim (fun ⟨d, h1, h2, h3⟩ => .inl ⟨d, dp_same e _ _ h1, h2, h3⟩) fun ⟨h1, h2⟩ => .inr ⟨h1.same e, h2⟩
/-- neither tuple nor list -/
def NotTL (K : PySem.W.Frag) (H : Hp) (x : V) : Prop := ∃ t, TyX K H x t ∧ PySem.W.kitOne K t (.type "tuple") = some false ∧ PySem.W.kitOne K t (.type "list") = some false
theorem NotTL.same (h : NotTL K H x) (e : Same H H') : NotTL K H' x := let ⟨t, h1, h2⟩ := h; ⟨t, tyx_same e h1, h2⟩
/-- x, and whether it is a tuple or list of names -/
def ArV (K : PySem.W.Frag) (H : Hp) (x : V) (b : Bool) : Prop := (∃ a xs ds, x = .ref a ∧ (SqT K H a xs ∨ SqL K H a xs) ∧ DpAll K H xs ds ∧ (∀ d ∈ ds, oddN d) ∧ ds.length ≤ 900 ∧ b = ds.all nameD) ∨ (NotTL K H x ∧ b = false)
theorem ArV.same {b : Bool} (h : ArV K H x b) (e : Same H H') : ArV K H' x b :=
  h.elim (fun ⟨a, xs, ds, h1, h2, h3, h4⟩ => .inl ⟨a, xs, ds, h1, h2.elim (fun z => .inl (same_tup e z)) (fun z => .inr (e.seq z)), dpAll_same e _ _ h3, h4⟩) fun ⟨h1, h2⟩ => .inr ⟨h1.same e, h2⟩
/-- x, and whether it is a world -/
def WlV (K : PySem.W.Frag) (H : Hp) (x : V) (b : Bool) : Prop := (∃ d, Dp K H x d ∧ oddW d ∧ b = worldD d) ∨ (NotT K H x "tuple" ∧ b = false)
theorem WlV.same {b : Bool} (h : WlV K H x b) (e : Same H H') : WlV K H' x b := h.elim (fun ⟨d, h1, h2, h3⟩ => .inl ⟨d, dp_same e _ _ h1, h2, h3⟩) fun ⟨h1, h2⟩ => .inr ⟨h1.same e, h2⟩
def WlVs (K : PySem.W.Frag) (H : Hp) : List V → List Bool → Prop
  | [], [] => True
  | x :: xs, b :: bs => WlV K H x b ∧ WlVs K H xs bs
  | _, _ => False
theorem WlVs.same (e : Same H H') : ∀ {xs : List V} {bs : List Bool}, WlVs K H xs bs → WlVs K H' xs bs
  | [], [], _ => True.intro
  | _ :: _, _ :: _, ⟨h, t⟩ => ⟨h.same e, WlVs.same e t⟩
  | [], _ :: _, h => h.elim
  | _ :: _, [], h => h.elim
theorem WlVs.len : ∀ {xs : List V} {bs : List Bool}, WlVs K H xs bs → xs.length = bs.length
  | [], [], _ => rfl
  | _ :: _, _ :: _, ⟨_, t⟩ => by rw [List.length_cons, List.length_cons, WlVs.len t]
  | [], _ :: _, h => h.elim
  | _ :: _, [], h => h.elim
theorem WlVs.at : ∀ {xs : List V} {bs : List Bool} {i : Nat} {x : V}, WlVs K H xs bs → xs[i]? = some x → ∃ b, bs[i]? = some b ∧ WlV K H x b
  | x :: xs, b :: bs, 0, y, ⟨h, _⟩, e => ⟨b, rfl, (show x = y by simpa using e) ▸ h⟩
  | x :: xs, b :: bs, i + 1, y, ⟨_, t⟩, e => by
    obtain ⟨b, h1, h2⟩ := WlVs.at (i := i) t (by simpa using e)
    exact ⟨b, by simpa using h1, h2⟩
  | [], [], _, _, _, e => by simp at e
  | [], _ :: _, _, _, h, _ => h.elim
  | _ :: _, [], _, _, h, _ => h.elim
/-- x, and whether it is a rule -/
def RuV (K : PySem.W.Frag) (H : Hp) (x : V) (b : Bool) : Prop := (∃ a xs bs, x = .ref a ∧ SqT K H a xs ∧ WlVs K H xs bs ∧ bs.length ≤ 100 ∧ b = (decide (bs.length = 4) && bs.all id)) ∨ (NotT K H x "tuple" ∧ b = false)
theorem RuV.same {b : Bool} (h : RuV K H x b) (e : Same H H') : RuV K H' x b := h.elim (fun ⟨a, xs, bs, h1, h2, h3, h4⟩ => .inl ⟨a, xs, bs, h1, same_tup e h2, h3.same e, h4⟩) fun ⟨h1, h2⟩ => .inr ⟨h1.same e, h2⟩
theorem WlV.yes {b : Bool} (h : WlV K H x b) (t : b = true) : ∃ ns, IsW ns ∧ Dp K H x (wd ns) := by
  rcases h with ⟨d, h1, h2, rfl⟩ | ⟨_, rfl⟩
  · obtain ⟨ns, hn, rfl⟩ := worldD_of h2 t
    exact ⟨ns, hn, h1⟩
  · exact nomatch t
theorem len4 {α : Type} {l : List α} (h : l.length = 4) : ∃ a b c d, l = [a, b, c, d] := by
  rcases l with _ | ⟨a, _ | ⟨b, _ | ⟨c, _ | ⟨d, _ | ⟨e, t⟩⟩⟩⟩⟩
  · exact absurd h (by simp)
  · exact absurd h (by simp)
  · exact absurd h (by simp)
  · exact absurd h (by simp)
  · exact ⟨a, b, c, d, rfl⟩
  · exact absurd h (by simp)
theorem RuV.yes {b : Bool} (h : RuV K H x b) (t : b = true) : ∃ r, IsR r ∧ Dp K H x (rd r) := by
  rcases h with ⟨a, xs, bs, rfl, hS, hW, _, rfl⟩ | ⟨_, rfl⟩
  · rw [Bool.and_eq_true] at t
    have l4 := of_decide_eq_true t.1
    obtain ⟨b1, b2, b3, b4, rfl⟩ := len4 l4
    obtain ⟨y1, y2, y3, y4, rfl⟩ := len4 (hW.len.trans l4)
    obtain ⟨w1, w2, w3, w4, _⟩ := hW
    have al := t.2
    simp only [List.all_cons, List.all_nil, Bool.and_true, Bool.and_eq_true, id] at al
    obtain ⟨n1, i1, d1⟩ := w1.yes al.1
    obtain ⟨n2, i2, d2⟩ := w2.yes al.2.1
    obtain ⟨n3, i3, d3⟩ := w3.yes al.2.2.1
    obtain ⟨n4, i4, d4⟩ := w4.yes al.2.2.2
    exact ⟨(n1, n2, n3, n4), ⟨i1, i2, i3, i4⟩, .tup hS (.cons d1 (.cons d2 (.cons d3 (.cons d4 .nil))))⟩
  · exact nomatch t
end
section
variable {P : Program} {w : World} {K : PySem.W.Frag} {mg : Str → Option Value} {base : Heap} {f : Addr} {fd : FuncData} {k : Nat}
def spIsNameN (K : PySem.W.Frag) : Sp := fun vs H Q _ => ∃ x, vs = [x] ∧ NotT K H x "str" ∧ Q (.bl false) H
theorem ok_isNameN (F : Fun K "is_name" "is_name" sIsName f fd) (T : Bl mg) (mL : ∃ t, mg "LETTERS" = some (.str lettersS t)) : FnOk P w K mg base CX0 (k + 1) f fd ["thing"] (spIsNameN K) := by
  refine F.ok scIsName (fun vs H Q E h => let ⟨x, e, _⟩ := h; by rw [e]; rfl) (fun cdv A outer s H vs Q E hr h => ?_)
  obtain ⟨x, rfl, ⟨t, h1, h2⟩, q⟩ := h
  obtain ⟨tl, mL⟩ := mL
  refine ⟨_, pss_cons (ps_if (PW.pt (pw_or (pt_not (pt_val (pe_callB call_isi (by rfl) T.isi PyProof.Rows.boot_isinstance (pa_cons (pv 0) (pa_cons (pe_bltn (v := .ty "str") (by rfl) T.str (by decide +kernel) rfl) pa_nil)))))
      (pw_or1 (pt_cmpR op_eq (pv 0) pe_str (nomark _))))) (pss_one (ps_ret pe_bl)) pss_nil)
    (pss_one (ps_ret (pe_and (pe_chain op_le op_le pe_int (pe_callB call_len_str (by rfl) T.len PySem.boot_len (pa_cons (pv 0) pa_nil)) pe_int)
      (pe_one (pe_callB (cr_all rfl) (by rfl) T.all (by decide +kernel) (pa_cons (pe_lc (own := [("letter", 1)]) (g := gName 1) (by rfl) scIsName.nd (pi_str (pv 0)) (blkOk_by (N := ["thing", "letter"]) (sc := defScope sIsName) (by decide +kernel))
        (fun _ _ _ _ _ => pg_name (i := 1) scIsName.nd rfl (Or.inl rfl)) (fun _ _ _ _ _ => pts_nil) (fun _ _ _ _ _ => pe_cmpR op_in_sign (pv 1) (pe_glob (v := .str lettersS) (by rfl) mL ⟨_, rfl⟩) (by rfl))) pa_nil)))))), ?_⟩
  exact ⟨x, rfl, x, .ty "str", t, .type "str", false, rfl, .ty "str", h1, h2, false, rfl, iteT q⟩
def spIsNameX (K : PySem.W.Frag) : Sp := fun vs H Q _ => ∃ x b, vs = [x] ∧ NmV K H x b ∧ ∀ H', Same H H' → Q (.bl b) H'
theorem ok_isNameX (G : FnOk P w K mg base CX0 k f fd ["thing"] (spIsName K)) (G' : FnOk P w K mg base CX0 k f fd ["thing"] (spIsNameN K)) : FnOk P w K mg base CX0 k f fd ["thing"] (spIsNameX K) := by
  refine (fn_or G G').imp fun vs H Q E h => ?_
  obtain ⟨x, b, rfl, ⟨d, h1, h2, rfl⟩ | ⟨h1, rfl⟩, q⟩ := h
  · exact .inl ⟨x, d, rfl, h1, h2, q⟩
  · exact .inr ⟨x, rfl, h1, q H fun _ _ e => e⟩
/-- _are_names of a list of things -/
def spAreL (K : PySem.W.Frag) : Sp := fun vs H Q _ => ∃ (a : Addr) (xs : List V) (ds : List PyData), vs = [.ref a] ∧ SqL K H a xs ∧ DpAll K H xs ds ∧ (∀ d ∈ ds, oddN d) ∧ ds.length ≤ 1000 ∧ ∀ H', Same H H' → Q (.bl (ds.all nameD)) H'
theorem ok_areL {f1 : Addr} {fd1 : FuncData} (F : Fun K "_are_names" "_are_names" sAreNames f fd) (T : Bl mg) (G : FnOk P w K mg base CX0 k f1 fd1 ["thing"] (spIsName K)) (b1 : Binds K fd1 ["thing"] []) (k1 : PySem.W.keepIn K (.ref f1) = true) (m1 : mg "is_name" = some (.ref f1)) :
    FnOk P w K mg base CX0 (k + 1) f fd ["thing"] (spAreL K) := by
  refine F.ok scAreNames (fun vs H Q E h => let ⟨a, xs, ds, e, _⟩ := h; by rw [e]; rfl) (fun cdv A outer s H vs Q E hr h => ?_)
  obtain ⟨a, xs, ds, rfl, hS, hx, odd, few, q⟩ := h
  have xl := dpAll_len hx
  refine ⟨_, pss_one (ps_ret (pe_and (pe_callB call_isiT (by rfl) T.isi PyProof.Rows.boot_isinstance (pa_cons (pv 0) (pa_cons (pe_tup (pa_cons (pe_bltn (v := .ty "tuple") (by rfl) T.tuple (by decide +kernel) rfl) (pa_cons (pe_bltn (v := .ty "list") (by rfl) T.list (by decide +kernel) rfl) pa_nil))) pa_nil)))
      (pe_one (pe_callB (cr_all rfl) (by rfl) T.all (by decide +kernel) (pa_cons (pe_lc (own := [("item", 1)]) (g := gName 1) (by rfl) scAreNames.nd (pi_list (pv 0)) (blkOk_by (N := ["thing", "item"]) (sc := defScope sAreNames) (by decide +kernel))
        (fun _ _ _ _ _ => pg_name (i := 1) scAreNames.nd rfl (Or.inl rfl)) (fun _ _ _ _ _ => pts_nil) (fun _ _ _ _ _ => pe_call G hr (by rfl) m1 k1 b1 .nil pass0 (pa_cons (pv 1) pa_nil))) pa_nil))))), ?_⟩
  refine ⟨.ref a, rfl, by show 2 ≤ sizeLine; decide, fun T0 hT => ?_⟩
  have s0 : Same H (upd H T0 (.tup [.ty "tuple", .ty "list"])) := same_new hT _
  refine ⟨.ref a, T0, [.ty "tuple", .ty "list"], .type "list", [.type "tuple", .type "list"], true, rfl, upd_same, .cons (.ty _) (.cons (.ty _) .nil), tyx_dp (d := .list ds) (.lst (s0.seq hS) (dpAll_same s0 _ _ hx)), kitAny_cons (b := false) (kit_ty (by decide +kernel)) (fun _ => kitAny_cons (b := true) (kit_ty (by decide +kernel)) (fun z => nomatch z) fun _ => rfl) (fun z => nomatch z), true, rfl, iteT ?_⟩
  generalize upd H T0 (.tup [.ty "tuple", .ty "list"]) = H0 at s0 ⊢
  refine ⟨.ref a, rfl, a, rfl, ⟨_, s0.seq hS⟩, fun D hD => ?_⟩
  refine lc_list (xs := xs) (fun i H1 => Same H0 H1 ∧ H1 D = some (.lst ((ds.take i).map fun d => V.bl (nameD d)))) ⟨same_new hD _, upd_same⟩ (fun i H1 _ hI => (s0.trans hI.1).seq hS) (fun i x H1 hxi hI => ?_) (fun H1 hI => ?_)
  · obtain ⟨sm, hd⟩ := hI
    obtain ⟨d, hdi, hxd⟩ := dpAll_at' hx hxi
    have il : i < ds.length := (List.getElem?_eq_some_iff.mp hdi).1
    refine ⟨rfl, x, rfl, x, d, rfl, dp_same (s0.trans sm) _ _ hxd, odd d (List.mem_of_getElem? hdi), fun H2 sm2 => ⟨_, sm2 _ _ hd, small_line' (by rw [List.length_map, List.length_take]; omega), same_put (sm.trans sm2) hD, ?_⟩⟩
    rw [upd_same, take_snoc hdi, List.map_append]
    rfl
  · obtain ⟨sm, hd⟩ := hI
    rw [xl, List.take_length] at hd
    refine ⟨D, ds.map nameD, rfl, SqL.of (by rw [List.map_map]; exact hd), ?_⟩
    have z : (ds.map nameD).all id = ds.all nameD := by
      rw [List.all_map]
      rfl
    rw [z]
    exact q H1 (s0.trans sm)
def spAreN (K : PySem.W.Frag) : Sp := fun vs H Q _ => ∃ x, vs = [x] ∧ NotTL K H x ∧ ∀ H', Same H H' → Q (.bl false) H'
theorem ok_areN {f1 : Addr} {fd1 : FuncData} (F : Fun K "_are_names" "_are_names" sAreNames f fd) (T : Bl mg) (G : FnOk P w K mg base CX0 k f1 fd1 ["thing"] (spIsName K)) (b1 : Binds K fd1 ["thing"] []) (k1 : PySem.W.keepIn K (.ref f1) = true) (m1 : mg "is_name" = some (.ref f1)) :
    FnOk P w K mg base CX0 (k + 1) f fd ["thing"] (spAreN K) := by
  refine F.ok scAreNames (fun vs H Q E h => let ⟨x, e, _⟩ := h; by rw [e]; rfl) (fun cdv A outer s H vs Q E hr h => ?_)
  obtain ⟨x, rfl, hN, q⟩ := h
  refine ⟨_, pss_one (ps_ret (pe_and (pe_callB call_isiT (by rfl) T.isi PyProof.Rows.boot_isinstance (pa_cons (pv 0) (pa_cons (pe_tup (pa_cons (pe_bltn (v := .ty "tuple") (by rfl) T.tuple (by decide +kernel) rfl) (pa_cons (pe_bltn (v := .ty "list") (by rfl) T.list (by decide +kernel) rfl) pa_nil))) pa_nil)))
      (pe_one (pe_callB (cr_all rfl) (by rfl) T.all (by decide +kernel) (pa_cons (pe_lc (own := [("item", 1)]) (g := gName 1) (by rfl) scAreNames.nd (pi_list (pv 0)) (blkOk_by (N := ["thing", "item"]) (sc := defScope sAreNames) (by decide +kernel))
        (fun _ _ _ _ _ => pg_name (i := 1) scAreNames.nd rfl (Or.inl rfl)) (fun _ _ _ _ _ => pts_nil) (fun _ _ _ _ _ => pe_call G hr (by rfl) m1 k1 b1 .nil pass0 (pa_cons (pv 1) pa_nil))) pa_nil))))), ?_⟩
  refine ⟨x, rfl, by show 2 ≤ sizeLine; decide, fun T0 hT => ?_⟩
  have s0 : Same H (upd H T0 (.tup [.ty "tuple", .ty "list"])) := same_new hT _
  obtain ⟨t, h1, h2, h3⟩ := hN.same s0
  exact ⟨x, T0, [.ty "tuple", .ty "list"], t, [.type "tuple", .type "list"], false, rfl, upd_same, .cons (.ty _) (.cons (.ty _) .nil), h1, kitAny_cons (b := false) h2 (fun _ => kitAny_cons (b := false) h3 (fun _ => rfl) (fun z => nomatch z)) (fun z => nomatch z), false, rfl, iteF (q _ s0)⟩
def spAreX (K : PySem.W.Frag) : Sp := fun vs H Q _ => ∃ x b, vs = [x] ∧ ArV K H x b ∧ ∀ H', Same H H' → Q (.bl b) H'
theorem ok_areX (G : FnOk P w K mg base CX0 k f fd ["thing"] (spAreNames K)) (G2 : FnOk P w K mg base CX0 k f fd ["thing"] (spAreL K)) (G3 : FnOk P w K mg base CX0 k f fd ["thing"] (spAreN K)) : FnOk P w K mg base CX0 k f fd ["thing"] (spAreX K) := by
  refine (fn_or G (fn_or G2 G3)).imp fun vs H Q E h => ?_
  obtain ⟨x, b, rfl, ⟨a, xs, ds, rfl, hS | hS, hx, odd, few, rfl⟩ | ⟨hN, rfl⟩, q⟩ := h
  · exact .inl ⟨a, xs, ds, rfl, hS, hx, odd, by omega, q⟩
  · exact .inr (.inl ⟨a, xs, ds, rfl, hS, hx, odd, by omega, q⟩)
  · exact .inr (.inr ⟨x, rfl, hN, q⟩)
/-- is_world of what is no tuple -/
def spIsWorldN (K : PySem.W.Frag) : Sp := fun vs H Q _ => ∃ x, vs = [x] ∧ NotT K H x "tuple" ∧ Q (.bl false) H
theorem ok_isWorldN {f1 f2 : Addr} {fd1 fd2 : FuncData} (F : Fun K "is_world" "is_world" sIsWorld f fd) (T : Bl mg) (G1 : FnOk P w K mg base CX0 k f1 fd1 ["thing"] (spAreNames K)) (b1 : Binds K fd1 ["thing"] []) (k1 : PySem.W.keepIn K (.ref f1) = true) (m1 : mg "_are_names" = some (.ref f1))
    (G2 : FnOk P w K mg base CX0 k f2 fd2 ["names"] (spSetOf K)) (b2 : Binds K fd2 ["names"] []) (k2 : PySem.W.keepIn K (.ref f2) = true) (m2 : mg "_set_of" = some (.ref f2)) : FnOk P w K mg base CX0 (k + 1) f fd ["thing"] (spIsWorldN K) := by
  refine F.ok scIsWorld (fun vs H Q E h => let ⟨x, e, _⟩ := h; by rw [e]; rfl) (fun cdv A outer s H vs Q E hr h => ?_)
  obtain ⟨x, rfl, ⟨t, h1, h2⟩, q⟩ := h
  refine ⟨_, pss_one (ps_ret (pe_and (pe_callB call_isi (by rfl) T.isi PyProof.Rows.boot_isinstance (pa_cons (pv 0) (pa_cons (pe_bltn (v := .ty "tuple") (by rfl) T.tuple (by decide +kernel) rfl) pa_nil)))
    (pe_and (pe_call G1 hr (by rfl) m1 k1 b1 .nil pass0 (pa_cons (pv 0) pa_nil)) (pe_one (pe_cmpR (op_eqD hr.units) (pv 0) (pe_call G2 hr (by rfl) m2 k2 b2 .nil pass0 (pa_cons (pv 0) pa_nil)) (nomark _)))))), ?_⟩
  exact ⟨x, rfl, x, .ty "tuple", t, .type "tuple", false, rfl, .ty _, h1, h2, false, rfl, iteF q⟩
def spIsWorldX (K : PySem.W.Frag) : Sp := fun vs H Q _ => ∃ x b, vs = [x] ∧ WlV K H x b ∧ ∀ H', Same H H' → Q (.bl b) H'
theorem ok_isWorldX (G : FnOk P w K mg base CX0 k f fd ["thing"] (spIsWorld K)) (G' : FnOk P w K mg base CX0 k f fd ["thing"] (spIsWorldN K)) : FnOk P w K mg base CX0 k f fd ["thing"] (spIsWorldX K) := by
  refine (fn_or G G').imp fun vs H Q E h => ?_
  obtain ⟨x, b, rfl, ⟨d, h1, h2, rfl⟩ | ⟨h1, rfl⟩, q⟩ := h
  · exact .inl ⟨x, d, rfl, h1, h2, q⟩
  · exact .inr ⟨x, rfl, h1, q H fun _ _ e => e⟩
/-- is_rule of anything -/
def spIsRuleX (K : PySem.W.Frag) : Sp := fun vs H Q _ => ∃ x b, vs = [x] ∧ RuV K H x b ∧ ∀ H', Same H H' → Q (.bl b) H'
theorem ok_isRuleX {f1 : Addr} {fd1 : FuncData} (F : Fun K "is_rule" "is_rule" sIsRule f fd) (T : Bl mg) (G1 : FnOk P w K mg base CX0 k f1 fd1 ["thing"] (spIsWorldX K)) (b1 : Binds K fd1 ["thing"] []) (k1 : PySem.W.keepIn K (.ref f1) = true) (m1 : mg "is_world" = some (.ref f1)) :
    FnOk P w K mg base CX0 (k + 1) f fd ["thing"] (spIsRuleX K) := by
  refine F.ok scIsRule (fun vs H Q E h => let ⟨x, b, e, _⟩ := h; by rw [e]; rfl) (fun cdv A outer s H vs Q E hr h => ?_)
  obtain ⟨x, b, rfl, hx, q⟩ := h
  refine ⟨_, pss_one (ps_ret (pe_and (pe_callB call_isi (by rfl) T.isi PyProof.Rows.boot_isinstance (pa_cons (pv 0) (pa_cons (pe_bltn (v := .ty "tuple") (by rfl) T.tuple (by decide +kernel) rfl) pa_nil)))
    (pe_and (pe_cmpR op_eq (pe_callB call_len_seq (by rfl) T.len PySem.boot_len (pa_cons (pv 0) pa_nil)) pe_int (nomark _)) (pe_one (pe_callB (cr_all rfl) (by rfl) T.all (by decide +kernel) (pa_cons (pe_lc (own := [("part", 1)]) (g := gName 1) (by rfl) scIsRule.nd (pi_tup (pv 0)) (blkOk_by (N := ["thing", "part"]) (sc := defScope sIsRule) (by decide +kernel))
        (fun _ _ _ _ _ => pg_name (i := 1) scIsRule.nd rfl (Or.inl rfl)) (fun _ _ _ _ _ => pts_nil) (fun _ _ _ _ _ => pe_call G1 hr (by rfl) m1 k1 b1 .nil pass0 (pa_cons (pv 1) pa_nil))) pa_nil)))))), ?_⟩
  rcases hx with ⟨a, xs, bs, rfl, hS, hW, few, rfl⟩ | ⟨⟨t, h1, h2⟩, rfl⟩
  · have xl := hW.len
    refine ⟨.ref a, rfl, .ref a, .ty "tuple", .type "tuple", .type "tuple", true, rfl, .ty "tuple", tyx_tup hS, kit_ty (by decide +kernel), true, rfl, iteT ?_⟩
    refine ⟨.ref a, rfl, a, xs, rfl, .inr hS, rfl, decide (bs.length = 4), congrArg V.bl ?_, ?_⟩
    · rw [xl]
      by_cases c : bs.length = 4
      · rw [c]
        decide
      · rw [decide_eq_false c]
        simp [eqV, c]
        omega
    by_cases c : bs.length = 4
    · rw [decide_eq_true c]
      refine iteT ?_
      refine ⟨.ref a, rfl, a, rfl, ⟨_, hS⟩, fun D hD => ?_⟩
      refine lc_tup (xs := xs) (fun i H1 => Same H H1 ∧ H1 D = some (.lst ((bs.take i).map V.bl))) ⟨same_new hD _, upd_same⟩ (fun i H1 _ hI => same_tup hI.1 hS) (fun i x H1 hxi hI => ?_) (fun H1 hI => ?_)
      · obtain ⟨sm, hd⟩ := hI
        obtain ⟨b, hb, hxb⟩ := hW.at hxi
        refine ⟨rfl, x, rfl, x, b, rfl, hxb.same sm, fun H2 sm2 => ⟨_, sm2 _ _ hd, small_line' (by rw [List.length_map, List.length_take]; omega), same_put (sm.trans sm2) hD, ?_⟩⟩
        rw [upd_same, take_snoc hb, List.map_append]
        rfl
      · obtain ⟨sm, hd⟩ := hI
        rw [xl, List.take_length] at hd
        refine ⟨D, bs, rfl, SqL.of hd, ?_⟩
        have := q H1 sm
        rw [decide_eq_true c, Bool.true_and] at this
        exact this
    · rw [decide_eq_false c]
      refine iteF ?_
      have := q H fun _ _ e => e
      rw [decide_eq_false c, Bool.false_and] at this
      exact this
  · exact ⟨x, rfl, x, .ty "tuple", t, .type "tuple", false, rfl, .ty _, h1, h2, false, rfl, iteF (q H fun _ _ e => e)⟩
end
end Rw
namespace Rw
open PySem PySem.Spec PyProof.Rows L2
/-! ### a line taken apart -/
theorem scHalves : FnScope ["line", "text", "front", "_", "back"] ["line"] (defScope sHalves) := ⟨rfl, rfl, rfl, by decide +kernel, rfl, by decide +kernel, by decide +kernel⟩
abbrev nWithout : List Str := ["half", "mark", "words", "plain", "negated", "word"]
theorem scWithout : FnScope nWithout ["half", "mark"] (defScope sWithout) := ⟨rfl, rfl, rfl, by decide +kernel, rfl, by decide +kernel, by decide +kernel⟩
theorem occ_few (s sub : Str) (hi limit : Nat) : (Builtin.Str.occurrences s sub 0 hi limit).length ≤ hi + 1 := by
  rw [occ_fold, Array.length_toList]
  have key : ∀ (l : List Nat) (st : Array Nat × Nat), (l.foldl (occStep s sub hi limit) st).1.size ≤ st.1.size + l.length := by
    intro l
    induction l with
    | nil => intro st; exact Nat.le_refl _
    | cons a l ih =>
      intro st
      rw [List.foldl_cons, List.length_cons]
      have h := ih (occStep s sub hi limit st a)
      have h2 : (occStep s sub hi limit st a).1.size ≤ st.1.size + 1 := by
        unfold occStep
        split
        · show (st.1.push a).size ≤ _
          rw [Array.size_push]
          exact Nat.le_refl _
        · omega
      omega
  have := key (List.range (hi + 1)) (#[], 0)
  rw [List.length_range] at this
  simpa using this
theorem split_few (s sub : Str) : (Txt.split s sub).length ≤ s.length + 2 := by
  have h := occ_few s sub s.length (s.length + 1)
  unfold Txt.split
  split
  · show 1 ≤ _
    omega
  · split
    · show 1 ≤ _
      omega
    · unfold Builtin.Str.partsBetween
      rw [List.length_map, List.length_zip, List.length_cons, List.length_map]
      omega
theorem split_len {s sub u : Str} (h : u ∈ Txt.split s sub) : u.length ≤ s.length := by
  unfold Txt.split at h
  split at h
  · rw [List.mem_singleton.mp h]
    exact Nat.le_refl _
  · split at h
    · rw [List.mem_singleton.mp h]
      exact Nat.le_refl _
    · unfold Builtin.Str.partsBetween at h
      obtain ⟨x, _, rfl⟩ := List.mem_map.mp h
      show (Builtin.Str.strSub s x.1 x.2).length ≤ _
      rw [len_list, strSub_list, List.length_take, List.length_drop, ← len_list]
      omega
theorem splS_len {s sub u : Str} (h : u ∈ splS s sub) : u.length ≤ s.length := by
  unfold splS at h
  split at h
  · exact nomatch h
  · exact split_len h
theorem splS_few (s sub : Str) : (splS s sub).length ≤ s.length + 2 := by
  unfold splS
  split
  · exact Nat.zero_le _
  · exact split_few s sub
section
variable {P : Program} {w : World} {K : PySem.W.Frag} {mg : Str → Option Value} {base : Heap} {f : Addr} {fd : FuncData} {k : Nat}
def spHalves (K : PySem.W.Frag) : Sp := fun vs H Q _ => ∃ z : Str, vs = [.str z] ∧ z.length ≤ 9000 ∧ ∀ H' p, Same H H' → SqT K H' p [.str (halvesS z).1, .str (halvesS z).2] → Q (.ref p) H'
theorem ok_halves (F : Fun K "_halves" "_halves" sHalves f fd) : FnOk P w K mg base CX0 (k + 1) f fd ["line"] (spHalves K) := by
  refine F.ok scHalves (fun vs H Q E h => ?_) (fun cdv A outer s H vs Q E hr h => ?_)
  · obtain ⟨z, rfl, _⟩ := h
    rfl
  obtain ⟨z, rfl, hz, q⟩ := h
  refine ⟨_, pss_cons (ps_set (i := 1) scHalves.nd rfl (.inl rfl) (pe_slice sl_str (pv 0) po_none (po_some (pe_un un_neg pe_int))))
    (pss_cons (ps_if (pt_val (pe_m1 PySem.F.slot_str_startswith PySem.F.type_str_startswith mt_startswith (pv 1) pe_str)) (pss_one (ps_ret (pe_tup (pa_cons pe_str (pa_cons (pe_slice sl_str (pv 1) (po_some pe_int) po_none) pa_nil))))) pss_nil)
    (pss_cons (ps_asg (pe_partition (pv 1) pe_str) (pg_tup (by rfl) (pgs_cons (pg_name (i := 2) scHalves.nd rfl (.inl rfl)) (pgs_cons (pg_name (i := 3) scHalves.nd rfl (.inl rfl)) (pgs_cons (pg_name (i := 4) scHalves.nd rfl (.inl rfl)) pgs_nil)))))
    (pss_one (ps_ret (pe_tup (pa_cons (pv 2) (pa_cons (pv 4) pa_nil))))))), ?_⟩
  have nr : ∀ u : Str, u.length ≤ 9000 → u.length ≤ sizeLine := fun u h => small_line (by omega)
  have lt : (cutS z none (some (-1))).length ≤ 9000 := by
    rw [len_list]
    show (List.take (HT.sIx z.length z.length (some (-1)) - HT.sIx z.length 0 none) (List.drop (HT.sIx z.length 0 none) z.cps.toList)).length ≤ 9000
    rw [List.length_take, List.length_drop, ← len_list]
    omega
  refine ⟨.str z, rfl, 1, rfl, -1, rfl, z, rfl, nr _ hz, ?_⟩
  refine ⟨.str _, rfl, ⟨_, rfl⟩, _, sI2, rfl, rfl, Txt.startswith (cutS z none (some (-1))) sI2, rfl, ?_⟩
  cases c : Txt.startswith (cutS z none (some (-1))) sI2 with
  | true =>
    refine iteT ⟨.str _, rfl, 3, rfl, _, rfl, nr _ lt, by show 2 ≤ sizeLine; decide, fun t ht => ?_⟩
    refine q _ t (same_new ht _) (SqT.of ?_)
    rw [upd_same]
    unfold halvesS
    rw [if_pos c]
    rfl
  | false =>
    refine iteF ⟨.str _, rfl, ⟨_, rfl⟩, _, sIf, rfl, rfl, by decide +kernel, nr _ lt, fun t ht => ?_⟩
    have s1 := same_new ht (.tup [.str (Txt.partition (cutS z none (some (-1))) sIf).1, .str (Txt.partition (cutS z none (some (-1))) sIf).2.1, .str (Txt.partition (cutS z none (some (-1))) sIf).2.2])
    refine ⟨t, _, rfl, SqT.of upd_same, rfl, _, _, rfl, _, _, rfl, _, [], rfl, rfl, ?_⟩
    refine ⟨.str _, rfl, .str _, rfl, by show 2 ≤ sizeLine; decide, fun t2 ht2 => ?_⟩
    refine q _ t2 (s1.trans (same_new ht2 _)) (SqT.of ?_)
    rw [upd_same]
    unfold halvesS
    rw [if_neg (by rw [c]; decide)]
def spWithout (K : PySem.W.Frag) : Sp := fun vs H Q _ => ∃ z m : Str, vs = [.str z, .str m] ∧ z.length ≤ 9000 ∧ (m.length == 0) = false ∧ ∀ H' p t1 t2, Same H H' → SqT K H' p [.ref t1, .ref t2] → SqT K H' t1 ((plS (splS z m)).map V.str) → SqT K H' t2 ((ngS (splS z m)).map V.str) → Q (.ref p) H'
theorem ok_without (F : Fun K "_without_not" "_without_not" sWithout f fd) (T : Bl mg) (mN : ∃ t, mg "NOT" = some (.str notSp t)) : FnOk P w K mg base CX0 (k + 1) f fd ["half", "mark"] (spWithout K) := by
  obtain ⟨tn, mN⟩ := mN
  refine F.ok scWithout (fun vs H Q E h => ?_) (fun cdv A outer s H vs Q E hr h => ?_)
  · obtain ⟨z, m, rfl, _⟩ := h
    rfl
  obtain ⟨z, m, rfl, hz, hm, q⟩ := h
  refine ⟨_, pss_mid (ps_set (i := 2) scWithout.nd rfl (.inl rfl) (pe_ifExp (pt_truth (pv 0) (fun _ => rfl)) (pe_split (pv 0) (pv 1)) (pe_lst pa_nil)))
    (pss_cons (ps_setLc (i := 3) (own := [("word", 5)]) (g := gName 5) (te := tVar 5) (by rfl) scWithout.nd rfl rfl (sw_true rfl rfl rfl (by decide +kernel)) (pi_list (pv 2)) (blkOk_by (N := nWithout) (sc := defScope sWithout) (by decide +kernel)) (fun _ _ _ _ _ => pg_name (i := 5) scWithout.nd rfl (Or.inl rfl)) (fun _ _ _ _ _ => pts_one (pt_not (pt_val (pe_m1 PySem.F.slot_str_startswith PySem.F.type_str_startswith mt_startswith (pv 5) (pe_glob (v := .str notSp) (by rfl) mN ⟨_, rfl⟩))))) (fun _ _ _ _ _ => pv 5))
    (pss_cons (ps_setLc (i := 4) (own := [("word", 5)]) (g := gName 5) (by rfl) scWithout.nd rfl rfl (sw_true rfl rfl rfl (by decide +kernel)) (pi_list (pv 2)) (blkOk_by (N := nWithout) (sc := defScope sWithout) (by decide +kernel)) (fun _ _ _ _ _ => pg_name (i := 5) scWithout.nd rfl (Or.inl rfl)) (fun _ _ _ _ _ => pts_one (pt_val (pe_m1 PySem.F.slot_str_startswith PySem.F.type_str_startswith mt_startswith (pv 5) (pe_glob (v := .str notSp) (by rfl) mN ⟨_, rfl⟩)))) (fun _ _ _ _ _ => pe_m1 PySem.F.slot_str_removeprefix PySem.F.type_str_removeprefix mt_removeprefix (pv 5) (pe_glob (v := .str notSp) (by rfl) mN ⟨_, rfl⟩)))
    (pss_one (ps_ret (pe_tup (pa_cons (pe_callTy (T := "tuple") call_tuple_of (by rfl) T.tuple (by decide +kernel) (pa_cons (pv 3) pa_nil)) (pa_cons (pe_callTy (T := "tuple") call_tuple_of (by rfl) T.tuple (by decide +kernel) (pa_cons (pv 4) pa_nil)) pa_nil))))))), ?_⟩
  let W1 : List Str := splS z m
  have wl : W1.length ≤ 9002 := by
    have := splS_few z m
    show (splS z m).length ≤ 9002
    omega
  let I : L2.St → Hp → Prop := fun σ H1 => ∃ p, σ = [some (.str z), some (.str m), some (.ref p), none, none, none] ∧ Same H H1 ∧ H1 p = some (.lst (W1.map V.str))
  refine ⟨I, ?_, ?_⟩
  · refine ⟨.str z, rfl, _, ⟨small_line (by omega), rfl⟩, ite2 (fun e => ?_) (fun e => ?_)⟩
    · have n0 : z.length ≠ 0 := fun h0 => by
        rw [h0] at e
        exact absurd e (by decide)
      have es : W1 = Txt.split z m := by
        show splS z m = _
        unfold splS
        rw [if_neg n0]
      refine ⟨.str z, rfl, ⟨_, rfl⟩, .str m, rfl, z, m, rfl, rfl, hm, small_line (by omega), fun p hp => ?_⟩
      exact ⟨p, rfl, same_new hp _, by rw [es]; exact upd_same⟩
    · have n0 : z.length = 0 := by
        have e' : (((z.length : Nat) : Int) != 0) = false := by simpa using e
        simpa using e'
      have es : W1 = [] := by
        show splS z m = _
        unfold splS
        rw [if_pos n0]
      refine ⟨by show 0 ≤ sizeLine; decide, fun p hp => ?_⟩
      exact ⟨p, rfl, same_new hp _, by rw [es]; exact upd_same⟩
  rintro σ H1 ⟨p, rfl, s1, hp⟩
  refine ⟨.ref p, rfl, p, rfl, ⟨_, SqL.of hp⟩, fun D hD => ?_⟩
  have plf : ∀ l : List Str, (plS l).length ≤ l.length := fun l => List.length_filter_le _ l
  have ngf : ∀ l : List Str, (ngS l).length ≤ l.length := fun l => by
    unfold ngS
    rw [List.length_map]
    exact List.length_filter_le _ l
  refine lc_list (xs := W1.map V.str) (fun i H2 => Same H1 H2 ∧ H2 D = some (.lst ((plS (W1.take i)).map V.str))) ⟨same_new hD _, upd_same⟩ (fun i H2 _ h => SqL.of (h.1 _ _ hp)) (fun i x H2 hx h => ?_) (fun H2 h => ?_)
  · obtain ⟨sm, hd⟩ := h
    obtain ⟨u, hu, rfl⟩ := map_at hx
    have il : i < W1.length := (List.getElem?_eq_some_iff.mp hu).1
    have et : plS (W1.take (i + 1)) = plS (W1.take i) ++ (if (!Txt.startswith u notSp) = true then [u] else []) := filt_take hu
    refine ⟨rfl, .str u, rfl, ⟨_, rfl⟩, u, notSp, rfl, rfl, Txt.startswith u notSp, rfl, ?_⟩
    show if (!Txt.startswith u notSp) = true then _ else _
    have lz := plf (W1.take i)
    rw [List.length_take] at lz
    cases c : Txt.startswith u notSp with
    | false =>
      rw [c] at et
      refine iteT ⟨.str u, rfl, _, hd, small_line' (by rw [List.length_map]; omega), same_put sm hD, ?_⟩
      rw [upd_same, et, List.map_append]
      rfl
    | true =>
      rw [c] at et
      refine iteF ⟨sm, ?_⟩
      rw [hd, et]
      simp
  obtain ⟨s2, hd⟩ := h
  rw [List.length_map, List.take_length] at hd
  have hp2 := s2 _ _ hp
  refine ⟨.ref p, rfl, p, rfl, ⟨_, SqL.of hp2⟩, fun D2 hD2 => ?_⟩
  refine lc_list (xs := W1.map V.str) (fun i H3 => Same H2 H3 ∧ H3 D2 = some (.lst ((ngS (W1.take i)).map V.str))) ⟨same_new hD2 _, upd_same⟩ (fun i H3 _ h => SqL.of (h.1 _ _ hp2)) (fun i x H3 hx h => ?_) (fun H3 h => ?_)
  · obtain ⟨sm, hd3⟩ := h
    obtain ⟨u, hu, rfl⟩ := map_at hx
    have il : i < W1.length := (List.getElem?_eq_some_iff.mp hu).1
    have et : (W1.take (i + 1)).filter (fun w => Txt.startswith w notSp) = (W1.take i).filter (fun w => Txt.startswith w notSp) ++ (if Txt.startswith u notSp = true then [u] else []) := filt_take hu
    refine ⟨rfl, .str u, rfl, ⟨_, rfl⟩, u, notSp, rfl, rfl, Txt.startswith u notSp, rfl, ?_⟩
    have lz := ngf (W1.take i)
    rw [List.length_take] at lz
    cases c : Txt.startswith u notSp with
    | true =>
      rw [c] at et
      refine iteT ⟨.str u, rfl, ⟨_, rfl⟩, u, notSp, rfl, rfl, small_line ?_, _, hd3, small_line' (by rw [List.length_map]; omega), same_put sm hD2, ?_⟩
      · have := splS_len (List.mem_of_getElem? hu)
        omega
      · rw [upd_same]
        unfold ngS
        rw [et, if_pos rfl, List.map_append, List.map_append]
        rfl
    | false =>
      rw [c] at et
      refine iteF ⟨sm, ?_⟩
      rw [hd3]
      unfold ngS
      rw [et]
      simp
  obtain ⟨s3, hd3⟩ := h
  rw [List.length_map, List.take_length] at hd3
  refine ⟨.ref D, rfl, D, _, rfl, .inl ⟨SqL.of (s3 _ _ hd), fun t1 ht1 => ?_⟩⟩
  have s4 := same_new ht1 (.tup ((plS W1).map V.str))
  refine ⟨.ref D2, rfl, D2, _, rfl, .inl ⟨SqL.of (s4 _ _ hd3), fun t2 ht2 => ?_⟩⟩
  have s5 := same_new ht2 (.tup ((ngS W1).map V.str))
  refine ⟨by show 2 ≤ sizeLine; decide, fun t ht => ?_⟩
  have s6 := same_new ht (.tup [.ref t1, .ref t2])
  exact q _ t t1 t2 (s1.trans (s2.trans (s3.trans (s4.trans (s5.trans s6))))) (SqT.of upd_same) (same_tup (s5.trans s6) (SqT.of upd_same)) (same_tup s6 (SqT.of upd_same))
end
end Rw
namespace Rw
open PySem PySem.Spec PyProof.Rows L2
/-! ### a line read -/
abbrev nReadRule : List Str := ["line", "front", "back", "heads", "denied", "needs", "bars", "row"]
theorem scReadRule : FnScope nReadRule ["line"] (defScope sReadRule) := ⟨rfl, rfl, rfl, by decide +kernel, rfl, by decide +kernel, by decide +kernel⟩
/-- no part of a line has too many words -/
def FewZ (z : Str) : Prop := (rdS z).1.length ≤ 60 ∧ (rdS z).2.1.length ≤ 60 ∧ (rdS z).2.2.1.length ≤ 60 ∧ (rdS z).2.2.2.length ≤ 60
theorem half_size (z : Str) (h : z.length ≤ 9000) : (halvesS z).1.length ≤ 9000 ∧ (halvesS z).2.length ≤ 9000 := by
  have cut : ∀ (u : Str) (lo hi : Option Int), (cutS u lo hi).length ≤ u.length := fun u lo hi => by
    rw [len_list, len_list u]
    show (List.take _ (List.drop _ u.cps.toList)).length ≤ _
    rw [List.length_take, List.length_drop]
    omega
  have c1 := cut z none (some (-1))
  have c2 := cut (cutS z none (some (-1))) (some 3) none
  have sub : ∀ (u : Str) (i j : Nat), (Builtin.Str.strSub u i j).length ≤ u.length := fun u i j => by
    rw [len_list, strSub_list, List.length_take, List.length_drop, ← len_list]
    omega
  have part : ∀ u v : Str, (Txt.partition u v).1.length ≤ u.length ∧ (Txt.partition u v).2.2.length ≤ u.length := fun u v => by
    unfold Txt.partition
    split
    · exact ⟨sub _ _ _, sub _ _ _⟩
    · exact ⟨Nat.le_refl _, Nat.zero_le _⟩
  obtain ⟨p1, p2⟩ := part (cutS z none (some (-1))) sIf
  unfold halvesS
  split
  · exact ⟨Nat.zero_le _, by show (cutS _ _ _).length ≤ _; omega⟩
  · exact ⟨by show (Txt.partition _ _).1.length ≤ _; omega, by show (Txt.partition _ _).2.2.length ≤ _; omega⟩
theorem rem_len (u v : Str) : (Txt.removeprefix u v).length ≤ u.length := by
  unfold Txt.removeprefix
  have aff : ∀ o, (Txt.affix u o).length ≤ u.length := fun o => by
    unfold Txt.affix
    split
    · split
      · exact Nat.le_refl _
      · rw [len_list, strSub_list, List.length_take, List.length_drop, ← len_list]
        omega
    · exact Nat.le_refl _
  exact aff _
theorem parts_size {s m : Str} (h : s.length ≤ 9000) : (∀ u ∈ plS (splS s m), u.cps.size ≤ 10000) ∧ ∀ u ∈ ngS (splS s m), u.cps.size ≤ 10000 := by
  refine ⟨fun u hu => ?_, fun u hu => ?_⟩
  · have := splS_len (List.mem_filter.mp hu).1
    show u.length ≤ 10000
    omega
  · obtain ⟨x, hx, rfl⟩ := List.mem_map.mp hu
    have h1 := splS_len (List.mem_filter.mp hx).1
    have h2 := rem_len x notSp
    show (Txt.removeprefix x notSp).length ≤ 10000
    omega
theorem wlv_strs {K : PySem.W.Frag} {H : Hp} {a : Addr} {ns : List Str} (h : SqT K H a (ns.map V.str)) (few : ns.length ≤ 60) (sz : ∀ u ∈ ns, u.cps.size ≤ 10000) : WlV K H (.ref a) (worldD (wd ns)) :=
  .inl ⟨wd ns, to_wd h, ⟨fun d hd => by
    obtain ⟨u, hu, rfl⟩ := List.mem_map.mp hd
    exact sz u hu, by rw [List.length_map]; exact few⟩, rfl⟩
theorem isW_of {ns : List Str} (few : ns.length ≤ 60) (h : worldD (wd ns) = true) (sz : ∀ u ∈ ns, u.cps.size ≤ 10000) : IsW ns := by
  obtain ⟨ms, hm, e⟩ := worldD_of (d := wd ns) ⟨fun d hd => by
    obtain ⟨u, hu, rfl⟩ := List.mem_map.mp hd
    exact sz u hu, by rw [List.length_map]; exact few⟩ h
  rw [wd_inj e]
  exact hm
section
variable {P : Program} {w : World} {K : PySem.W.Frag} {mg : Str → Option Value} {base : Heap} {f : Addr} {fd : FuncData} {k : Nat}
def spReadRule (K : PySem.W.Frag) : Sp := fun vs H Q _ => ∃ z : Str, vs = [.str z] ∧ z.length ≤ 9000 ∧ FewZ z ∧ ((∃ r, IsR r ∧ wtS r = z ∧ ∀ H' v, Same H H' → Dp K H' v (rd r) → Q v H') ∨ ((∀ r, IsR r → wtS r ≠ z) ∧ ∀ H', Same H H' → Q .non H'))
theorem ok_readRule {f1 f2 f3 f4 : Addr} {fd1 fd2 fd3 fd4 : FuncData} (F : Fun K "_read_rule" "_read_rule" sReadRule f fd)
    (G1 : FnOk P w K mg base CX0 k f1 fd1 ["line"] (spHalves K)) (b1 : Binds K fd1 ["line"] []) (k1 : PySem.W.keepIn K (.ref f1) = true) (m1 : mg "_halves" = some (.ref f1))
    (G2 : FnOk P w K mg base CX0 k f2 fd2 ["half", "mark"] (spWithout K)) (b2 : Binds K fd2 ["half", "mark"] []) (k2 : PySem.W.keepIn K (.ref f2) = true) (m2 : mg "_without_not" = some (.ref f2))
    (G3 : FnOk P w K mg base CX0 k f3 fd3 ["thing"] (spIsRuleX K)) (b3 : Binds K fd3 ["thing"] []) (k3 : PySem.W.keepIn K (.ref f3) = true) (m3 : mg "is_rule" = some (.ref f3))
    (G4 : FnOk P w K mg base CX0 k f4 fd4 ["row"] (spWritten1 K)) (b4 : Binds K fd4 ["row"] []) (k4 : PySem.W.keepIn K (.ref f4) = true) (m4 : mg "_written_rule" = some (.ref f4)) :
    FnOk P w K mg base CX0 (k + 1) f fd ["line"] (spReadRule K) := by
  refine F.ok scReadRule (fun vs H Q E h => ?_) (fun cdv A outer s H vs Q E hr h => ?_)
  · obtain ⟨z, rfl, _⟩ := h
    rfl
  obtain ⟨z, rfl, hz, ⟨w1, w2, w3, w4⟩, h⟩ := h
  refine ⟨_, pss_cons (ps_asg (pe_call G1 hr (by rfl) m1 k1 b1 .nil pass0 (pa_cons (pv 0) pa_nil)) (pg_tup (by rfl) (pgs_cons (pg_name (i := 1) scReadRule.nd rfl (.inl rfl)) (pgs_cons (pg_name (i := 2) scReadRule.nd rfl (.inl rfl)) pgs_nil))))
    (pss_cons (ps_asg (pe_call G2 hr (by rfl) m2 k2 b2 .nil pass0 (pa_cons (pv 1) (pa_cons pe_str pa_nil))) (pg_tup (by rfl) (pgs_cons (pg_name (i := 3) scReadRule.nd rfl (.inl rfl)) (pgs_cons (pg_name (i := 4) scReadRule.nd rfl (.inl rfl)) pgs_nil))))
    (pss_cons (ps_asg (pe_call G2 hr (by rfl) m2 k2 b2 .nil pass0 (pa_cons (pv 2) (pa_cons pe_str pa_nil))) (pg_tup (by rfl) (pgs_cons (pg_name (i := 5) scReadRule.nd rfl (.inl rfl)) (pgs_cons (pg_name (i := 6) scReadRule.nd rfl (.inl rfl)) pgs_nil))))
    (pss_cons (ps_set (i := 7) scReadRule.nd rfl (.inl rfl) (pe_tup (pa_cons (pv 3) (pa_cons (pv 4) (pa_cons (pv 5) (pa_cons (pv 6) pa_nil))))))
    (pss_cons (ps_if (PW.pt (pw_and (pt_val (pe_call G3 hr (by rfl) m3 k3 b3 .nil pass0 (pa_cons (pv 7) pa_nil))) (pw_and1 (pt_cmpR op_eq (pe_call G4 hr (by rfl) m4 k4 b4 .nil pass0 (pa_cons (pv 7) pa_nil)) (pv 0) (nomark _))))) (pss_one (ps_ret (pv 7))) pss_nil)
    (pss_one (ps_ret pe_non)))))), ?_⟩
  obtain ⟨z1, z2⟩ := half_size z hz
  have sz1 := parts_size (m := sOr) z1
  have sz2 := parts_size (m := sCo) z2
  refine ⟨.str z, rfl, z, rfl, hz, fun H1 p1 s1 hp1 => ?_⟩
  refine ⟨p1, _, rfl, hp1, rfl, _, _, rfl, _, [], rfl, rfl, ?_⟩
  refine ⟨.str (halvesS z).1, rfl, (halvesS z).1, sOr, rfl, z1, by decide +kernel, fun H2 p2 a1 a2 s2 hp2 ha1 ha2 => ?_⟩
  refine ⟨p2, _, rfl, hp2, rfl, _, _, rfl, _, [], rfl, rfl, ?_⟩
  refine ⟨.str (halvesS z).2, rfl, (halvesS z).2, sCo, rfl, z2, by decide +kernel, fun H3 p3 a3 a4 s3 hp3 ha3 ha4 => ?_⟩
  refine ⟨p3, _, rfl, hp3, rfl, _, _, rfl, _, [], rfl, rfl, ?_⟩
  refine ⟨.ref a1, rfl, .ref a2, rfl, .ref a3, rfl, .ref a4, rfl, by show 4 ≤ sizeLine; decide, fun t ht => ?_⟩
  have s4 := same_new ht (.tup [.ref a1, .ref a2, .ref a3, .ref a4])
  have s34 := s3.trans s4
  have hT : SqT K (upd H3 t (.tup [.ref a1, .ref a2, .ref a3, .ref a4])) t [.ref a1, .ref a2, .ref a3, .ref a4] := SqT.of upd_same
  have g1 := same_tup s34 ha1
  have g2 := same_tup s34 ha2
  have g3 := same_tup s4 ha3
  have g4 := same_tup s4 ha4
  have s14 := s1.trans (s2.trans s34)
  generalize upd H3 t (.tup [.ref a1, .ref a2, .ref a3, .ref a4]) = H4 at s14 hT g1 g2 g3 g4 ⊢
  let bs : List Bool := [worldD (wd (rdS z).1), worldD (wd (rdS z).2.1), worldD (wd (rdS z).2.2.1), worldD (wd (rdS z).2.2.2)]
  have hRu : RuV K H4 (.ref t) (decide (bs.length = 4) && bs.all id) := .inl ⟨t, _, bs, rfl, hT, ⟨wlv_strs g1 w1 sz1.1, wlv_strs g2 w2 sz1.2, wlv_strs g3 w3 sz2.1, wlv_strs g4 w4 sz2.2, True.intro⟩, by show 4 ≤ 100; decide, rfl⟩
  have isr : (decide (bs.length = 4) && bs.all id) = true → IsR (rdS z) := fun e => by
    have e' : bs.all id = true := by
      rw [Bool.and_eq_true] at e
      exact e.2
    have all := List.all_eq_true.mp e'
    exact ⟨isW_of w1 (all _ (.head _)) sz1.1, isW_of w2 (all _ (.tail _ (.head _))) sz1.2, isW_of w3 (all _ (.tail _ (.tail _ (.head _)))) sz2.1, isW_of w4 (all _ (.tail _ (.tail _ (.tail _ (.head _))))) sz2.2⟩
  have back : IsR (rdS z) → (decide (bs.length = 4) && bs.all id) = true := fun hI => by
    obtain ⟨i1, i2, i3, i4⟩ := hI
    show ((true) && (worldD _ && (worldD _ && (worldD _ && (worldD _ && true))))) = true
    rw [worldD_wd i1, worldD_wd i2, worldD_wd i3, worldD_wd i4]
    rfl
  have none_ : ∀ H', Same H H' → (IsR (rdS z) → wtS (rdS z) ≠ z) → Q .non H' := fun H' s hn => by
    rcases h with ⟨r, hI, e, _⟩ | ⟨_, q⟩
    · have er : rdS z = r := by rw [← e]; exact rdS_wt (nmr_of hI)
      rw [er] at hn
      exact absurd e (hn hI)
    · exact q H' s
  refine ⟨.ref t, rfl, .ref t, _, rfl, hRu, fun H5 s5 => ?_⟩
  have s15 := s14.trans s5
  cases c : (decide (bs.length = 4) && bs.all id) with
  | false =>
    refine ⟨false, rfl, iteF (iteF (none_ H5 s15 fun hI => ?_))⟩
    rw [back hI] at c
    cases c
  | true =>
    have hI := isr c
    refine ⟨true, rfl, iteT ?_⟩
    have hd : Dp K H5 (.ref t) (rd (rdS z)) := .tup (same_tup s5 hT) (.cons (to_wd (same_tup s5 g1)) (.cons (to_wd (same_tup s5 g2)) (.cons (to_wd (same_tup s5 g3)) (.cons (to_wd (same_tup s5 g4)) .nil))))
    refine ⟨.ref t, rfl, .ref t, rdS z, rfl, hd, hI, fun H6 s6 => ?_⟩
    have dv : decide (V.str (wtS (rdS z)) = V.str z) = decide (wtS (rdS z) = z) := by
      by_cases e : wtS (rdS z) = z
      · rw [e, decide_eq_true rfl, decide_eq_true rfl]
      · rw [decide_eq_false e]
        exact decide_eq_false fun q => e (by injection q)
    refine ⟨.str z, rfl, rfl, decide (wtS (rdS z) = z), congrArg V.bl dv, ?_⟩
    by_cases e : wtS (rdS z) = z
    · rw [decide_eq_true e]
      refine iteT ⟨.ref t, rfl, ?_⟩
      rcases h with ⟨r, hI', e', q⟩ | ⟨q, _⟩
      · have er : rdS z = r := by rw [← e']; exact rdS_wt (nmr_of hI')
        rw [er] at hd
        exact q H6 _ (s15.trans s6) (dp_same s6 _ _ hd)
      · exact absurd e (q _ hI)
    · rw [decide_eq_false e]
      exact iteF (none_ H6 (s15.trans s6) fun _ => e)
end
end Rw
namespace Rw
open PySem PySem.Spec PyProof.Rows L2
/-! ### a program written; an unreadable line -/
theorem scWritten : FnScope ["self", "row"] ["self"] (defScope sWritten) := ⟨rfl, rfl, rfl, by decide +kernel, rfl, by decide +kernel, by decide +kernel⟩
theorem scEUnread : FnScope ["self", "line"] ["self", "line"] (defScope sEUnread) := ⟨rfl, rfl, rfl, by decide +kernel, rfl, by decide +kernel, by decide +kernel⟩
def sNl : Str := "\n"
def wtAll (S : List Rl) : Str := Txt.join sNl (S.map wtS)
theorem wtS_len {r : Rl} (h : IsR r) : (wtS r).length ≤ 3610 := by
  obtain ⟨i1, i2, i3, i4⟩ := h
  have f1 := i1.few
  have f2 := i2.few
  have f3 := i3.few
  have f4 := i4.few
  have l3 : sOr.length = 3 := by decide +kernel
  have l2 : sCo.length = 2 := by decide +kernel
  have lf : (frL r).length ≤ 15 * (r.1.length + r.2.1.length) := by
    rw [← frS_list, ← len_list]
    exact half_len (by rw [l3]; decide) i1 i2
  have lb : (bkL r).length ≤ 15 * (r.2.2.1.length + r.2.2.2.length) := by
    rw [← bkS_list, ← len_list]
    exact half_len (by rw [l2]; decide) i3 i4
  rw [len_list]
  show (wtL r).length ≤ 3610
  unfold wtL
  split
  · split
    · show 3 ≤ 3610
      decide
    · rw [List.length_append]
      show _ + 1 ≤ _
      omega
  · split
    · simp only [List.length_append, List.length_cons, List.length_nil]
      omega
    · simp only [List.length_append, List.length_cons, List.length_nil]
      omega
theorem wtAll_sum {S : List Rl} (h : ∀ r ∈ S, IsR r) : ((S.map wtS).map fun z => z.length).sum ≤ 3610 * S.length := by
  induction S with
  | nil => exact Nat.zero_le _
  | cons r S ih =>
    have h1 := wtS_len (h r (List.mem_cons_self ..))
    have h2 := ih fun x hx => h x (List.mem_cons_of_mem _ hx)
    rw [List.map_cons, List.map_cons, List.sum_cons, List.length_cons]
    omega
section
variable {P : Program} {w : World} {K : PySem.W.Frag} {mg : Str → Option Value} {base : Heap} {f : Addr} {fd : FuncData} {k : Nat}
theorem ok_eUnread {C : Addr} (F : FunD K "__init__" "Unreadable.__init__" (defArgs sEUnread) (defBody sEUnread) (defScope sEUnread) [.non] [] f fd) (O : OexC K C) (no : PySem.W.findIn K (.ref C) "line" = some none) : FnOk P w K mg base CX0 (k + 1) f fd ["self", "line"] (spErr C "line") := by
  refine F.ok scEUnread (fun vs H Q E h => ?_) (fun cdv A outer s H vs Q E hr h => ?_)
  · obtain ⟨a, v, rfl, _⟩ := h
    rfl
  obtain ⟨a, v, rfl, ha, q⟩ := h
  exact ⟨_, PSs.nox (pss_one (ps_ost (pv 0) (pv 1))), v, rfl, .ref a, rfl, a, C, rfl, O, no, .inl ⟨ha, fun dx h1 h2 => q dx h1 h2⟩⟩
def spWritten (K : PySem.W.Frag) (C : Addr) : Sp := fun vs H Q _ => ∃ (v : V) (S : List Rl), vs = [v] ∧ PgAt K C H v S ∧ (∀ r ∈ S, IsR r) ∧ S.length < 76 ∧ ∀ H', Same H H' → Q (.str (wtAll S)) H'
theorem ok_written {C f1 : Addr} {fd1 : FuncData} (F : Fun K "written" "Program.written" sWritten f fd) (c : Cls K C) (n : NoAttr K C "_rules") (G1 : FnOk P w K mg base CX0 k f1 fd1 ["row"] (spWritten1 K)) (b1 : Binds K fd1 ["row"] []) (k1 : PySem.W.keepIn K (.ref f1) = true) (m1 : mg "_written_rule" = some (.ref f1)) :
    FnOk P w K mg base CX0 (k + 1) f fd ["self"] (spWritten K C) := by
  refine F.ok scWritten (fun vs H Q E h => ?_) (fun cdv A outer s H vs Q E hr h => ?_)
  · obtain ⟨v, S, rfl, _⟩ := h
    rfl
  obtain ⟨v, S, rfl, ⟨a, dx, t, ys, rfl, h1, h2, h3⟩, hI, few, q⟩ := h
  refine ⟨_, pss_one (ps_ret (pe_join pe_str (pe_lc (own := [("row", 1)]) (g := gName 1) (by rfl) scWritten.nd (pi_tup (pe_fld (pv 0) rfl)) (blkOk_by (N := ["self", "row"]) (sc := defScope sWritten) (by decide +kernel)) (fun _ _ _ _ _ => pg_name (i := 1) scWritten.nd rfl (Or.inl rfl)) (fun _ _ _ _ _ => pts_nil) (fun _ _ _ _ _ => pe_call G1 hr (by rfl) m1 k1 b1 .nil pass0 (pa_cons (pv 1) pa_nil))))), ?_⟩
  have yl : ys.length = S.length := by rw [dpAll_len h3, List.length_map]
  refine ⟨⟨_, rfl⟩, .ref a, rfl, a, C, dx, _, .ref t, rfl, h1, c, n, rfl, t, rfl, ⟨_, h2⟩, fun D hD => ?_⟩
  refine lc_tup (xs := ys) (fun i H1 => Same H H1 ∧ H1 D = some (.lst (((S.take i).map wtS).map V.str))) ⟨same_new hD _, upd_same⟩ (fun i H1 _ h => same_tup h.1 h2) (fun i x H1 hx h => ?_) (fun H1 h => ?_)
  · obtain ⟨sm, hd⟩ := h
    obtain ⟨dd, hdd, hxd⟩ := dpAll_at' h3 hx
    obtain ⟨r, hr0, rfl⟩ := map_at hdd
    have il : i < S.length := (List.getElem?_eq_some_iff.mp hr0).1
    refine ⟨rfl, x, rfl, x, r, rfl, dp_same sm _ _ hxd, hI r (List.mem_of_getElem? hr0), fun H2 s2 => ?_⟩
    refine ⟨_, s2 _ _ hd, small_line' (by rw [List.length_map, List.length_map, List.length_take]; omega), same_put (sm.trans s2) hD, ?_⟩
    rw [upd_same, take_snoc hr0, List.map_append, List.map_append]
    rfl
  obtain ⟨sm, hd⟩ := h
  rw [yl, List.take_length] at hd
  have sum := wtAll_sum hI
  have l1 : sNl.length = 1 := by decide +kernel
  exact ⟨sNl, D, S.map wtS, rfl, rfl, .inl (SqL.of hd), by rw [List.length_map, l1]; omega, q _ sm⟩
end
end Rw
namespace Rw
open PySem PySem.Spec PyProof.Rows L2
/-! ### a text times a whole number -/
def rMulS : R2 := fun x y H Q => ∃ (i : Str) (n : Int), x = .str i ∧ y = .int n ∧ MulOk i n ∧ Q (.str (Txt.mul i n)) H
theorem op_mulS {X : Cx} : OpR X (binaryOp .Mult) rMulS := by
  intro pins s σ H x y v u Q I rx ry h
  obtain ⟨i, n, rfl, rfl, ok, q⟩ := h
  obtain ⟨t, rfl⟩ := rx
  obtain ⟨t2, rfl⟩ := ry
  refine SB.mul ok fun t' k => ⟨.str (Txt.mul i n), H, I.kept (t' := k) (fun b o e => e), ⟨t', rfl⟩, q⟩
end Rw
namespace Rw
open PySem PySem.Spec PyProof.Rows L2
/-! ### the law's own way of writing a rule -/
abbrev nLawWritten : List Str := ["row", "heads", "denied", "needs", "bars", "front", "back", "x"]
theorem scLawWritten : FnScope nLawWritten ["row"] (defScope sLawWritten) := ⟨rfl, rfl, rfl, by decide +kernel, rfl, by decide +kernel, by decide +kernel⟩
theorem mul0 : Txt.mul " " 0 = Str.empty := by decide +kernel
theorem mul1 : Txt.mul " " 1 = (" " : Str) := by decide +kernel
section
variable {P : Program} {w : World} {K : PySem.W.Frag} {mg : Str → Option Value} {base : Heap} {f : Addr} {fd : FuncData} {k : Nat}
theorem ok_lawWritten (F : Fun K "_law_written" "_law_written" sLawWritten f fd) (T : Bl mg) : FnOk P w K mg base CX0 (k + 1) f fd ["row"] (spWritten1 K) := by
  refine F.ok scLawWritten (fun vs H Q E h => ?_) (fun cdv A outer s H vs Q E hr h => ?_)
  · obtain ⟨x, r, rfl, _⟩ := h
    rfl
  obtain ⟨x, r, rfl, hx, hI, q⟩ := h
  refine ⟨_, (pss_cons (ps_asg (pv 0) (pg_tup (by rfl) (pgs_cons (pg_name (i := 1) scLawWritten.nd rfl (.inl rfl)) (pgs_cons (pg_name (i := 2) scLawWritten.nd rfl (.inl rfl)) (pgs_cons (pg_name (i := 3) scLawWritten.nd rfl (.inl rfl)) (pgs_cons (pg_name (i := 4) scLawWritten.nd rfl (.inl rfl)) pgs_nil)))))) (pss_cons (ps_set (i := 5) scLawWritten.nd rfl (.inl rfl) (pe_join pe_str (pe_op op_cat (pe_callTy (T := "list") (r := rListOf K) call_list_of (by rfl) T.list (by decide +kernel) (pa_cons (pv 1) pa_nil)) (pe_lc (own := [("x", 7)]) (g := gName 7)  (by rfl) scLawWritten.nd (pi_tup (pv 2)) (blkOk_by (N := nLawWritten) (sc := defScope sLawWritten) (by decide +kernel)) (fun _ _ _ _ _ => (pg_name (i := 7) scLawWritten.nd rfl (Or.inl rfl))) (fun _ _ _ _ _ => pts_nil) (fun _ _ _ _ _ => (pe_op op_add_str pe_str (pv 7))))))) (pss_cons (ps_set (i := 6) scLawWritten.nd rfl (.inl rfl) (pe_join pe_str (pe_op op_cat (pe_callTy (T := "list") (r := rListOf K) call_list_of (by rfl) T.list (by decide +kernel) (pa_cons (pv 3) pa_nil)) (pe_lc (own := [("x", 7)]) (g := gName 7)  (by rfl) scLawWritten.nd (pi_tup (pv 4)) (blkOk_by (N := nLawWritten) (sc := defScope sLawWritten) (by decide +kernel)) (fun _ _ _ _ _ => (pg_name (i := 7) scLawWritten.nd rfl (Or.inl rfl))) (fun _ _ _ _ _ => pts_nil) (fun _ _ _ _ _ => (pe_op op_add_str pe_str (pv 7))))))) (pss_cons (ps_if (pt_cmpR  op_eq (pv 6) pe_str (nomark _)) (pss_one (ps_ret (pe_op op_add_str (pe_ix ix_list (pe_lst (pa_cons (pv 5) (pa_cons pe_str pa_nil))) (pe_callTy call_int1 (by rfl) T.int (by decide +kernel) (pa_cons (pe_cmpR  op_eq (pv 5) pe_str (nomark _)) pa_nil)) (fun _ _ => rfl)) pe_str))) pss_nil) (pss_one (ps_ret (pe_op op_add_str (pe_op op_add_str (pe_op op_add_str (pe_op op_add_str (pv 5) (pe_op op_mulS pe_str (pe_callTy call_int1 (by rfl) T.int (by decide +kernel) (pa_cons (pe_cmpR  op_ne (pv 5) pe_str (nomark _)) pa_nil)))) pe_str) (pv 6)) pe_str))))))), ?_⟩
  obtain ⟨i1, i2, i3, i4⟩ := id hI
  obtain ⟨a, v1, v2, v3, v4, rfl, hT, g1, g2, g3, g4⟩ := of_rd hx
  have f1' := i1.few
  have f2' := i2.few
  have f3' := i3.few
  have f4' := i4.few
  have l3 : sOr.length = 3 := by decide +kernel
  have l2 : sCo.length = 2 := by decide +kernel
  have lf : (frS r).length ≤ 15 * (r.1.length + r.2.1.length) := half_len (by rw [l3]; decide) i1 i2
  have lb : (bkS r).length ≤ 15 * (r.2.2.1.length + r.2.2.2.length) := half_len (by rw [l2]; decide) i3 i4
  have sum1 := wnS_sum i1 i2
  have sum2 := wnS_sum i3 i4
  have e1 : (wnS r.1 r.2.1).length = r.1.length + r.2.1.length := by unfold wnS; rw [List.length_append, List.length_map]
  have e2 : (wnS r.2.2.1 r.2.2.2).length = r.2.2.1.length + r.2.2.2.length := by unfold wnS; rw [List.length_append, List.length_map]
  have few : ∀ n : Nat, n ≤ 10000 → n ≤ sizeLine := fun n h => small_line h
  refine ⟨.ref a, rfl, a, _, rfl, hT, rfl, _, _, rfl, _, _, rfl, _, _, rfl, _, [], rfl, rfl, ?_⟩
  -- half 1
  obtain ⟨ax1, rfl, hX1⟩ := of_wd (g1)
  obtain ⟨ay1, rfl, hY1⟩ := of_wd (g2)
  refine ⟨⟨_, rfl⟩, .ref ax1, rfl, ax1, _, rfl, .inr hX1, fun lp1 hlp1 => ?_⟩
  have sa1 := same_new hlp1 (.lst ((r.1).map V.str))
  refine ⟨.ref ay1, rfl, ay1, rfl, ⟨_, same_tup sa1 hY1⟩, fun D1 hD1 => ?_⟩
  refine lc_tup (xs := (r.2.1).map V.str) (fun i H1 => Same (upd H lp1 (.lst ((r.1).map V.str))) H1 ∧ H1 D1 = some (.lst (((((r.2.1)).take i).map fun z => notSp ++ z).map V.str))) ⟨same_new hD1 _, upd_same⟩ (fun i H1 _ h => same_tup (sa1.trans h.1) hY1) (fun i x H1 hx h => ?_) (fun H1 h => ?_)
  · obtain ⟨sm, hd⟩ := h
    obtain ⟨z, hz, rfl⟩ := map_at hx
    have l8 := name_len (i2.names z (List.mem_of_getElem? hz))
    have l4 : notSp.length = 4 := by decide +kernel
    have il : i < (r.2.1).length := (List.getElem?_eq_some_iff.mp hz).1
    refine ⟨rfl, .str z, rfl, notSp, z, rfl, rfl, by rw [l4]; exact small_line (by omega), _, hd, small_line' ?_, same_put sm hD1, ?_⟩
    · rw [List.length_map, List.length_map, List.length_take]
      omega
    · rw [upd_same, take_snoc hz, List.map_append, List.map_append]
      rfl
  obtain ⟨sm1, hd1⟩ := h
  rw [List.length_map, List.take_length] at hd1
  refine ⟨lp1, D1, (r.1).map V.str, _, rfl, rfl, sm1 _ _ upd_same, hd1, small_line (by rw [List.length_map, List.length_map, List.length_map]; omega), fun p1 hp1 => ?_⟩
  have sb1 := same_new hp1 (.lst ((r.1).map V.str ++ ((r.2.1).map fun z => notSp ++ z).map V.str))
  have S1 := sa1.trans (sm1.trans sb1)
  refine ⟨sOr, p1, wnS (r.1) (r.2.1), rfl, rfl, .inl (SqL.of (by rw [upd_same]; unfold wnS; rw [List.map_append])), by rw [e1, l3]; omega, ?_⟩
  generalize upd H1 p1 (.lst ((r.1).map V.str ++ ((r.2.1).map fun z => notSp ++ z).map V.str)) = HH1 at sb1 S1 ⊢
  -- half 2
  obtain ⟨ax2, rfl, hX2⟩ := of_wd (dp_same S1 _ _ g3)
  obtain ⟨ay2, rfl, hY2⟩ := of_wd (dp_same S1 _ _ g4)
  refine ⟨⟨_, rfl⟩, .ref ax2, rfl, ax2, _, rfl, .inr hX2, fun lp2 hlp2 => ?_⟩
  have sa2 := same_new hlp2 (.lst ((r.2.2.1).map V.str))
  refine ⟨.ref ay2, rfl, ay2, rfl, ⟨_, same_tup sa2 hY2⟩, fun D2 hD2 => ?_⟩
  refine lc_tup (xs := (r.2.2.2).map V.str) (fun i H1 => Same (upd HH1 lp2 (.lst ((r.2.2.1).map V.str))) H1 ∧ H1 D2 = some (.lst (((((r.2.2.2)).take i).map fun z => notSp ++ z).map V.str))) ⟨same_new hD2 _, upd_same⟩ (fun i H1 _ h => same_tup (sa2.trans h.1) hY2) (fun i x H1 hx h => ?_) (fun H2 h => ?_)
  · obtain ⟨sm, hd⟩ := h
    obtain ⟨z, hz, rfl⟩ := map_at hx
    have l8 := name_len (i4.names z (List.mem_of_getElem? hz))
    have l4 : notSp.length = 4 := by decide +kernel
    have il : i < (r.2.2.2).length := (List.getElem?_eq_some_iff.mp hz).1
    refine ⟨rfl, .str z, rfl, notSp, z, rfl, rfl, by rw [l4]; exact small_line (by omega), _, hd, small_line' ?_, same_put sm hD2, ?_⟩
    · rw [List.length_map, List.length_map, List.length_take]
      omega
    · rw [upd_same, take_snoc hz, List.map_append, List.map_append]
      rfl
  obtain ⟨sm2, hd2⟩ := h
  rw [List.length_map, List.take_length] at hd2
  refine ⟨lp2, D2, (r.2.2.1).map V.str, _, rfl, rfl, sm2 _ _ upd_same, hd2, small_line (by rw [List.length_map, List.length_map, List.length_map]; omega), fun p2 hp2 => ?_⟩
  have sb2 := same_new hp2 (.lst ((r.2.2.1).map V.str ++ ((r.2.2.2).map fun z => notSp ++ z).map V.str))
  have S2 := sa2.trans (sm2.trans sb2)
  refine ⟨sCo, p2, wnS (r.2.2.1) (r.2.2.2), rfl, rfl, .inl (SqL.of (by rw [upd_same]; unfold wnS; rw [List.map_append])), by rw [e2, l2]; omega, ?_⟩
  generalize upd H2 p2 (.lst ((r.2.2.1).map V.str ++ ((r.2.2.2).map fun z => notSp ++ z).map V.str)) = HH2 at sb2 S2 ⊢
  have wl : (wtS r).cps.toList = wtL r := rfl
  have st : ∀ {z : Str} {H' : Hp}, Same HH2 H' → z.cps.toList = wtL r → Q (.str z) H' := fun {z H'} s e => by
    rw [show z = wtS r from str_ext e]
    exact q H' (S1.trans (S2.trans s))
  have ll : ∀ a b : Str, (a ++ b).length = a.length + b.length := fun a b => by rw [len_list, app_cps, List.length_append, ← len_list, ← len_list]
  have dot : (("." : Str)).cps.toList = [46] := by decide +kernel
  have em : (Str.empty).cps.toList = [] := rfl
  have m5 : ((":- " : Str)).cps.toList = [58, 45, 32] := by decide +kernel
  have m1 : ((" " : Str)).cps.toList = [32] := by decide +kernel
  have m2 : ((":-" : Str)).cps.toList = [58, 45] := by decide +kernel
  have k1 : ((" " : Str)).length = 1 := by decide +kernel
  have k2 : ((":-" : Str)).length = 2 := by decide +kernel
  have k3 : ((":- " : Str)).length = 3 := by decide +kernel
  have kd : (("." : Str)).length = 1 := by decide +kernel
  have k0 : Str.empty.length = 0 := rfl
  have eb : decide (V.str (bkS r) = V.str "") = decide (bkL r = []) := by
    by_cases c : bkL r = []
    · have : bkS r = "" := str_ext (by rw [bkS_list, c]; decide +kernel)
      rw [this, decide_eq_true c]
      exact decide_eq_true rfl
    · rw [decide_eq_false c]
      refine decide_eq_false fun e => c ?_
      injection e with e
      rw [← bkS_list, e]
      decide +kernel
  have ef : decide (V.str (frS r) = V.str "") = decide (frL r = []) := by
    by_cases c : frL r = []
    · have : frS r = "" := str_ext (by rw [frS_list, c]; decide +kernel)
      rw [this, decide_eq_true c]
      exact decide_eq_true rfl
    · rw [decide_eq_false c]
      refine decide_eq_false fun e => c ?_
      injection e with e
      rw [← frS_list, e]
      decide +kernel
  refine ⟨.str (bkS r), rfl, rfl, decide (bkL r = []), congrArg V.bl eb, ?_⟩
  by_cases cb : bkL r = []
  · rw [decide_eq_true cb]
    refine iteT ?_
    refine ⟨.str (frS r), rfl, by show 2 ≤ sizeLine; decide, fun l hl => ?_⟩
    have sl := same_new hl (.lst [.str (frS r), .str ":-"])
    have hl' : SqL K (upd HH2 l (.lst [.str (frS r), .str ":-"])) l [.str (frS r), .str ":-"] := SqL.of upd_same
    refine ⟨.str (frS r), rfl, rfl, .inr ⟨decide (frL r = []), congrArg (fun b => [V.bl b]) ef, ?_⟩⟩
    by_cases cf : frL r = []
    · rw [decide_eq_true cf]
      refine ⟨l, _, 1, .str ":-", rfl, rfl, hl', atI_nat (j := 1) rfl, ":-", ".", rfl, rfl, few _ (by omega), st sl ?_⟩
      unfold wtL
      rw [if_pos cb, if_pos cf]
      decide +kernel
    · rw [decide_eq_false cf]
      refine ⟨l, _, 0, .str (frS r), rfl, rfl, hl', atI_nat (j := 0) rfl, frS r, ".", rfl, rfl, few _ (by omega), st sl ?_⟩
      unfold wtL
      rw [if_pos cb, if_neg cf, app_cps, dot, frS_list]
  · rw [decide_eq_false cb]
    refine iteF ?_
    refine ⟨.str (frS r), rfl, .str (frS r), rfl, rfl, .inr ⟨!decide (frL r = []), congrArg (fun b => [V.bl (!b)]) ef, ?_⟩⟩
    have sm : Same HH2 HH2 := fun _ _ e => e
    by_cases cf : frL r = []
    · rw [decide_eq_true cf]
      refine ⟨" ", 0, rfl, rfl, ⟨by decide, fun h => absurd (by decide : (0 : Int) < 1) h, fun h => absurd (by decide : (0 : Int) < 1) h⟩, ?_⟩
      rw [mul0]
      refine ⟨frS r, Str.empty, rfl, rfl, few _ (by omega), ?_⟩
      refine ⟨frS r ++ Str.empty, ":- ", rfl, rfl, few _ (by rw [ll]; omega), .str (bkS r), rfl, ?_⟩
      refine ⟨_, bkS r, rfl, rfl, few _ (by rw [ll, ll]; omega), _, ".", rfl, rfl, few _ (by rw [ll, ll, ll]; omega), st sm ?_⟩
      unfold wtL
      rw [if_neg cb, if_pos cf, app_cps, app_cps, app_cps, app_cps, em, dot, m5, bkS_list, frS_list, cf]
      simp
    · rw [decide_eq_false cf]
      refine ⟨" ", 1, rfl, rfl, ⟨by decide, fun _ h => (nomatch h), fun _ h => (nomatch h)⟩, ?_⟩
      rw [mul1]
      refine ⟨frS r, " ", rfl, rfl, few _ (by omega), ?_⟩
      refine ⟨frS r ++ " ", ":- ", rfl, rfl, few _ (by rw [ll]; omega), .str (bkS r), rfl, ?_⟩
      refine ⟨_, bkS r, rfl, rfl, few _ (by rw [ll, ll]; omega), _, ".", rfl, rfl, few _ (by rw [ll, ll, ll]; omega), st sm ?_⟩
      unfold wtL
      rw [if_neg cb, if_neg cf, app_cps, app_cps, app_cps, app_cps, dot, m5, m1, bkS_list, frS_list]
      simp
end
end Rw
namespace Rw
open PySem PySem.Spec PyProof.Rows L2
/-! ### a list compared with [] -/
section
variable {X : Cx}
def rEqE (K : PySem.W.Frag) : R2 := fun x y H Q => ∃ p q xs, x = .ref p ∧ y = .ref q ∧ SqL K H p xs ∧ SqL K H q [] ∧ Q (.bl xs.isEmpty) H
def rNeE (K : PySem.W.Frag) : R2 := fun x y H Q => ∃ p q xs, x = .ref p ∧ y = .ref q ∧ SqL K H p xs ∧ SqL K H q [] ∧ Q (.bl (!xs.isEmpty)) H
theorem op_eqE (hu : X.A.units + 64 < cLine) : OpR X (compareOp .Eq) (rEqE X.K) := by
  intro pins s σ H x y v u Q I rx ry h
  obtain ⟨p, q, xs, rfl, rfl, hp, hq, k⟩ := h
  obtain rfl : v = Value.ref p := rx
  obtain rfl : u = Value.ref q := ry
  obtain ⟨its, rv, pl, _⟩ := I.list hp
  obtain ⟨its2, rv2, pl2, _⟩ := I.list hq
  cases rv2
  cases xs with
  | nil =>
    cases rv
    exact SeqAt.RcAt.lists (e := fun _ => true) pl.isList pl2.isList rfl (by omega) (fun j h1 _ => absurd h1 (Nat.not_lt_zero j)) X.prog X.w X.xe _ ⟨.bl true, H, I, rfl, k⟩
  | cons x xs =>
    cases rv with
    | cons _ _ => exact SeqAt.RcAt.lists_lengths pl.isList pl2.isList (by simp) (by omega) X.prog X.w X.xe _ ⟨.bl false, H, I, rfl, k⟩
theorem op_neE (hu : X.A.units + 64 < cLine) : OpR X (compareOp .NotEq) (rNeE X.K) := by
  intro pins s σ H x y v u Q I rx ry h
  obtain ⟨p, q, xs, rfl, rfl, hp, hq, k⟩ := h
  obtain rfl : v = Value.ref p := rx
  obtain rfl : u = Value.ref q := ry
  obtain ⟨its, rv, pl, _⟩ := I.list hp
  obtain ⟨its2, rv2, pl2, _⟩ := I.list hq
  cases rv2
  cases xs with
  | nil =>
    cases rv
    exact SeqAt.RcNeAt.lists (e := fun _ => true) pl.isList pl2.isList rfl (by omega) (fun j h1 _ => absurd h1 (Nat.not_lt_zero j)) X.prog X.w X.xe _ ⟨.bl false, H, I, rfl, k⟩
  | cons x xs =>
    cases rv with
    | cons _ _ => exact SeqAt.RcNeAt.lists_lengths pl.isList pl2.isList (by simp) (by omega) X.prog X.w X.xe _ ⟨.bl true, H, I, rfl, k⟩
end
end Rw
namespace Rw
open PySem PySem.Spec PyProof.Rows L2
/-! ### the law's own look at a set of names -/
abbrev nLawIsWorld : List Str := ["names", "k", "x", "sign"]
theorem scLawIsWorld : FnScope nLawIsWorld ["names"] (defScope sLawIsWorld) := ⟨rfl, rfl, rfl, by decide +kernel, rfl, by decide +kernel, by decide +kernel⟩
def rNS : R2 := fun x y H Q => ∃ (c : Nat) (z : Str), x = .str ⟨#[c]⟩ ∧ y = .str z ∧ Q (.bl (!decide (c ∈ z.cps.toList))) H
theorem op_nS {X : Cx} : OpR X (compareOp .NotIn) rNS := op_notIn_sign
def rGeS : R2 := fun x y H Q => ∃ i j, x = .str i ∧ y = .str j ∧ Q (.bl (!decide (i.cps.toList < j.cps.toList))) H
theorem op_geS {X : Cx} : OpR X (compareOp .GtE) rGeS := op_ge_str
theorem worldD_val (ns : W) : worldD (wd ns) = (ns.all nameB && decide (UpX ns)) := by
  show ((ns.map PyData.str).all nameD && decide (UpX ((ns.map PyData.str).map strOf))) = _
  have e1 : (ns.map PyData.str).all nameD = ns.all nameB := by
    rw [List.all_map]
    rfl
  have e2 : (ns.map PyData.str).map strOf = ns := by
    rw [List.map_map]
    exact List.map_id' ns
  rw [e1, e2]
theorem up_snoc {ns : W} {i : Nat} {z : Str} (h : ns[i]? = some z) (u : UpX (ns.take i)) (hz : ∀ j (hj : j + 1 = i) (y : Str), ns[j]? = some y → y.cps.toList < z.cps.toList) : UpX (ns.take (i + 1)) := by
  rw [take_snoc h]
  refine List.pairwise_append.mpr ⟨u, List.pairwise_singleton _ _, fun a ha b hb => ?_⟩
  rw [List.mem_singleton.mp hb]
  obtain ⟨j, hj, e⟩ := List.getElem_of_mem ha
  rw [List.length_take] at hj
  have il : i < ns.length := (List.getElem?_eq_some_iff.mp h).1
  have ea : ns[j]? = some a := by
    rw [← e, List.getElem_take, List.getElem?_eq_getElem]
  by_cases c : j + 1 = i
  · exact hz j c a ea
  · have l1 : i - 1 < (ns.take i).length := by rw [List.length_take]; omega
    have lt := List.pairwise_iff_getElem.mp u j (i - 1) (by rw [List.length_take]; omega) l1 (by omega)
    rw [e] at lt
    have el : ns[i - 1]? = some (ns.take i)[i - 1] := by
      rw [List.getElem_take, List.getElem?_eq_getElem]
    exact List.lt_trans lt (hz (i - 1) (by omega) _ el)
section
variable {P : Program} {w : World} {K : PySem.W.Frag} {mg : Str → Option Value} {base : Heap} {f : Addr} {fd : FuncData} {k : Nat}
def spLawIsWorld (K : PySem.W.Frag) : Sp := fun vs H Q _ => ∃ (a : Addr) (ns : List Str), vs = [.ref a] ∧ SqT K H a (ns.map V.str) ∧ (∀ u ∈ ns, u.cps.size ≤ 10000) ∧ ∀ H', Same H H' → Q (.bl (worldD (wd ns))) H'
theorem ok_lawIsWorld (F : Fun K "_law_is_world" "_law_is_world" sLawIsWorld f fd) (T : Bl mg) : FnOk P w K mg base CX0 (k + 1) f fd ["names"] (spLawIsWorld K) := by
  refine F.ok scLawIsWorld (fun vs H Q E h => ?_) (fun cdv A outer s H vs Q E hr h => ?_)
  · obtain ⟨a, ns, rfl, _⟩ := h
    rfl
  obtain ⟨a, ns, rfl, hS, hsz, q⟩ := h
  refine ⟨_, pss_cons (ps_for PassesOwn.never rfl (pi_enumT (by rfl) T.enum (pa_cons (pv 0) pa_nil)) (pg_tup (by rfl) (pgs_cons (pg_name (i := 1) scLawIsWorld.nd rfl (.inl rfl)) (pgs_cons (pg_name (i := 2) scLawIsWorld.nd rfl (.inl rfl)) pgs_nil)))
      (pss_cons (ps_if (PW.pt (pw_or (pt_not (pt_chain op_le op_le pe_int (pe_callB call_len_str (by rfl) T.len PySem.boot_len (pa_cons (pv 2) pa_nil)) pe_int))
        (pw_or (pt_cmpR op_eq (pv 2) pe_str (nomark _))
        (pw_or1 (pt_cmpR (r := rNeE K) (op_neE hr.units) (pe_lc (own := [("sign", 3)]) (g := gName 3) (tt := tTest (tOp rNS (tVar 3) (tC (.str lettersS)))) (te := tVar 3) (by rfl) scLawIsWorld.nd (pi_str (pv 2)) (blkOk_by (N := nLawIsWorld) (sc := defScope sLawIsWorld) (by decide +kernel)) (fun _ _ _ _ _ => pg_name (i := 3) scLawIsWorld.nd rfl (Or.inl rfl)) (fun _ _ _ _ _ => pts_one (pt_cmpR (r := rNS) op_nS (pv 3) pe_str (by rfl))) (fun _ _ _ _ _ => pv 3)) (pe_lst pa_nil) (nomark _)))))) (pss_one (ps_ret pe_bl)) pss_nil)
      (pss_one (ps_if (PW.pt (pw_and (pt_cmpR op_gt (pv 1) pe_int (nomark _)) (pw_and1 (pt_cmpR op_geS (pe_ix ix_tup (pv 0) (pe_op op_sub (pv 1) pe_int) (fun _ _ => rfl)) (pv 2) (nomark _))))) (pss_one (ps_ret pe_bl)) pss_nil))))
    (pss_one (ps_ret pe_bl)), ?_⟩
  refine ⟨.ref a, rfl, a, _, rfl, hS, for_enumT (xs := ns.map V.str) (fun i σ H1 => (∃ y1 y2, σ = [some (.ref a), y1, y2, none]) ∧ Same H H1 ∧ (ns.take i).all nameB = true ∧ UpX (ns.take i)) ⟨⟨_, _, rfl⟩, fun _ _ e => e, rfl, .nil⟩ (fun i σ H1 _ h => same_tup h.2.1 hS) (fun i x σ H1 T' hx h hT' => ?_) (fun σ H1 h => ?_)⟩
  · obtain ⟨⟨y1, y2, rfl⟩, sm, hall, hup⟩ := h
    obtain ⟨z, hz, rfl⟩ := map_at hx
    have few := hsz z (List.mem_of_getElem? hz)
    have il : i < ns.length := (List.getElem?_eq_some_iff.mp hz).1
    have s1 := same_new hT' (.tup [.int (i : Int), .str z])
    have s01 := sm.trans s1
    refine ⟨T', _, rfl, SqT.of upd_same, rfl, _, _, rfl, _, [], rfl, rfl, ?_⟩
    generalize upd H1 T' (.tup [.int (i : Int), .str z]) = H2 at s01 s1 ⊢
    have qf : ∀ H', Same H2 H' → worldD (wd ns) = false → Q (.bl false) H' := fun H' s e => by
      have := q H' (s01.trans s)
      rwa [e] at this
    have noName : nameB z = false → worldD (wd ns) = false := fun e => by
      rw [worldD_val]
      have : ns.all nameB = false := by
        rw [List.all_eq_false]
        exact ⟨z, List.mem_of_getElem? hz, by rw [e]; decide⟩
      rw [this]
      rfl
    refine ⟨.str z, rfl, z, rfl, small_line few, 1, z.length, rfl, rfl, decide ((1 : Int) ≤ (z.length : Int)), rfl, ite2 (fun e1 => ?_) (fun e1 => ?_)⟩
    · refine ⟨z.length, 8, rfl, rfl, decide ((z.length : Int) ≤ 8), rfl, ?_⟩
      have h1 : 1 ≤ z.cps.size := by
        have := of_decide_eq_true e1
        have : (1 : Int) ≤ (z.cps.size : Int) := this
        omega
      by_cases c8 : (z.length : Int) ≤ 8
      · rw [decide_eq_true c8]
        have h8 : z.cps.size ≤ 8 := by
          have : (z.cps.size : Int) ≤ 8 := c8
          omega
        refine iteF ⟨.str z, rfl, rfl, _, rfl, ite2 (fun e => ?_) (fun e => ?_)⟩
        · have ez : z = notS := V.str.inj (of_decide_eq_true e)
          exact iteT (qf _ (fun _ _ e => e) (noName (by rw [ez]; decide +kernel)))
        · have nz : z ≠ notS := fun h => e (decide_eq_true (by rw [h]; rfl))
          have val : nameB z = z.cps.toList.all letter := by
            unfold nameB
            rw [decide_eq_false nz, decide_eq_true h1, decide_eq_true h8]
            cases z.cps.toList.all letter <;> rfl
          refine ⟨.str z, rfl, z, rfl, fun D hD => ?_⟩
          refine lc_sgn (x := z) (fun i H1 => Same H2 H1 ∧ ∃ ys : List V, H1 D = some (.lst ys) ∧ ys.isEmpty = (z.cps.toList.take i).all letter ∧ ys.length ≤ i) ⟨same_new hD _, [], upd_same, rfl, Nat.le_refl _⟩ (fun i c H1 hc hI => ?_) (fun H3 hI => ?_)
          · obtain ⟨sm, ys, hd, he, hl⟩ := hI
            have hc' : z.cps.toList[i]? = some c := by rw [Array.getElem?_toList]; exact hc
            have il : i < z.cps.size := (Array.getElem?_eq_some_iff.mp hc).1
            have ta : (z.cps.toList.take (i + 1)).all letter = ((z.cps.toList.take i).all letter && letter c) := by
              rw [take_snoc hc', List.all_append]
              simp
            refine ⟨rfl, .str ⟨#[c]⟩, rfl, c, lettersS, rfl, rfl, _, rfl, ?_⟩
            rw [letter_in]
            cases lc : letter c with
            | true => exact iteF ⟨sm, ys, hd, by rw [ta, lc, he, Bool.and_true], by omega⟩
            | false =>
              refine iteT ⟨.str ⟨#[c]⟩, rfl, ys, hd, small_line (by omega), same_put sm hD, _, upd_same, ?_, by rw [List.length_append]; simp; omega⟩
              rw [ta, lc, Bool.and_false]
              simp
          · obtain ⟨sm3, ys, hd, he, hl⟩ := hI
            rw [show z.cps.size = z.cps.toList.length by rw [Array.length_toList], List.take_length] at he
            refine ⟨by show 0 ≤ sizeLine; decide, fun l hl2 => ?_⟩
            have s2 := same_new hl2 (.lst [])
            have s3 := sm3.trans s2
            refine ⟨D, l, ys, rfl, rfl, SqL.of (s2 _ _ hd), SqL.of upd_same, !nameB z, by rw [he, ← val], ?_⟩
            generalize upd H3 l (.lst []) = H4 at s2 s3 ⊢
            cases cn : nameB z with
            | false => exact iteT (qf _ s3 (noName cn))
            | true =>
              refine iteF ?_
              have nx : (∀ j (hj : j + 1 = i) (y : Str), ns[j]? = some y → y.cps.toList < z.cps.toList) → ((∃ y1 y2, ([some (.ref a), some (.int (i : Int)), some (.str z), none] : List (Option V)) = [some (.ref a), y1, y2, none]) ∧ Same H H4 ∧ (ns.take (i + 1)).all nameB = true ∧ UpX (ns.take (i + 1))) := fun hlt =>
                ⟨⟨_, _, rfl⟩, s01.trans s3, by rw [take_snoc hz, List.all_append, hall]; simp [cn], up_snoc hz hup hlt⟩
              refine ⟨.int (i : Int), rfl, _, _, rfl, rfl, _, rfl, ite2 (fun e => ?_) (fun e => ?_)⟩
              · have i0 : 0 < i := by
                  have := of_decide_eq_true e
                  omega
                have il1 : i - 1 < ns.length := by omega
                have hy : ns[i - 1]? = some ns[i - 1] := List.getElem?_eq_getElem il1
                have hy' : (ns.map V.str)[i - 1]? = some (.str ns[i - 1]) := by rw [List.getElem?_map, hy]; rfl
                have ei : (i : Int) - 1 = ((i - 1 : Nat) : Int) := by omega
                refine ⟨.ref a, rfl, .int (i : Int), rfl, _, _, rfl, rfl, ?_⟩
                refine ⟨a, _, ((i - 1 : Nat) : Int), .str ns[i - 1], rfl, congrArg V.int ei, same_tup (s01.trans s3) hS, atI_nat hy', .str z, rfl, ns[i - 1], z, rfl, rfl, !decide (ns[i - 1].cps.toList < z.cps.toList), rfl, ?_⟩
                by_cases lt : ns[i - 1].cps.toList < z.cps.toList
                · rw [decide_eq_true lt]
                  refine iteF (nx fun j hj y hyj => ?_)
                  have : j = i - 1 := by omega
                  subst this
                  rw [hy] at hyj
                  cases hyj
                  exact lt
                · rw [decide_eq_false lt]
                  refine iteT (qf _ s3 ?_)
                  rw [worldD_val, decide_eq_false (p := UpX ns) fun u => lt ?_, Bool.and_false]
                  have ez : ns[i] = z := by
                    have := List.getElem?_eq_getElem il
                    rw [hz] at this
                    cases this
                    rfl
                  have := List.pairwise_iff_getElem.mp u (i - 1) i il1 il (by omega)
                  rwa [ez] at this
              · refine iteF (nx fun j hj y hyj => ?_)
                exact absurd (decide_eq_true (by omega)) e
      · rw [decide_eq_false c8]
        refine iteT (iteT (qf _ (fun _ _ e => e) (noName ?_)))
        unfold nameB
        rw [decide_eq_false (p := z.cps.size ≤ 8) (fun h => c8 (by show (z.cps.size : Int) ≤ 8; omega))]
        simp
    · refine ⟨false, rfl, iteT (iteT (qf _ (fun _ _ e => e) (noName ?_)))⟩
      unfold nameB
      rw [decide_eq_false (p := 1 ≤ z.cps.size) (fun h => e1 (decide_eq_true (by show (1 : Int) ≤ (z.cps.size : Int); omega)))]
      simp
  · obtain ⟨⟨y1, y2, rfl⟩, sm, hall, hup⟩ := h
    rw [List.length_map, List.take_length] at hall hup
    have := q H1 sm
    rw [worldD_val, hall, decide_eq_true hup] at this
    exact this
end
end Rw
namespace Rw
open PySem PySem.Spec PyProof.Rows L2
/-! ### the law's own way of splitting -/
abbrev nLawSplit : List Str := ["words", "between", "plain", "denied", "word"]
theorem scLawSplit : FnScope nLawSplit ["words", "between"] (defScope sLawSplit) := ⟨rfl, rfl, rfl, by decide +kernel, rfl, by decide +kernel, by decide +kernel⟩
theorem four_starts (u : Str) : decide (V.str (cutS u none (some 4)) = V.str "not ") = Txt.startswith u notSp := by
  have e4 : (cutS u none (some 4)).cps.toList = u.cps.toList.take 4 := cut_to 4
  have l4 : notSp.length = 4 := by decide +kernel
  cases c : Txt.startswith u notSp with
  | true =>
    rw [starts_iff, l4] at c
    refine decide_eq_true (congrArg V.str (str_ext ?_))
    rw [e4, c]
    rfl
  | false =>
    refine decide_eq_false fun e => ?_
    injection e with e
    have : Txt.startswith u notSp = true := by
      rw [starts_iff, l4, ← e4, e]
      rfl
    rw [this] at c
    cases c
theorem four_off {u : Str} (h : Txt.startswith u notSp = true) : cutS u (some 4) none = Txt.removeprefix u notSp := by
  rw [starts_iff, notSp_list] at h
  have l4 : notSp.length = 4 := by decide +kernel
  rw [l4] at h
  have e : u = tx (sNot ++ u.cps.toList.drop 4) := str_ext (by rw [tx_cps, ← h, List.take_append_drop])
  refine str_ext ?_
  have e4 : (cutS u (some 4) none).cps.toList = u.cps.toList.drop 4 := cut_from 4
  rw [e4]
  conv => rhs; rw [e, not_off, tx_cps]
section
variable {P : Program} {w : World} {K : PySem.W.Frag} {mg : Str → Option Value} {base : Heap} {f : Addr} {fd : FuncData} {k : Nat}
def spLawSplit (K : PySem.W.Frag) : Sp := fun vs H Q _ => ∃ z m : Str, vs = [.str z, .str m] ∧ z.length ≤ 9000 ∧ (m.length == 0) = false ∧ ∀ H' p t1 t2, Same H H' → H' p = some (.lst [.ref t1, .ref t2]) → SqT K H' t1 ((plS (Txt.split z m)).map V.str) → SqT K H' t2 ((ngS (Txt.split z m)).map V.str) → Q (.ref p) H'
theorem ok_lawSplit (F : Fun K "_law_split" "_law_split" sLawSplit f fd) (T : Bl mg) : FnOk P w K mg base CX0 (k + 1) f fd ["words", "between"] (spLawSplit K) := by
  refine F.ok scLawSplit (fun vs H Q E h => ?_) (fun cdv A outer s H vs Q E hr h => ?_)
  · obtain ⟨z, m, rfl, _⟩ := h
    rfl
  obtain ⟨z, m, rfl, hz, hm, q⟩ := h
  refine ⟨_, pss_cons (ps_par (i := 2) (j := 3) rfl scLawSplit.nd rfl rfl (by decide) rfl rfl (pa_cons (pe_lst pa_nil) (pa_cons (pe_lst pa_nil) pa_nil)) rfl)
    (pss_cons (ps_for PassesOwn.never rfl (pi_list (pe_split (pv 0) (pv 1))) (pg_name (i := 4) scLawSplit.nd rfl (.inl rfl))
      (pss_one (ps_if (pt_cmpR op_eq (pe_slice sl_str (pv 4) po_none (po_some pe_int)) pe_str (nomark _))
        (pss_one (ps_expr (pe_bm PySem.F.plainAttrs_list PySem.F.slot_list_append PySem.F.type_list_append mt_append (pv 3) (pa_cons (pe_slice sl_str (pv 4) (po_some pe_int) po_none) pa_nil))))
        (pss_one (ps_expr (pe_bm PySem.F.plainAttrs_list PySem.F.slot_list_append PySem.F.type_list_append mt_append (pv 2) (pa_cons (pv 4) pa_nil)))))))
    (pss_one (ps_ret (pe_lst (pa_cons (pe_callTy (T := "tuple") call_tuple_of (by rfl) T.tuple (by decide +kernel) (pa_cons (pv 2) pa_nil)) (pa_cons (pe_callTy (T := "tuple") call_tuple_of (by rfl) T.tuple (by decide +kernel) (pa_cons (pv 3) pa_nil)) pa_nil)))))), ?_⟩
  let W1 : List Str := Txt.split z m
  have wl : W1.length ≤ 9002 := by
    have := split_few z m
    show (Txt.split z m).length ≤ 9002
    omega
  refine ⟨by show 0 ≤ sizeLine; decide, fun D1 hD1 => ⟨by show 0 ≤ sizeLine; decide, fun D2 hD2 => ?_⟩⟩
  have s1 := same_new hD1 (.lst [])
  have s2 := same_new hD2 (.lst [])
  refine ⟨_, _, rfl, ?_⟩
  refine ⟨.str z, rfl, ⟨_, rfl⟩, .str m, rfl, z, m, rfl, rfl, hm, small_line (by omega), fun p hp => ?_⟩
  have s4 := same_new hp (.lst (W1.map V.str))
  have d1 : (upd (upd H D1 (.lst [])) D2 (.lst [])) D1 = some (.lst []) := s2 _ _ upd_same
  have d2 : (upd (upd H D1 (.lst [])) D2 (.lst [])) D2 = some (.lst []) := upd_same
  have n12 : D1 ≠ D2 := fun e => by
    have h1 : (upd H D1 (.lst [])) D1 = some (.lst []) := upd_same
    rw [← e, h1] at hD2
    cases hD2
  have np1 : p ≠ D1 := fun e => by
    rw [e, d1] at hp
    cases hp
  have np2 : p ≠ D2 := fun e => by
    rw [e, d2] at hp
    cases hp
  have hD2' : H D2 = none := none_back s1 hD2
  have s02 := s1.trans s2
  have d1' := s4 _ _ d1
  have d2' := s4 _ _ d2
  have s04 := s02.trans s4
  have hp' : (upd (upd (upd H D1 (.lst [])) D2 (.lst [])) p (.lst (W1.map V.str))) p = some (.lst (W1.map V.str)) := upd_same
  generalize upd (upd (upd H D1 (.lst [])) D2 (.lst [])) p (.lst (W1.map V.str)) = H3 at d1' d2' s04 hp' ⊢
  have plf : ∀ l : List Str, (plS l).length ≤ l.length := fun l => List.length_filter_le _ l
  have ngf : ∀ l : List Str, (ngS l).length ≤ l.length := fun l => by
    unfold ngS
    rw [List.length_map]
    exact List.length_filter_le _ l
  refine ⟨p, rfl, ⟨_, SqL.of hp'⟩, ?_⟩
  refine for_list (xs := W1.map V.str) (fun i σ H1 => (∃ y4, σ = [some (.str z), some (.str m), some (.ref D1), some (.ref D2), y4]) ∧ Same H H1 ∧ H1 p = some (.lst (W1.map V.str)) ∧ H1 D1 = some (.lst ((plS (W1.take i)).map V.str)) ∧ H1 D2 = some (.lst ((ngS (W1.take i)).map V.str))) ⟨⟨_, rfl⟩, s04, hp', d1', d2'⟩ (fun i σ H1 _ h => SqL.of h.2.2.1) (fun i x σ H1 hx h => ?_) (fun σ H1 h => ?_)
  · obtain ⟨⟨y4, rfl⟩, sm, hpp, e1, e2⟩ := h
    obtain ⟨u, hu, rfl⟩ := map_at hx
    have il : i < W1.length := (List.getElem?_eq_some_iff.mp hu).1
    have ul := split_len (List.mem_of_getElem? hu)
    have us : u.length ≤ sizeLine := small_line (by omega)
    have lz1 := plf (W1.take i)
    have lz2 := ngf (W1.take i)
    rw [List.length_take] at lz1 lz2
    have et1 : plS (W1.take (i + 1)) = plS (W1.take i) ++ (if (!Txt.startswith u notSp) = true then [u] else []) := filt_take hu
    have et2 : (W1.take (i + 1)).filter (fun w => Txt.startswith w notSp) = (W1.take i).filter (fun w => Txt.startswith w notSp) ++ (if Txt.startswith u notSp = true then [u] else []) := filt_take hu
    have et3 : ngS (W1.take (i + 1)) = ngS (W1.take i) ++ (if Txt.startswith u notSp = true then [Txt.removeprefix u notSp] else []) := by
      unfold ngS
      rw [et2, List.map_append]
      split <;> rfl
    refine ⟨.str u, rfl, 4, rfl, u, rfl, us, rfl, Txt.startswith u notSp, congrArg V.bl (four_starts u), ?_⟩
    cases c : Txt.startswith u notSp with
    | true =>
      rw [c] at et1 et3
      refine iteT ⟨.ref D2, rfl, .inl ⟨rfl, _, SqL.of e2⟩, .str u, rfl, 4, rfl, u, rfl, us, ?_⟩
      refine ⟨D2, _, _, rfl, rfl, e2, small_line' (by rw [List.length_map]; omega), ?_⟩
      refine ⟨⟨_, rfl⟩, same_put sm hD2', by rw [upd_ne np2]; exact hpp, by rw [upd_ne n12, e1, et1]; simp, ?_⟩
      rw [upd_same, et3, if_pos rfl, List.map_append, four_off c]
      rfl
    | false =>
      rw [c] at et1 et3
      refine iteF ⟨.ref D1, rfl, .inl ⟨rfl, _, SqL.of e1⟩, .str u, rfl, ?_⟩
      refine ⟨D1, _, _, rfl, rfl, e1, small_line' (by rw [List.length_map]; omega), ?_⟩
      refine ⟨⟨_, rfl⟩, same_put sm hD1, by rw [upd_ne np1]; exact hpp, ?_, by rw [upd_ne n12.symm, e2, et3]; simp⟩
      rw [upd_same, et1, if_pos (by rfl), List.map_append]
      rfl
  · obtain ⟨⟨y4, rfl⟩, sm, hpp, e1, e2⟩ := h
    rw [List.length_map, List.take_length] at e1 e2
    refine ⟨.ref D1, rfl, D1, _, rfl, .inl ⟨SqL.of e1, fun t1 ht1 => ?_⟩⟩
    have s5 := same_new ht1 (.tup ((plS W1).map V.str))
    refine ⟨.ref D2, rfl, D2, _, rfl, .inl ⟨SqL.of (s5 _ _ e2), fun t2 ht2 => ?_⟩⟩
    have s6 := same_new ht2 (.tup ((ngS W1).map V.str))
    refine ⟨by show 2 ≤ sizeLine; decide, fun l hl => ?_⟩
    have s7 := same_new hl (.lst [.ref t1, .ref t2])
    exact q _ l t1 t2 (sm.trans (s5.trans (s6.trans s7))) upd_same (same_tup (s6.trans s7) (SqT.of upd_same)) (same_tup s7 (SqT.of upd_same))
end
end Rw
namespace Rw
open PySem PySem.Spec PyProof.Rows L2
/-! ### the law's own way of reading -/
abbrev nLawRead : List Str := ["line", "spot", "front", "back", "ahead", "behind", "found", "part"]
theorem scLawRead : FnScope nLawRead ["line"] (defScope sLawRead) := ⟨rfl, rfl, rfl, by decide +kernel, rfl, by decide +kernel, by decide +kernel⟩
def FewP (z : Str) : Prop := (rdP z).1.length ≤ 60 ∧ (rdP z).2.1.length ≤ 60 ∧ (rdP z).2.2.1.length ≤ 60 ∧ (rdP z).2.2.2.length ≤ 60
theorem cutS_len (u : Str) (lo hi : Option Int) : (cutS u lo hi).length ≤ u.length := by
  rw [len_list, len_list u]
  show (List.take _ (List.drop _ u.cps.toList)).length ≤ _
  rw [List.length_take, List.length_drop]
  omega
theorem halfP_size (z : Str) (h : z.length ≤ 9000) : (halvesP z).1.length ≤ 9000 ∧ (halvesP z).2.length ≤ 9000 := by
  unfold halvesP
  split
  · exact ⟨Nat.le_trans (cutS_len _ _ _) h, Nat.le_trans (cutS_len _ _ _) h⟩
  · exact ⟨Nat.le_trans (cutS_len _ _ _) h, Nat.zero_le _⟩
theorem words_size {ws : List Str} (h : ∀ u ∈ ws, u.length ≤ 9000) : (∀ u ∈ plS ws, u.cps.size ≤ 10000) ∧ ∀ u ∈ ngS ws, u.cps.size ≤ 10000 := by
  refine ⟨fun u hu => ?_, fun u hu => ?_⟩
  · have := h u (List.mem_filter.mp hu).1
    show u.length ≤ 10000
    omega
  · obtain ⟨x, hx, rfl⟩ := List.mem_map.mp hu
    have h1 := h x (List.mem_filter.mp hx).1
    have h2 := rem_len x notSp
    show (Txt.removeprefix x notSp).length ≤ 10000
    omega
theorem splP_len {z s u : Str} (h : u ∈ splP z s) : u.length ≤ s.length := by
  unfold splP at h
  split at h
  · exact nomatch h
  · exact split_len h
theorem splQ_len {s u : Str} (h : u ∈ splQ s) : u.length ≤ s.length := by
  unfold splQ at h
  split at h
  · exact nomatch h
  · exact split_len h
section
variable {P : Program} {w : World} {K : PySem.W.Frag} {mg : Str → Option Value} {base : Heap} {f : Addr} {fd : FuncData} {k : Nat}
def spReadP (K : PySem.W.Frag) : Sp := fun vs H Q _ => ∃ z : Str, vs = [.str z] ∧ z.length ≤ 9000 ∧ FewP z ∧ ((∃ r, IsR r ∧ wtS r = z ∧ ∀ H' v, Same H H' → Dp K H' v (rd r) → Q v H') ∨ ((∀ r, IsR r → wtS r ≠ z) ∧ ∀ H', Same H H' → Q .non H'))
theorem ok_lawRead {f1 f2 f3 : Addr} {fd1 fd2 fd3 : FuncData} (F : Fun K "_law_read" "_law_read" sLawRead f fd) (T : Bl mg)
    (G1 : FnOk P w K mg base CX0 k f1 fd1 ["words", "between"] (spLawSplit K)) (b1 : Binds K fd1 ["words", "between"] []) (k1 : PySem.W.keepIn K (.ref f1) = true) (m1 : mg "_law_split" = some (.ref f1))
    (G2 : FnOk P w K mg base CX0 k f2 fd2 ["names"] (spLawIsWorld K)) (b2 : Binds K fd2 ["names"] []) (k2 : PySem.W.keepIn K (.ref f2) = true) (m2 : mg "_law_is_world" = some (.ref f2))
    (G3 : FnOk P w K mg base CX0 k f3 fd3 ["row"] (spWritten1 K)) (b3 : Binds K fd3 ["row"] []) (k3 : PySem.W.keepIn K (.ref f3) = true) (m3 : mg "_law_written" = some (.ref f3)) :
    FnOk P w K mg base CX0 (k + 1) f fd ["line"] (spReadP K) := by
  refine F.ok scLawRead (fun vs H Q E h => ?_) (fun cdv A outer s H vs Q E hr h => ?_)
  · obtain ⟨z, rfl, _⟩ := h
    rfl
  obtain ⟨z, rfl, hz, ⟨w1, w2, w3, w4⟩, h⟩ := h
  refine ⟨_, (pss_cons (ps_set (i := 1) scLawRead.nd rfl (.inl rfl) (pe_m1 PySem.F.slot_str_find PySem.F.type_str_find mt_find (pv 0) pe_str)) (pss_cons (ps_par (i := 2) (j := 3) rfl scLawRead.nd rfl rfl (by decide) rfl rfl (pa_cons (pe_slice sl_str (pv 0) po_none (po_some (pe_un un_neg pe_int))) (pa_cons pe_str pa_nil)) rfl) (pss_mid (ps_if (pt_cmpR  op_ge (pv 1) pe_int (nomark _)) (pss_one (ps_par (i := 2) (j := 3) rfl scLawRead.nd rfl rfl (by decide) rfl rfl (pa_cons (pe_slice sl_str (pv 0) po_none (po_some (pe_callB (call_max2 rfl) (by rfl) T.max (by decide +kernel) (pa_cons pe_int (pa_cons (pe_op op_sub (pv 1) pe_int) pa_nil))))) (pa_cons (pe_slice sl_str (pv 0) (po_some (pe_op op_add (pv 1) pe_int)) (po_some (pe_un un_neg pe_int))) pa_nil)) rfl)) pss_nil) (pss_cons (ps_par (i := 4) (j := 5) rfl scLawRead.nd rfl rfl (by decide) rfl rfl (pa_cons (pe_lst (pa_cons (pe_tup pa_nil) (pa_cons (pe_tup pa_nil) pa_nil))) (pa_cons (pe_lst (pa_cons (pe_tup pa_nil) (pa_cons (pe_tup pa_nil) pa_nil))) pa_nil)) rfl) (pss_mid (ps_if (PW.pt (pw_and (pt_cmpR  op_ne (pv 2) pe_str (nomark _)) (pw_and1 (pt_cmpR  op_ne (pv 0) pe_str (nomark _))))) (pss_one (ps_set (i := 4) scLawRead.nd rfl (.inl rfl) (pe_call G1 hr (by rfl) m1 k1 b1 .nil pass0 (pa_cons (pv 2) (pa_cons pe_str pa_nil))))) pss_nil) (pss_mid (ps_if (pt_cmpR  op_ne (pv 3) pe_str (nomark _)) (pss_one (ps_set (i := 5) scLawRead.nd rfl (.inl rfl) (pe_call G1 hr (by rfl) m1 k1 b1 .nil pass0 (pa_cons (pv 3) (pa_cons pe_str pa_nil))))) pss_nil) (pss_cons (ps_set (i := 6) scLawRead.nd rfl (.inl rfl) (pe_callTy (T := "tuple") call_tuple_of (by rfl) T.tuple (by decide +kernel) (pa_cons (pe_op op_cat (pv 4) (pv 5)) pa_nil))) (pss_cons (ps_if (PW.pt (pw_or (pt_cmpR (r := rNeE K) (op_neE hr.units) (pe_lc (own := [("part", 7)]) (g := gName 7) (tt := tNot (tTest (tCall (spLawIsWorld K) [] E0 (tCons (tVar 7) tNil)))) (te := tVar 7) (by rfl) scLawRead.nd (pi_tup (pv 6)) (blkOk_by (N := nLawRead) (sc := defScope sLawRead) (by decide +kernel)) (fun _ _ _ _ _ => (pg_name (i := 7) scLawRead.nd rfl (Or.inl rfl))) (fun _ _ _ _ _ => pts_one (pt_not (pt_val (pe_call G2 hr (by rfl) m2 k2 b2 .nil pass0 (pa_cons (pv 7) pa_nil))))) (fun _ _ _ _ _ => pv 7)) (pe_lst pa_nil) (nomark _)) (pw_or1 (pt_cmpR  op_ne (pe_call G3 hr (by rfl) m3 k3 b3 .nil pass0 (pa_cons (pv 6) pa_nil)) (pv 0) (nomark _))))) (pss_one (ps_ret pe_non)) pss_nil) (pss_one (ps_ret (pv 6))))))))))), ?_⟩
  have zs : z.length ≤ sizeLine := small_line (by omega)
  refine ⟨.str z, rfl, ⟨_, rfl⟩, z, sI3, rfl, rfl, ?_⟩
  refine ⟨.str z, rfl, 1, rfl, -1, rfl, z, rfl, zs, ?_⟩
  refine ⟨_, _, rfl, ?_⟩
  obtain ⟨z1, z2⟩ := halfP_size z hz
  refine ⟨fun σ H1 => σ = [some (.str z), some (.int (Txt.find z sI3)), some (.str (halvesP z).1), some (.str (halvesP z).2), none, none, none, none] ∧ Same H H1, ?_, ?_⟩
  · refine ⟨.int (Txt.find z sI3), rfl, _, _, rfl, rfl, _, rfl, ite2 (fun e => ?_) (fun e => ?_)⟩
    · have h0 : 0 ≤ Txt.find z sI3 := by
        have := of_decide_eq_true e
        omega
      refine ⟨.str z, rfl, .int (Txt.find z sI3), rfl, _, _, rfl, rfl, 0, Txt.find z sI3 - 1, rfl, _, rfl, z, rfl, zs, ?_⟩
      refine ⟨.str z, rfl, .int (Txt.find z sI3), rfl, _, _, rfl, rfl, _, rfl, 1, rfl, -1, rfl, z, rfl, zs, ?_⟩
      refine ⟨_, _, rfl, ?_, fun _ _ e => e⟩
      unfold halvesP
      rw [if_pos h0]
      have em : (if Txt.find z sI3 - 1 > 0 then Txt.find z sI3 - 1 else 0) = max 0 (Txt.find z sI3 - 1) := by split <;> omega
      rw [em]
      rfl
    · have h0 : ¬ 0 ≤ Txt.find z sI3 := fun h0 => e (decide_eq_true (by omega))
      refine ⟨?_, fun _ _ e => e⟩
      unfold halvesP
      rw [if_neg h0]
      rfl
  rintro σ H1 ⟨rfl, s1⟩
  -- ahead, behind
  refine ⟨by show 0 ≤ sizeLine; decide, fun e1 he1 => ⟨by show 0 ≤ sizeLine; decide, fun e2 he2 => ⟨by show 2 ≤ sizeLine; decide, fun l4 hl4 => ?_⟩⟩⟩
  refine ⟨by show 0 ≤ sizeLine; decide, fun e3 he3 => ⟨by show 0 ≤ sizeLine; decide, fun e4 he4 => ⟨by show 2 ≤ sizeLine; decide, fun l5 hl5 => ?_⟩⟩⟩
  refine ⟨_, _, rfl, ?_⟩
  have c1 := same_new he1 (.tup [])
  have c2 := same_new he2 (.tup [])
  have c3 := same_new hl4 (.lst [.ref e1, .ref e2])
  have c4 := same_new he3 (.tup [])
  have c5 := same_new he4 (.tup [])
  have c6 := same_new hl5 (.lst [.ref e3, .ref e4])
  have c46 := c4.trans (c5.trans c6)
  have c36 := c3.trans c46
  have t1 := SqT.of (K := K) ((c2.trans c36) _ _ upd_same)
  have t2 := SqT.of (K := K) (c36 _ _ upd_same)
  have t3 := SqT.of (K := K) ((c5.trans c6) _ _ upd_same)
  have t4 := SqT.of (K := K) (c6 _ _ upd_same)
  have hh4 := c46 _ _ upd_same
  have hh5 : (upd (upd (upd (upd (upd (upd H1 e1 (.tup [])) e2 (.tup [])) l4 (.lst [.ref e1, .ref e2])) e3 (.tup [])) e4 (.tup [])) l5 (.lst [.ref e3, .ref e4])) l5 = some (.lst [.ref e3, .ref e4]) := upd_same
  have s16 := s1.trans (c1.trans (c2.trans c36))
  generalize upd (upd (upd (upd (upd (upd H1 e1 (.tup [])) e2 (.tup [])) l4 (.lst [.ref e1, .ref e2])) e3 (.tup [])) e4 (.tup [])) l5 (.lst [.ref e3, .ref e4]) = H2 at t1 t2 t3 t4 hh4 hh5 s16 ⊢
  refine ⟨fun σ H3 => (∃ a, σ = [some (.str z), some (.int (Txt.find z sI3)), some (.str (halvesP z).1), some (.str (halvesP z).2), some (.ref a), some (.ref l5), none, none] ∧ ∃ u1 u2, H3 a = some (.lst [.ref u1, .ref u2]) ∧ SqT K H3 u1 ((rdP z).1.map V.str) ∧ SqT K H3 u2 ((rdP z).2.1.map V.str)) ∧ Same H2 H3, ?_, ?_⟩
  · have fin0 : (splP z (halvesP z).1) = [] → ∃ a, ([some (.str z), some (.int (Txt.find z sI3)), some (.str (halvesP z).1), some (.str (halvesP z).2), some (.ref l4), some (.ref l5), none, none] : List (Option V)) = [some (.str z), some (.int (Txt.find z sI3)), some (.str (halvesP z).1), some (.str (halvesP z).2), some (.ref a), some (.ref l5), none, none] ∧ ∃ u1 u2, H2 a = some (.lst [.ref u1, .ref u2]) ∧ SqT K H2 u1 ((rdP z).1.map V.str) ∧ SqT K H2 u2 ((rdP z).2.1.map V.str) := fun e => by
      refine ⟨l4, rfl, e1, e2, hh4, ?_, ?_⟩
      · show SqT K H2 e1 ((plS (splP z (halvesP z).1)).map V.str)
        rw [e]
        exact t1
      · show SqT K H2 e2 ((ngS (splP z (halvesP z).1)).map V.str)
        rw [e]
        exact t2
    have ev : ∀ u v : Str, (!decide (V.str u = V.str v)) = !decide (u = v) := fun u v => by
      by_cases e : u = v
      · rw [e, decide_eq_true rfl, decide_eq_true rfl]
      · rw [decide_eq_false e, decide_eq_false fun q => e (by injection q)]
    refine ⟨.str (halvesP z).1, rfl, rfl, !decide ((halvesP z).1 = Str.empty), congrArg V.bl (ev _ _), ?_⟩
    by_cases a1 : (halvesP z).1 = Str.empty
    · rw [decide_eq_true a1]
      refine iteF (iteF ⟨fin0 ?_, fun _ _ e => e⟩)
      unfold splP
      rw [if_pos (.inl a1)]
    · rw [decide_eq_false a1]
      refine iteT ⟨.str z, rfl, rfl, !decide (z = sI), congrArg V.bl (ev _ _), ?_⟩
      by_cases a2 : z = sI
      · rw [decide_eq_true a2]
        refine iteF ⟨fin0 ?_, fun _ _ e => e⟩
        unfold splP
        rw [if_pos (.inr a2)]
      · rw [decide_eq_false a2]
        refine iteT ⟨.str (halvesP z).1, rfl, (halvesP z).1, sOr, rfl, z1, by decide +kernel, fun H5 p v1 v2 s5 hp g1 g2 => ⟨⟨p, rfl, v1, v2, hp, ?_, ?_⟩, s5⟩⟩
        · show SqT K H5 v1 ((plS (splP z (halvesP z).1)).map V.str)
          unfold splP
          rw [if_neg (fun q => q.elim a1 a2)]
          exact g1
        · show SqT K H5 v2 ((ngS (splP z (halvesP z).1)).map V.str)
          unfold splP
          rw [if_neg (fun q => q.elim a1 a2)]
          exact g2
  rintro σ H3 ⟨⟨a, rfl, u1, u2, ha, g1, g2⟩, s3⟩
  refine ⟨fun σ H4 => (∃ b, σ = [some (.str z), some (.int (Txt.find z sI3)), some (.str (halvesP z).1), some (.str (halvesP z).2), some (.ref a), some (.ref b), none, none] ∧ ∃ u3 u4, H4 b = some (.lst [.ref u3, .ref u4]) ∧ SqT K H4 u3 ((rdP z).2.2.1.map V.str) ∧ SqT K H4 u4 ((rdP z).2.2.2.map V.str)) ∧ Same H3 H4, ?_, ?_⟩
  · have ev : (!decide (V.str (halvesP z).2 = V.str "")) = !decide ((halvesP z).2 = Str.empty) := by
      have e0 : ("" : Str) = Str.empty := by decide +kernel
      rw [e0]
      by_cases e : (halvesP z).2 = Str.empty
      · rw [e, decide_eq_true rfl, decide_eq_true rfl]
      · rw [decide_eq_false e, decide_eq_false fun q => e (by injection q)]
    refine ⟨.str (halvesP z).2, rfl, rfl, !decide ((halvesP z).2 = Str.empty), congrArg V.bl ev, ?_⟩
    by_cases a1 : (halvesP z).2 = Str.empty
    · rw [decide_eq_true a1]
      have es : splQ (halvesP z).2 = [] := by
        unfold splQ
        rw [if_pos a1]
      refine iteF ⟨⟨l5, rfl, e3, e4, s3 _ _ hh5, ?_, ?_⟩, fun _ _ e => e⟩
      · show SqT K H3 e3 ((plS (splQ (halvesP z).2)).map V.str)
        rw [es]
        exact same_tup s3 t3
      · show SqT K H3 e4 ((ngS (splQ (halvesP z).2)).map V.str)
        rw [es]
        exact same_tup s3 t4
    · rw [decide_eq_false a1]
      have es : splQ (halvesP z).2 = Txt.split (halvesP z).2 sCo := by
        unfold splQ
        rw [if_neg a1]
      refine iteT ⟨.str (halvesP z).2, rfl, (halvesP z).2, sCo, rfl, z2, by decide +kernel, fun H5 p v1 v2 s5 hp g1 g2 => ⟨⟨p, rfl, v1, v2, hp, ?_, ?_⟩, s5⟩⟩
      · show SqT K H5 v1 ((plS (splQ (halvesP z).2)).map V.str)
        rw [es]
        exact g1
      · show SqT K H5 v2 ((ngS (splQ (halvesP z).2)).map V.str)
        rw [es]
        exact g2
  rintro σ H4 ⟨⟨b, rfl, u3, u4, hb, g3, g4⟩, s4⟩
  have ha4 := s4 _ _ ha
  have g1' := same_tup s4 g1
  have g2' := same_tup s4 g2
  have s04 := s16.trans (s3.trans s4)
  -- found
  refine ⟨.ref a, rfl, .ref b, rfl, a, b, _, _, rfl, rfl, ha4, hb, small_line (by show 2 + 2 ≤ 10000; decide), fun lc hlc => ?_⟩
  have k1' := same_new hlc (.lst ([.ref u1, .ref u2] ++ [.ref u3, .ref u4]))
  refine ⟨lc, _, rfl, .inl ⟨SqL.of upd_same, fun t ht => ?_⟩⟩
  have k2' := same_new ht (.tup ([.ref u1, .ref u2] ++ [.ref u3, .ref u4]))
  have k12 := k1'.trans k2'
  have hT := SqT.of (K := K) (upd_same (H := upd H4 lc (.lst ([.ref u1, .ref u2] ++ [.ref u3, .ref u4]))) (a := t) (o := .tup ([.ref u1, .ref u2] ++ [.ref u3, .ref u4])))
  have j1 := same_tup k12 g1'
  have j2 := same_tup k12 g2'
  have j3 := same_tup k12 g3
  have j4 := same_tup k12 g4
  have s05 := s04.trans k12
  generalize upd (upd H4 lc (.lst ([.ref u1, .ref u2] ++ [.ref u3, .ref u4]))) t (.tup ([.ref u1, .ref u2] ++ [.ref u3, .ref u4])) = H5 at hT j1 j2 j3 j4 s05 ⊢
  have hT : SqT K H5 t [.ref u1, .ref u2, .ref u3, .ref u4] := hT
  have sz1 : (∀ u ∈ (rdP z).1, u.cps.size ≤ 10000) ∧ ∀ u ∈ (rdP z).2.1, u.cps.size ≤ 10000 := words_size fun u hu => Nat.le_trans (splP_len hu) z1
  have sz2 : (∀ u ∈ (rdP z).2.2.1, u.cps.size ≤ 10000) ∧ ∀ u ∈ (rdP z).2.2.2, u.cps.size ≤ 10000 := words_size fun u hu => Nat.le_trans (splQ_len hu) z2
  let ps : List (Addr × List Str) := [(u1, (rdP z).1), (u2, (rdP z).2.1), (u3, (rdP z).2.2.1), (u4, (rdP z).2.2.2)]
  have pall : ∀ e ∈ ps, SqT K H5 e.1 (e.2.map V.str) ∧ (∀ u ∈ e.2, u.cps.size ≤ 10000) := fun e he => by
    simp only [ps, List.mem_cons, List.mem_nil_iff, or_false] at he
    rcases he with rfl | rfl | rfl | rfl
    · exact ⟨j1, sz1.1⟩
    · exact ⟨j2, sz1.2⟩
    · exact ⟨j3, sz2.1⟩
    · exact ⟨j4, sz2.2⟩
  have none_ : ∀ H', Same H H' → (IsR (rdP z) → wtS (rdP z) ≠ z) → Q .non H' := fun H' s hn => by
    rcases h with ⟨r, hI, e, _⟩ | ⟨_, q⟩
    · have er : rdP z = r := by rw [← e]; exact rdP_wt (nmr_of hI)
      rw [er] at hn
      exact absurd e (hn hI)
    · exact q H' s
  refine ⟨.ref t, rfl, t, rfl, ⟨_, hT⟩, fun D hD => ?_⟩
  have hT2 : SqT K H5 t (ps.map fun e : Addr × List Str => V.ref e.1) := hT
  refine lc_tup (xs := ps.map fun e : Addr × List Str => V.ref e.1) (fun i H6 => Same H5 H6 ∧ ∃ zs : List V, H6 D = some (.lst zs) ∧ zs.length ≤ i ∧ zs.isEmpty = (ps.take i).all fun e => worldD (wd e.2)) ⟨same_new hD _, [], upd_same, Nat.le_refl _, rfl⟩ (fun i H6 _ h => same_tup h.1 hT2) (fun i x H6 hx h => ?_) (fun H6 h => ?_)
  · obtain ⟨sm, zs, hd, zl, ze⟩ := h
    obtain ⟨e, he, rfl⟩ := map_at hx
    obtain ⟨m1', m2'⟩ := pall e (List.mem_of_getElem? he)
    have il : i < 4 := (List.getElem?_eq_some_iff.mp he).1
    have et : (ps.take (i + 1)).all (fun e => worldD (wd e.2)) = ((ps.take i).all (fun e => worldD (wd e.2)) && worldD (wd e.2)) := by
      rw [take_snoc he, List.all_append]
      simp
    refine ⟨rfl, .ref e.1, rfl, e.1, e.2, rfl, same_tup sm m1', m2', fun H7 s7 => ⟨worldD (wd e.2), rfl, ?_⟩⟩
    show if (!worldD (wd e.2)) = true then _ else _
    cases c : worldD (wd e.2) with
    | true => exact iteF ⟨sm.trans s7, zs, s7 _ _ hd, by omega, by rw [et, c, ze, Bool.and_true]⟩
    | false =>
      refine iteT ⟨.ref e.1, rfl, zs, s7 _ _ hd, small_line' (by omega), same_put (sm.trans s7) hD, _, upd_same, by rw [List.length_append]; simp; omega, ?_⟩
      rw [et, c, Bool.and_false]
      simp
  obtain ⟨s6, zs, hd, zl, ze⟩ := h
  rw [List.length_map, List.take_length] at ze
  refine ⟨by show 0 ≤ sizeLine; decide, fun l hl => ?_⟩
  have s7 := same_new hl (.lst [])
  have s07 := s05.trans (s6.trans s7)
  refine ⟨D, l, zs, rfl, rfl, SqL.of (s7 _ _ hd), SqL.of upd_same, !(ps.all fun e => worldD (wd e.2)), by rw [ze], ?_⟩
  have s57 := s6.trans s7
  generalize upd H6 l (.lst []) = H7 at s7 s07 s57 ⊢
  cases c : ps.all fun e => worldD (wd e.2) with
  | false =>
    refine iteT (iteT (none_ H7 s07 fun hI => ?_))
    obtain ⟨i1, i2, i3, i4⟩ := hI
    have : (ps.all fun e => worldD (wd e.2)) = true := by
      show (worldD _ && (worldD _ && (worldD _ && (worldD _ && true)))) = true
      rw [worldD_wd i1, worldD_wd i2, worldD_wd i3, worldD_wd i4]
      rfl
    rw [this] at c
    cases c
  | true =>
    have all := List.all_eq_true.mp c
    have hI : IsR (rdP z) := ⟨isW_of w1 (all _ (.head _)) sz1.1, isW_of w2 (all _ (.tail _ (.head _))) sz1.2, isW_of w3 (all _ (.tail _ (.tail _ (.head _)))) sz2.1, isW_of w4 (all _ (.tail _ (.tail _ (.tail _ (.head _))))) sz2.2⟩
    have hdr : Dp K H7 (.ref t) (rd (rdP z)) := .tup (same_tup s57 hT) (.cons (to_wd (same_tup s57 j1)) (.cons (to_wd (same_tup s57 j2)) (.cons (to_wd (same_tup s57 j3)) (.cons (to_wd (same_tup s57 j4)) .nil))))
    refine iteF ⟨.ref t, rfl, .ref t, rdP z, rfl, hdr, hI, fun H8 s8 => ?_⟩
    have dv : (!decide (V.str (wtS (rdP z)) = V.str z)) = !decide (wtS (rdP z) = z) := by
      by_cases e : wtS (rdP z) = z
      · rw [e, decide_eq_true rfl, decide_eq_true rfl]
      · rw [decide_eq_false e, decide_eq_false fun q => e (by injection q)]
    refine ⟨.str z, rfl, rfl, !decide (wtS (rdP z) = z), congrArg V.bl dv, ?_⟩
    by_cases e : wtS (rdP z) = z
    · rw [decide_eq_true e]
      refine iteF ⟨.ref t, rfl, ?_⟩
      rcases h with ⟨r, hI', e', q⟩ | ⟨q, _⟩
      · have er : rdP z = r := by rw [← e']; exact rdP_wt (nmr_of hI')
        rw [er] at hdr
        exact q H8 _ (s07.trans s8) (dp_same s8 _ _ hdr)
      · exact absurd e (q _ hI)
    · rw [decide_eq_false e]
      exact iteT (none_ H8 (s07.trans s8) fun _ => e)
end
end Rw
namespace Rw
open PySem PySem.Spec PyProof.Rows L2
/-! ### what is due of a text -/
theorem for_enumL {K : PySem.W.Frag} {a : Addr} {xs : List V} {g : TG} {tb : TS} {D : Ends} {σ : L2.St} {H : Hp} (Pv : Nat → L2.St → Hp → Prop) (h0 : Pv 0 σ H) (hl : ∀ i σ H, i ≤ xs.length → Pv i σ H → SqL K H a xs)
    (hs : ∀ i x σ H T, xs[i]? = some x → Pv i σ H → H T = none → g (.ref T) σ (upd H T (.tup [.int (i : Int), x])) fun σ2 H2 => tb { nx := Pv (i + 1), rt := D.rt, bk := D.nx, ct := Pv (i + 1) } σ2 H2) (hd : ∀ σ H, Pv xs.length σ H → D.nx σ H) :
    ∃ W : Nat → Nat → L2.St → Hp → Prop, (∃ m, W 0 m σ H) ∧ ∀ i m σ H, W i m σ H → ((Ite K a).stop i H ∧ D.nx σ H) ∨ ((Ite K a).go i H ∧ ∃ N : L2.St → Hp → Prop, (∀ σ' H', N σ' H' → ∃ m', m' < m ∧ W (i + 1) m' σ' H') ∧
      ∀ x H', (Ite K a).yld i H x H' → g x σ H' fun σ2 H2 => tb { nx := N, rt := D.rt, bk := D.nx, ct := N } σ2 H2) := by
  refine ⟨fun i m σ H => m = xs.length - i ∧ i ≤ xs.length ∧ Pv i σ H, ⟨xs.length, by simp, Nat.zero_le _, h0⟩, ?_⟩
  rintro i m σ H ⟨rfl, hi, p⟩
  have hS := hl i σ H hi p
  by_cases hlt : i < xs.length
  · refine .inr ⟨⟨xs, xs[i], hS, List.getElem?_eq_getElem hlt⟩, Pv (i + 1), fun σ' H' p' => ⟨xs.length - (i + 1), by omega, rfl, hlt, p'⟩, fun y H' yy => ?_⟩
    obtain ⟨T, x, rfl, hT, rfl, hx⟩ := yy
    exact hs i x σ H T (hx xs hS) p hT
  · have e : i = xs.length := by omega
    subst e
    exact .inl ⟨⟨xs, hS, Nat.le_refl _⟩, hd σ H p⟩
abbrev nLawDue : List Str := ["words", "rows", "k", "line", "row"]
theorem scLawDue : FnScope nLawDue ["words"] (defScope sLawDue) := ⟨rfl, rfl, rfl, by decide +kernel, rfl, by decide +kernel, by decide +kernel⟩
section
variable {P : Program} {w : World} {K : PySem.W.Frag} {mg : Str → Option Value} {base : Heap} {f : Addr} {fd : FuncData} {k : Nat}
/-- what a text tells: the rules of its lines, or the first line that is none -/
def spLawDue (K : PySem.W.Frag) : Sp := fun vs H Q _ => ∃ z : Str, vs = [.str z] ∧ z.length ≤ 8900 ∧ (Txt.split z sNl).length < 76 ∧ (∀ l ∈ Txt.split z sNl, FewP l) ∧
  ((z = Str.empty ∧ ∀ H' p t, Same H H' → H' p = some (.lst [.str "rules", .ref t]) → SqT K H' t [] → Q (.ref p) H') ∨
   (z ≠ Str.empty ∧ ∃ rs : List Rl, rs.map wtS = Txt.split z sNl ∧ (∀ r ∈ rs, IsR r) ∧ ∀ H' p t S ys, Same H H' → H' p = some (.lst [.str "rules", .ref t]) → SqT K H' t ys → DpAll K H' ys (S.map rd) → Srt S rs → Q (.ref p) H') ∨
   (z ≠ Str.empty ∧ ∃ (i : Nat) (rs : List Rl) (l : Str), (Txt.split z sNl)[i]? = some l ∧ rs.map wtS = (Txt.split z sNl).take i ∧ (∀ r ∈ rs, IsR r) ∧ (∀ r, IsR r → wtS r ≠ l) ∧ ∀ H' p, Same H H' → H' p = some (.lst [.str "line", .int ((i : Int) + 1)]) → Q (.ref p) H'))
theorem ok_lawDue {f1 : Addr} {fd1 : FuncData} (F : Fun K "_law_due" "_law_due" sLawDue f fd) (T : Bl mg) (G1 : FnOk P w K mg base CX0 k f1 fd1 ["line"] (spReadP K)) (b1 : Binds K fd1 ["line"] []) (k1 : PySem.W.keepIn K (.ref f1) = true) (m1 : mg "_law_read" = some (.ref f1)) :
    FnOk P w K mg base CX0 (k + 1) f fd ["words"] (spLawDue K) := by
  refine F.ok scLawDue (fun vs H Q E h => ?_) (fun cdv A outer s H vs Q E hr h => ?_)
  · obtain ⟨z, rfl, _⟩ := h
    rfl
  obtain ⟨z, rfl, hz, few, fewP, h⟩ := h
  refine ⟨_, pss_cons (ps_set (i := 1) scLawDue.nd rfl (.inl rfl) (pe_lst pa_nil))
    (pss_cons (ps_for PassesOwn.never rfl (pi_enum (by rfl) T.enum (pa_cons (pe_split (pv 0) pe_str) pa_nil)) (pg_tup (by rfl) (pgs_cons (pg_name (i := 2) scLawDue.nd rfl (.inl rfl)) (pgs_cons (pg_name (i := 3) scLawDue.nd rfl (.inl rfl)) pgs_nil)))
      (pss_one (ps_if (pt_cmpR op_ne (pv 0) pe_str (nomark _))
        (pss_cons (ps_set (i := 4) scLawDue.nd rfl (.inl rfl) (pe_call G1 hr (by rfl) m1 k1 b1 .nil pass0 (pa_cons (pv 3) pa_nil)))
        (pss_cons (ps_if (pt_cmpR op_isN (pv 4) pe_non (nomark _)) (pss_one (ps_ret (pe_lst (pa_cons pe_str (pa_cons (pe_op op_add (pv 2) pe_int) pa_nil))))) pss_nil)
        (pss_one (ps_expr (pe_bm PySem.F.plainAttrs_list PySem.F.slot_list_append PySem.F.type_list_append mt_append (pv 1) (pa_cons (pv 4) pa_nil)))))) pss_nil)))
    (pss_one (ps_ret (pe_lst (pa_cons pe_str (pa_cons (pe_callTy call_tuple_of (by rfl) T.tuple (by decide +kernel) (pa_cons (pe_callB (cr_sortR rfl hr.units) (by rfl) T.sorted (by decide +kernel) (pa_cons (pe_callTy (cr_setR rfl hr.units) (by rfl) T.set (by decide +kernel) (pa_cons (pv 1) pa_nil)) pa_nil)) pa_nil)) pa_nil)))))), ?_⟩
  let Ls : List Str := Txt.split z sNl
  have lineL : ∀ l ∈ Ls, l.length ≤ 9000 := fun l hl => Nat.le_trans (split_len hl) (by omega)
  have inj : ∀ {as bs : List Rl}, (∀ r ∈ as, IsR r) → (∀ r ∈ bs, IsR r) → as.map wtS = bs.map wtS → as = bs := fun {as} => by
    induction as with
    | nil =>
      intro bs _ _ e
      cases bs with
      | nil => rfl
      | cons b bs => cases e
    | cons a as ih =>
      intro bs ha hb e
      cases bs with
      | nil => cases e
      | cons b bs =>
        rw [List.map_cons, List.map_cons] at e
        injection e with e1 e2
        rw [wtS_inj (nmr_of (ha a (List.mem_cons_self ..))) (nmr_of (hb b (List.mem_cons_self ..))) e1, ih (fun r hr => ha r (List.mem_cons_of_mem _ hr)) (fun r hr => hb r (List.mem_cons_of_mem _ hr)) e2]
  refine ⟨by show 0 ≤ sizeLine; decide, fun D hD => ?_⟩
  have s1 := same_new hD (.lst [])
  refine ⟨.str z, rfl, ⟨_, rfl⟩, z, sNl, rfl, rfl, by decide +kernel, small_line (by omega), fun p hp => ?_⟩
  have s2 := same_new hp (.lst (Ls.map V.str))
  have hDp : (upd (upd H D (.lst [])) p (.lst (Ls.map V.str))) D = some (.lst []) := s2 _ _ upd_same
  have npD : p ≠ D := fun e => by
    have h0 : (upd H D (.lst [])) D = some (.lst []) := upd_same
    rw [e, h0] at hp
    cases hp
  refine ⟨p, _, rfl, SqL.of upd_same, for_enumL (xs := Ls.map V.str) (fun i σ H1 => (∃ y2 y3 y4, σ = [some (.str z), some (.ref D), y2, y3, y4]) ∧ Same H H1 ∧ H1 p = some (.lst (Ls.map V.str)) ∧ ∃ rs ys, H1 D = some (.lst ys) ∧ DpAll K H1 ys (rs.map rd) ∧ (∀ r ∈ rs, IsR r) ∧ ((z = Str.empty ∧ rs = []) ∨ (z ≠ Str.empty ∧ rs.map wtS = Ls.take i)))
    ⟨⟨_, _, _, rfl⟩, s1.trans s2, upd_same, [], [], hDp, .nil, (fun _ q => nomatch q), (by by_cases e : z = Str.empty; exact .inl ⟨e, rfl⟩; exact .inr ⟨e, rfl⟩)⟩ (fun i σ H1 _ h => SqL.of h.2.2.1) (fun i x σ H1 T' hx hI hT' => ?_) (fun σ H1 hI => ?_)⟩
  · obtain ⟨⟨y2, y3, y4, rfl⟩, sm, hpp, rs, ys, hd, hys, hI, hz2⟩ := hI
    obtain ⟨l, hl, rfl⟩ := map_at hx
    have il : i < Ls.length := (List.getElem?_eq_some_iff.mp hl).1
    have st := same_new hT' (.tup [.int (i : Int), .str l])
    refine ⟨T', _, rfl, SqT.of upd_same, rfl, _, _, rfl, _, [], rfl, rfl, ?_⟩
    have hpp := st _ _ hpp
    have hd := st _ _ hd
    have hys := dpAll_same st _ _ hys
    have sm := sm.trans st
    generalize upd H1 T' (.tup [.int (i : Int), .str l]) = H2 at sm hpp hd hys ⊢
    have ev : (!decide (V.str z = V.str "")) = !decide (z = Str.empty) := by
      have e0 : ("" : Str) = Str.empty := by decide +kernel
      rw [e0]
      by_cases e : z = Str.empty
      · rw [e, decide_eq_true rfl, decide_eq_true rfl]
      · rw [decide_eq_false e, decide_eq_false fun q => e (by injection q)]
    refine ⟨.str z, rfl, rfl, !decide (z = Str.empty), congrArg V.bl ev, ?_⟩
    rcases hz2 with ⟨ez, rfl⟩ | ⟨ez, er⟩
    · rw [decide_eq_true ez]
      exact iteF ⟨⟨_, _, _, rfl⟩, sm, hpp, [], ys, hd, hys, (fun _ q => nomatch q), .inl ⟨ez, rfl⟩⟩
    · rw [decide_eq_false ez]
      refine iteT ?_
      refine ⟨.str l, rfl, l, rfl, lineL l (List.mem_of_getElem? hl), fewP l (List.mem_of_getElem? hl), ?_⟩
      by_cases ok : ∃ r, IsR r ∧ wtS r = l
      · obtain ⟨r, hr1, hr2⟩ := ok
        refine .inl ⟨r, hr1, hr2, fun H3 v s3 hv => ?_⟩
        obtain ⟨av, v1, v2, v3, v4, rfl, _⟩ := of_rd hv
        refine ⟨.ref av, rfl, rfl, false, rfl, iteF ?_⟩
        have hd3 := s3 _ _ hd
        have m3 : Mut (H3 D) := by
          rw [hd3]
          exact True.intro
        have stp := Stay.put m3 (.lst (ys ++ [.ref av]))
        have yl : ys.length = i := by
          rw [dpAll_len hys, List.length_map]
          have := congrArg List.length er
          rw [List.length_map, List.length_take] at this
          omega
        refine ⟨.ref D, rfl, .inl ⟨rfl, ys, SqL.of hd3⟩, .ref av, rfl, D, ys, _, rfl, rfl, hd3, small_line' (by have : Ls.length < 76 := few; omega), ?_⟩
        refine ⟨⟨_, _, _, rfl⟩, same_put (sm.trans s3) hD, by rw [upd_ne npD]; exact s3 _ _ hpp, rs ++ [r], ys ++ [.ref av], upd_same, ?_, fun r' hr' => ?_, .inr ⟨ez, ?_⟩⟩
        · rw [List.map_append]
          exact dps_app12 (.cons (stp.rd hv) .nil) (((Stay.same s3).trans stp).dpAll _ _ (okDs_rd rs) hys)
        · rcases List.mem_append.mp hr' with q | q
          · exact hI r' q
          · rw [List.mem_singleton.mp q]
            exact hr1
        · rw [List.map_append, er, take_snoc hl, ← hr2]
          rfl
      · have ok' : ∀ r, IsR r → wtS r ≠ l := fun r a b => ok ⟨r, a, b⟩
        refine .inr ⟨ok', fun H3 s3 => ?_⟩
        refine ⟨.non, rfl, rfl, true, rfl, iteT ?_⟩
        refine ⟨.int (i : Int), rfl, _, _, rfl, rfl, by show 2 ≤ sizeLine; decide, fun p2 hp2 => ?_⟩
        have s4 := same_new hp2 (.lst [.str "line", .int ((i : Int) + 1)])
        have made : ∀ {as : List Rl} {j : Nat} {u : Str}, (∀ r ∈ as, IsR r) → (as.map wtS)[j]? = some u → ∃ r, IsR r ∧ wtS r = u := fun {as j u} ha e => by
          obtain ⟨r, hr', e'⟩ := map_at e
          exact ⟨r, ha r (List.mem_of_getElem? hr'), e'.symm⟩
        rcases h with ⟨e, _⟩ | ⟨_, rs2, e2, i2, _⟩ | ⟨_, i0, rs2, l0, hl0, e2, i2, no, q⟩
        · exact absurd e ez
        · obtain ⟨r, a, b⟩ := made (j := i) (u := l) i2 (by rw [e2]; exact hl)
          exact absurd b (ok' r a)
        · have : i = i0 := by
            by_cases c1 : i0 < i
            · obtain ⟨r, a, b⟩ := made (j := i0) (u := l0) hI (by rw [er, List.getElem?_take_of_lt c1]; exact hl0)
              exact absurd b (no r a)
            · by_cases c2 : i < i0
              · obtain ⟨r, a, b⟩ := made (j := i) (u := l) i2 (by rw [e2, List.getElem?_take_of_lt c2]; exact hl)
                exact absurd b (ok' r a)
              · omega
          subst this
          exact q _ p2 (sm.trans (s3.trans s4)) upd_same
  · obtain ⟨⟨y2, y3, y4, rfl⟩, sm, hpp, rs, ys, hd, hys, hI, hz2⟩ := hI
    rw [List.length_map, List.take_length] at hz2
    have fewR : rs.length < 76 := by
      rcases hz2 with ⟨_, rfl⟩ | ⟨_, e⟩
      · show 0 < 76
        decide
      · have := congrArg List.length e
        rw [List.length_map] at this
        have f2 : Ls.length < 76 := few
        omega
    refine ⟨.ref D, rfl, D, ys, rs, rfl, .inl (SqL.of hd), hys, fewR, fun a M ha hM isP hall => ?_⟩
    have sa := same_new ha (TSetO w a M)
    refine ⟨a, M, rs, rfl, upd_same, (fun e he => ⟨(hM e he).1, (Stay.same sa).dp _ _ (hM e he).1.ok (hM e he).2⟩), isP, hall, fun zs S l hS hSl hzs hl => ?_⟩
    have sl := same_new hl (.lst zs)
    refine ⟨l, zs, rfl, .inl ⟨SqL.of upd_same, fun t ht => ?_⟩⟩
    have st := same_new ht (.tup zs)
    refine ⟨by show 2 ≤ sizeLine; decide, fun p2 hp2 => ?_⟩
    have s5 := same_new hp2 (.lst [.str "rules", .ref t])
    have all := sm.trans (sa.trans (sl.trans (st.trans s5)))
    have hT := same_tup s5 (SqT.of (K := K) (upd_same (H := upd (upd H1 a (TSetO w a M)) l (.lst zs)) (a := t) (o := .tup zs)))
    have hz9 := dpAll_same (sl.trans (st.trans s5)) _ _ hzs
    rcases h with ⟨e, q⟩ | ⟨ez, rs2, e2, i2, q⟩ | ⟨ez, i0, rs2, l0, hl0, e2, i2, no, q⟩
    · obtain rfl : rs = [] := by
        rcases hz2 with ⟨_, e'⟩ | ⟨ne, _⟩
        · exact e'
        · exact absurd e ne
      obtain rfl : S = [] := List.eq_nil_iff_forall_not_mem.mpr fun r hr => nomatch (hS.mem r).mp hr
      obtain rfl : zs = [] := List.length_eq_zero_iff.mp (dpAll_len hzs)
      exact q _ p2 t all upd_same hT
    · have er : rs.map wtS = Ls := by
        rcases hz2 with ⟨e', _⟩ | ⟨_, e'⟩
        · exact absurd e' ez
        · exact e'
      obtain rfl := inj i2 hI (e2.trans er.symm)
      exact q _ p2 t S zs all upd_same hT hz9 hS
    · have er : rs.map wtS = Ls := by
        rcases hz2 with ⟨e', _⟩ | ⟨_, e'⟩
        · exact absurd e' ez
        · exact e'
      have e0 : (rs.map wtS)[i0]? = some l0 := by rw [er]; exact hl0
      obtain ⟨r, hr', e'⟩ := map_at e0
      exact absurd e'.symm (no r (hI r (List.mem_of_getElem? hr')))
end
end Rw
namespace Rw
open PySem PySem.Spec PyProof.Rows L2
/-! ### enumerate(a list, start=1): its turns -/
theorem draws_shift {prog : Program} {w : World} {A : Around} {it : Addr} {fp : List Addr} {n : Nat} {P : Nat → Value → Prop} {St : Nat → Heap → Prop} (D : Draws prog w A it fp n P St) : Draws prog w A it fp (n + 1) (fun j v => P (j - 1) v) (fun j h => 1 ≤ j ∧ St (j - 1) h) where
  live := fun i h st => D.live (i - 1) h st.2
  frame := fun i h h' st k => ⟨st.1, D.frame (i - 1) h h' st.2 k⟩
  item := fun i s Q E hi st k => D.item (i - 1) s Q E (by have := st.1; omega) st.2 fun x h' tk p st' sb => k x h' tk p ⟨by omega, by
    have e : i + 1 - 1 = i - 1 + 1 := by have := st.1; omega
    rw [e]
    exact st'⟩ sb
  done := fun s Q E st k => D.done s Q E st.2 k
/-- enumerate of a list from 1: what it gives -/
def Ie1 (K : PySem.W.Frag) (a : Addr) : It where
  go := fun i H => ∃ xs x, SqL K H a xs ∧ xs[i]? = some x
  yld := fun i H v H' => ∃ T x, v = .ref T ∧ H T = none ∧ H' = upd H T (.tup [.int ((i + 1 : Nat) : Int), x]) ∧ ∀ xs, SqL K H a xs → xs[i]? = some x
  stop := fun i H => ∃ xs, SqL K H a xs ∧ xs.length = i
theorem list_enum_ne {h : Heap} {a e it : Addr} {items : Array Value} {i : Int} {old : Value} (ht : h.IsList a items) (he : IsEnum h e it i old) : e ≠ a := fun z => by
  obtain ⟨o, h1, h2, _⟩ := ht
  rw [← z, he] at h1
  cases h1
  exact absurd (show Value.type "enumerate" = Value.type "list" from h2) (by decide)
theorem list_iter_ne {h : Heap} {a it l : Addr} {items : Array Value} {i : Nat} (ht : h.IsList a items) (he : h.IsListIter it l i) : a ≠ it := fun z => by
  obtain ⟨o, h1, h2, _⟩ := ht
  obtain ⟨o', h3, h4, _⟩ := he
  rw [z, h3] at h1
  cases h1
  rw [h4] at h2
  exact absurd h2 (by decide)
theorem turn_enum1 {P : Program} {w : World} {K : PySem.W.Frag} {elts : List Expr} {kk : Nat} {tpos : Pos} (a e it : Addr) : Turn P w K (.Tuple elts kk tpos) (Ie1 K a) [e, it] e (fun i h => (∃ old, IsEnum h e it ((i + 1 : Nat) : Int) old) ∧ h.IsListIter it a i ∧ e ≠ it) := by
  refine ⟨by simp, fun i h st b hb => ?_, fun i h h' st k => ?_, fun X hP hw hK hc i pins s σ H E I hf st hg => ?_, fun X hP hw hK hc i pins s σ H E I hf st hg => ?_, fun A i s Q E st h => ?_⟩
  · obtain ⟨⟨old, he⟩, ⟨o, ho, hcl, hd⟩, _⟩ := st
    rcases List.mem_cons.mp hb with z | hb
    · subst z
      exact ⟨_, he, fun v q => nomatch q⟩
    · rw [List.mem_singleton.mp hb]
      refine ⟨o, ho, fun v q => ?_⟩
      rw [hd] at q
      cases q
  · obtain ⟨⟨old, he⟩, hi, hne⟩ := st
    exact ⟨⟨old, k e (by simp) _ he⟩, hi.at fun o q => k it (by simp) o q, hne⟩
  · subst hP hw hK
    obtain ⟨⟨old, he⟩, hit, hne⟩ := st
    obtain ⟨xs, x, hq, hx⟩ := hg
    obtain ⟨its, rv, p, hz⟩ := I.list hq
    have ht : s.heap.IsList a its.toArray := p.isList
    have ea := list_enum_ne ht he
    have ai := list_iter_ne ht hit
    have hl := rv.length
    have hin : i < its.toArray.size := by
      rw [List.size_toArray, ← hl]
      exact (List.getElem?_eq_some_iff.mp hx).1
    refine wpAny_pyNext_enum_itemD (draws_shift (Draws.list (A := X.A.in1) (I.ok.hd hc) it a ai its.toArray)) he ⟨Nat.le_add_left 1 i, hit, ht⟩ (Nat.succ_lt_succ hin) hne (by simp [hne, ea]) fun u h' tk hu ho st' hT hsz hk => ⟨.ref s.heap.objs.size, rfl, ?_⟩
    refine wpAny_letOwnedTupleGo_enum ho fun h'' he' sb => ?_
    have hel : e < s.heap.objs.size := Heap.lt_size he
    have hil : it < s.heap.objs.size := by
      obtain ⟨o, ho, _⟩ := hit
      exact Heap.lt_size ho
    have hT2 : h''.get? s.heap.objs.size = _ := (sb.2 s.heap.objs.size (Nat.ne_of_gt hel)).trans hT
    have hu' : its[i]? = some u := by simpa using hu
    obtain ⟨x', hx', ru⟩ := vals_at rv hu'
    have exx : x' = x := Option.some.inj (hx'.symm.trans hx)
    subst exx
    have new : ObjOk X.prog X.w (upd H s.heap.objs.size (.tup [.int ((i + 1 : Nat) : Int), x'])) h'' s.heap.objs.size (.tup [.int ((i + 1 : Nat) : Int), x']) :=
      ⟨by show 2 ≤ sizeLine; decide, [.int ((i + 1 : Nat) : Int) tk, u], .cons ⟨tk, rfl⟩ (.cons ru .nil), ⟨_, hT2, rfl, 0, rfl⟩⟩
    have kept : ∀ (b : Addr) (o : Obj), b ∉ [e, it] → s.heap.get? b = some o → h''.get? b = some o := fun b o hb q => by
      have n1 : b ≠ e := fun z => hb (by simp [z])
      have n2 : b ≠ it := fun z => hb (by simp [z])
      exact (sb.2 b n1).trans (hk b o n1 n2 q)
    have I1 := I.turnedNew (t' := tk + 1) kept hf (Nat.le_refl _) new
    refine ⟨.ref s.heap.objs.size, _, I1, rfl, ⟨s.heap.objs.size, x', rfl, I.hok.fresh (Nat.le_refl _), rfl, fun ys hy => ?_⟩, ⟨⟨u, ?_⟩, st'.2.1.at fun o q => (sb.2 it hne.symm).trans q, hne⟩, fun b hb => ?_⟩
    · obtain ⟨its2, rv2, p2, _⟩ := I.list hy
      have ht2 : s.heap.IsList a its2.toArray := p2.isList
      have ei : its2.toArray = its.toArray := by
        obtain ⟨o, a1, a2, n, a3⟩ := ht
        obtain ⟨o', b1, b2, n', b3⟩ := ht2
        rw [a1] at b1
        cases b1
        rw [a3] at b3
        cases b3
        rfl
      have ei' : its2 = its := by
        have := congrArg Array.toList ei
        simpa using this
      subst ei'
      obtain ⟨y, hy1, ry⟩ := vals_at rv2 hu'
      rw [RelV.inj ru ry]
      exact hy1
    · have e1 : (((i + 1 : Nat) : Int) + 1) = ((i + 1 + 1 : Nat) : Int) := rfl
      rw [← e1]
      exact he'
    · have hb' : b < s.heap.objs.size := by
        rcases List.mem_cons.mp hb with z | hb
        · rw [z]
          exact hel
        · rw [List.mem_singleton.mp hb]
          exact hil
      rw [upd_ne (Nat.ne_of_lt hb')]
      exact (hf b hb).1
  · subst hP hw hK
    obtain ⟨⟨old, he⟩, hit, hne⟩ := st
    obtain ⟨xs, hq, hx⟩ := hg
    obtain ⟨its, rv, p, hz⟩ := I.list hq
    have ht : s.heap.IsList a its.toArray := p.isList
    have ai := list_iter_ne ht hit
    obtain ⟨f0, f1, f2, f3, f4, f5⟩ := hf it (by simp)
    have sz : its.toArray.size = i := by rw [List.size_toArray, ← rv.length, hx]
    refine wpAny_pyNext_enum_endD (draws_shift (Draws.list (A := X.A.in1) (I.ok.hd hc) it a ai its.toArray)) he ⟨Nat.le_add_left 1 _, by rw [Nat.add_sub_cancel, sz]; exact hit, ht⟩ fun h' eb => ⟨rfl, I.turned (fun b o hb q => eb b o hb q) f0 f1 f3 f4 f5⟩
  · obtain ⟨⟨_, he⟩, _⟩ := st
    exact wpAny_pyIter_enum he h
theorem for_enum1 {K : PySem.W.Frag} {a : Addr} {xs : List V} {g : TG} {tb : TS} {D : Ends} {σ : L2.St} {H : Hp} (Pv : Nat → L2.St → Hp → Prop) (h0 : Pv 0 σ H) (hl : ∀ i σ H, i ≤ xs.length → Pv i σ H → SqL K H a xs)
    (hs : ∀ i x σ H T, xs[i]? = some x → Pv i σ H → H T = none → g (.ref T) σ (upd H T (.tup [.int ((i + 1 : Nat) : Int), x])) fun σ2 H2 => tb { nx := Pv (i + 1), rt := D.rt, bk := D.nx, ct := Pv (i + 1) } σ2 H2) (hd : ∀ σ H, Pv xs.length σ H → D.nx σ H) :
    ∃ W : Nat → Nat → L2.St → Hp → Prop, (∃ m, W 0 m σ H) ∧ ∀ i m σ H, W i m σ H → ((Ie1 K a).stop i H ∧ D.nx σ H) ∨ ((Ie1 K a).go i H ∧ ∃ N : L2.St → Hp → Prop, (∀ σ' H', N σ' H' → ∃ m', m' < m ∧ W (i + 1) m' σ' H') ∧
      ∀ x H', (Ie1 K a).yld i H x H' → g x σ H' fun σ2 H2 => tb { nx := N, rt := D.rt, bk := D.nx, ct := N } σ2 H2) := by
  refine ⟨fun i m σ H => m = xs.length - i ∧ i ≤ xs.length ∧ Pv i σ H, ⟨xs.length, by simp, Nat.zero_le _, h0⟩, ?_⟩
  rintro i m σ H ⟨rfl, hi, p⟩
  have hS := hl i σ H hi p
  by_cases hlt : i < xs.length
  · refine .inr ⟨⟨xs, xs[i], hS, List.getElem?_eq_getElem hlt⟩, Pv (i + 1), fun σ' H' p' => ⟨xs.length - (i + 1), by omega, rfl, hlt, p'⟩, fun y H' yy => ?_⟩
    obtain ⟨T, x, rfl, hT, rfl, hx⟩ := yy
    exact hs i x σ H T (hx xs hS) p hT
  · have e : i = xs.length := by omega
    subst e
    exact .inl ⟨⟨xs, hS, rfl⟩, hd σ H p⟩
/-! ### its call: enumerate(xs, start=1) -/
theorem callWith_typeK {M : Model} {A : Around} {E : Value → Shared → Prop} {s : Shared} {pos : Pos} {T : String} {first : List Value} {args : List (Bool × Sem Value)} {keywords : List (Option Str × Sem Value)} {Q : Value → Shared → Prop}
    (hplain : (args.any fun x => x.1) = false) (hkw : (keywords.any fun x => x.1.isNone) = false)
    (h : wpAny M A (evalArgs (.type T) true args keywords) (fun a s₁ => wpAny M A (call (.type T) (first ++ a.pos) a.kw) Q E s₁) E s) : wpAny M A (callWith pos (.type T) first args keywords) Q E s := by
  unfold callWith
  refine wpAny_bind (wpAny_holding (wpAny_mono h (fun a s₁ h₁ => wpAny_bind (wpAny_standAt ?_)) fun _ _ x => x))
  simp only [hplain, hkw, Bool.or_false]
  refine wpAny_bind (wpAny_pure ?_)
  exact wpAny_bind (wpAny_mono h₁ (fun r s₂ hr => wpAny_bind (wpAny_holding (wpAny_point (wpAny_pure hr)))) fun _ _ x => x)
def iEnum1 (K : PySem.W.Frag) (ta : TA) : TI := fun σ H R => ta σ H fun vs H1 => ∃ a xs, vs = [.ref a] ∧ SqL K H1 a xs ∧ R (Ie1 K a) H1
theorem pi_enum1 {X : Cx} {e : Expr} {ta : TA} {p pos tpos kp cp : Pos} {elts : List Expr} {kk j : Nat} (hg : Gl X "enumerate") (hm : X.mg "enumerate" = none) (ha : PA X [e] ta) (hs : starEach [e] X.env = [(false, eval e X.env)] := by rfl) :
    PI X (.Tuple elts kk tpos) (.Call (.Name "enumerate" p) [e] [⟨some "start", .Constant (.int 1) j cp, kp⟩] pos) (iEnum1 X.K ta) := by
  refine ⟨fun pins s σ H R I h => ?_⟩
  refine wpAny_Call_Name_kw (ld_blt I hg hm boot_enumerate ?_)
  have ev := ha.run pos pins s σ H _ I h
  rw [hs] at ev ⊢
  refine callWith_typeK rfl rfl ?_
  refine evalArgs_kwB rfl (thn ev fun us s1 ⟨vs, H1, I1, r1, a, xs, ex, hq, q⟩ => ?_)
  subst ex
  obtain rfl := Vals.ref1 r1
  refine thn ((pk_cons (nm := some "start") (kpos := kp) pe_int pk_nil).run pos pins s1 σ H1 (fun zs H2 => zs = [.int 1] ∧ SqL X.K H2 a xs ∧ R (Ie1 X.K a) H2) I1 ⟨rfl, hq, q⟩) fun ws s2 ⟨zs, H2, I2, r2, ez, hq2, q2⟩ => ?_
  subst ez
  cases r2 with
  | cons rr rn =>
    cases rn
    obtain ⟨t, rfl⟩ := rr
    obtain ⟨its, rv, p', hz⟩ := I2.list hq2
    refine enum_begins_start (begins_list a its.toArray) p'.isList (by decide) (by decide) fun h' he hit hsz hk => ?_
    refine wpAny_pyIter_enum he ?_
    have I3 : Inv X pins σ H2 { s2 with heap := h' } := I2.kept (t' := s2.toks) hk
    refine ⟨s2.heap.objs.size + 1, [s2.heap.objs.size + 1, s2.heap.objs.size], _, Ie1 X.K a, H2, rfl, I3, turn_enum1 a (s2.heap.objs.size + 1) s2.heap.objs.size, ⟨⟨.none, he⟩, ⟨_, hit, rfl, rfl⟩, Nat.succ_ne_self _⟩, fun b hb => ?_, q2⟩
    rcases List.mem_cons.mp hb with z | hb
    · subst z
      exact I2.fpOk (Nat.le_succ _) (I2.hok.fresh (Nat.le_succ _))
    · rw [List.mem_singleton.mp hb]
      exact I2.fpOk (Nat.le_refl _) (I2.hok.fresh (Nat.le_refl _))
end Rw
namespace Rw
open PySem PySem.Spec PyProof.Rows L2
/-! ### Program.read -/
abbrev nRead : List Str := ["cls", "text", "lines", "rows", "number", "line", "row"]
theorem scRead : FnScope nRead ["cls", "text"] (defScope sRead) := ⟨rfl, rfl, rfl, by decide +kernel, rfl, by decide +kernel, by decide +kernel⟩
theorem wtS_injs {as bs : List Rl} (ha : ∀ r ∈ as, IsR r) (hb : ∀ r ∈ bs, IsR r) (e : as.map wtS = bs.map wtS) : as = bs := by
  induction as generalizing bs with
  | nil =>
    cases bs with
    | nil => rfl
    | cons b bs => cases e
  | cons a as ih =>
    cases bs with
    | nil => cases e
    | cons b bs =>
      rw [List.map_cons, List.map_cons] at e
      injection e with e1 e2
      rw [wtS_inj (nmr_of (ha a (List.mem_cons_self ..))) (nmr_of (hb b (List.mem_cons_self ..))) e1, ih (fun r hr => ha r (List.mem_cons_of_mem _ hr)) (fun r hr => hb r (List.mem_cons_of_mem _ hr)) e2]
/-- an error with this line -/
def Unr (E : XK) (CU : Addr) (H : Hp) (n : Int) : Prop := ∀ H' dx, Same H H' → H' dx = none → E (.ref CU) (some dx) (upd H' dx (.xd [(("line" : Str), .int n)]))
theorem Unr.same {E : XK} {CU : Addr} {H H' : Hp} {n : Int} (h : Unr E CU H n) (e : Same H H') : Unr E CU H' n := fun H2 dx a b => h H2 dx (e.trans a) b
section
variable {P : Program} {w : World} {K : PySem.W.Frag} {mg : Str → Option Value} {base : Heap} {f : Addr} {fd : FuncData} {k : Nat}
/-- what a text is read as: the program of its lines, or the first line that is none -/
def ReadR (K : PySem.W.Frag) (C CU : Addr) (z : Str) (H : Hp) (Q : VK) (E : XK) : Prop := z.length ≤ 8900 ∧ (Txt.split z sNl).length < 76 ∧ (∀ l ∈ Txt.split z sNl, FewZ l) ∧
  ((z = Str.empty ∧ ∀ H' v, Same H H' → PgAt K C H' v [] → Q v H') ∨
   (z ≠ Str.empty ∧ ∃ rs : List Rl, rs.map wtS = Txt.split z sNl ∧ (∀ r ∈ rs, IsR r) ∧ ∀ H' v S, Same H H' → Srt S rs → S.length < 76 → PgAt K C H' v S → Q v H') ∨
   (z ≠ Str.empty ∧ ∃ (i : Nat) (rs : List Rl) (l : Str), (Txt.split z sNl)[i]? = some l ∧ rs.map wtS = (Txt.split z sNl).take i ∧ (∀ r ∈ rs, IsR r) ∧ (∀ r, IsR r → wtS r ≠ l) ∧ Unr E CU H ((i : Int) + 1)))
def spRead (K : PySem.W.Frag) (C CU : Addr) : Sp := fun vs H Q E => ∃ x, vs = [.ref C, x] ∧ ((NotT K H x "str" ∧ Unr E CU H 0) ∨ ∃ z : Str, x = .str z ∧ ReadR K C CU z H Q E)
theorem ok_read {C CU fI f1 : Addr} {fd1 : FuncData} (F : Fun K "read" "Program.read" sRead f fd) (T : Bl mg) (X : ErrT P w K mg base k "Unreadable" "line" CU) (M : Mk K C fI) (GI : FnR P w K mg base CX0 k fI (spInit K C))
    (G1 : FnOk P w K mg base CX0 (k + 1) f1 fd1 ["line"] (spReadRule K)) (b1 : Binds K fd1 ["line"] []) (k1 : PySem.W.keepIn K (.ref f1) = true) (m1 : mg "_read_rule" = some (.ref f1)) :
    FnOk P w K mg base (L2.CX P w) (k + 2) f fd ["cls", "text"] (spRead K C CU) := by
  obtain ⟨fE, fdE, i1, i2, i3, i4⟩ := X.ex
  refine F.okX scRead (fun vs H Q E h => ?_) (fun cdv A outer s H vs Q E hr h => ?_)
  · obtain ⟨x, rfl, _⟩ := h
    rfl
  obtain ⟨x, rfl, h⟩ := h
  refine ⟨_, pss_cons (ps_if (pt_not (pt_val (pe_callB call_isi (by rfl) T.isi PyProof.Rows.boot_isinstance (pa_cons (pv 1) (pa_cons (pe_bltn (v := .ty "str") (by rfl) T.str (by decide +kernel) rfl) pa_nil)))))
      (pss_one (ps_raise rfl (takes_of rfl rfl rfl rfl) (pmk_oex X.oex i1 i2 i3 hr i4 .nil pass0 (by rfl) X.m (pa_cons pe_int pa_nil)))) pss_nil)
    (pss_mid (ps_set (i := 2) scRead.nd rfl (.inl rfl) (pe_ifExp (pt_truth (pv 1) (fun _ => rfl)) (pe_split (pv 1) pe_str) (pe_lst pa_nil)))
    (pss_cons (ps_set (i := 3) scRead.nd rfl (.inl rfl) (pe_lst pa_nil))
    (pss_cons (ps_for (passes_of rfl) rfl (pi_enum1 (by rfl) T.enum (pa_cons (pv 2) pa_nil)) (pg_tup (by rfl) (pgs_cons (pg_name (i := 4) scRead.nd rfl (.inl rfl)) (pgs_cons (pg_name (i := 5) scRead.nd rfl (.inl rfl)) pgs_nil)))
      (pss_cons (ps_set (i := 6) scRead.nd rfl (.inl rfl) (pe_call G1 hr (by rfl) m1 k1 b1 .nil pass0 (pa_cons (pv 5) pa_nil)))
      (pss_cons (ps_if (pt_cmpR op_isN (pv 6) pe_non (nomark _)) (pss_one (ps_raise rfl (takes_of rfl rfl rfl rfl) (pmk_oex X.oex i1 i2 i3 hr i4 .nil pass0 (by rfl) X.m (pa_cons (pv 4) pa_nil)))) pss_nil)
      (pss_one (ps_expr (pe_bm PySem.F.plainAttrs_list PySem.F.slot_list_append PySem.F.type_list_append mt_append (pv 3) (pa_cons (pv 6) pa_nil)))))))
    (pss_one (ps_ret (pe_makeSL (i := 0) M GI hr rfl (.inl rfl) pass0 (pv 3))))))), ?_⟩
  rcases h with ⟨⟨t, h1, h2⟩, q⟩ | ⟨z, rfl, hz, few, fewZ, h⟩
  · exact ⟨x, rfl, x, .ty "str", t, .type "str", false, rfl, .ty "str", h1, h2, false, rfl, iteT (err_made fun dx hd => q H dx (fun _ _ e => e) hd)⟩
  refine ⟨.str z, rfl, .str z, .ty "str", .type "str", .type "str", true, rfl, .ty "str", .base (.str z), kit_ty (by decide +kernel), true, rfl, iteF ?_⟩
  let W1 : List Str := if z = Str.empty then [] else Txt.split z sNl
  have e0 : z.length = 0 ↔ z = Str.empty := ⟨fun e => by
    obtain ⟨c⟩ := z
    have : c = #[] := Array.eq_empty_of_size_eq_zero e
    rw [this]
    rfl, fun e => by rw [e]; rfl⟩
  have w1 : z = Str.empty → W1 = [] := fun e => if_pos e
  have w2 : z ≠ Str.empty → W1 = Txt.split z sNl := fun e => if_neg e
  have wf : W1.length < 76 := by
    by_cases e : z = Str.empty
    · rw [w1 e]
      show 0 < 76
      decide
    · rw [w2 e]
      exact few
  have wlen : ∀ l ∈ W1, l.length ≤ 9000 := fun l hl => by
    by_cases e : z = Str.empty
    · rw [w1 e] at hl
      exact nomatch hl
    · rw [w2 e] at hl
      exact Nat.le_trans (split_len hl) (by omega)
  have wfz : ∀ l ∈ W1, FewZ l := fun l hl => by
    by_cases e : z = Str.empty
    · rw [w1 e] at hl
      exact nomatch hl
    · rw [w2 e] at hl
      exact fewZ l hl
  refine ⟨fun σ H1 => ∃ p, σ = [some (.ref C), some (.str z), some (.ref p), none, none, none, none] ∧ Same H H1 ∧ H1 p = some (.lst (W1.map V.str)), ?_, ?_⟩
  · refine ⟨.str z, rfl, _, ⟨small_line (by omega), rfl⟩, ite2 (fun e => ?_) (fun e => ?_)⟩
    · have n0 : z ≠ Str.empty := fun h0 => by
        rw [e0.mpr h0] at e
        exact absurd e (by decide)
      refine ⟨.str z, rfl, ⟨_, rfl⟩, z, sNl, rfl, rfl, by decide +kernel, small_line (by omega), fun p hp => ?_⟩
      exact ⟨p, rfl, same_new hp _, by rw [w2 n0]; exact upd_same⟩
    · have n0 : z = Str.empty := e0.mp (by
        have e' : (((z.length : Nat) : Int) != 0) = false := by simpa using e
        simpa using e')
      refine ⟨by show 0 ≤ sizeLine; decide, fun p hp => ?_⟩
      exact ⟨p, rfl, same_new hp _, by rw [w1 n0]; exact upd_same⟩
  rintro σ H1 ⟨p, rfl, s1, hp⟩
  refine ⟨by show 0 ≤ sizeLine; decide, fun D hD => ?_⟩
  have sD := same_new hD (.lst [])
  refine ⟨.ref p, rfl, p, _, rfl, SqL.of (sD _ _ hp), for_enum1 (xs := W1.map V.str) (fun i σ H2 => (∃ y4 y5 y6, σ = [some (.ref C), some (.str z), some (.ref p), some (.ref D), y4, y5, y6]) ∧ Same H1 H2 ∧ ∃ rs ys, H2 D = some (.lst ys) ∧ DpAll K H2 ys (rs.map rd) ∧ (∀ r ∈ rs, IsR r) ∧ rs.map wtS = W1.take i)
    ⟨⟨none, none, none, rfl⟩, sD, [], [], upd_same, .nil, (fun _ q => nomatch q), rfl⟩ (fun i σ H2 _ hI => SqL.of (hI.2.1 _ _ hp)) (fun i v σ H2 T' hx hI hT' => ?_) (fun σ H2 hI => ?_)⟩
  · obtain ⟨⟨y4, y5, y6, rfl⟩, sm, rs, ys, hd, hys, hIs, er⟩ := hI
    obtain ⟨l, hl, rfl⟩ := map_at hx
    have il : i < W1.length := (List.getElem?_eq_some_iff.mp hl).1
    have st := same_new hT' (.tup [.int ((i + 1 : Nat) : Int), .str l])
    refine ⟨T', _, rfl, SqT.of upd_same, rfl, _, _, rfl, _, [], rfl, rfl, ?_⟩
    have hd := st _ _ hd
    have hys := dpAll_same st _ _ hys
    have sm := sm.trans st
    generalize upd H2 T' (.tup [.int ((i + 1 : Nat) : Int), .str l]) = H3 at sm hd hys ⊢
    refine ⟨.str l, rfl, l, rfl, wlen l (List.mem_of_getElem? hl), wfz l (List.mem_of_getElem? hl), ?_⟩
    by_cases ok : ∃ r, IsR r ∧ wtS r = l
    · obtain ⟨r, hr1, hr2⟩ := ok
      refine .inl ⟨r, hr1, hr2, fun H4 v s4 hv => ?_⟩
      obtain ⟨av, v1, v2, v3, v4, rfl, _⟩ := of_rd hv
      refine ⟨.ref av, rfl, rfl, false, rfl, iteF ?_⟩
      have hd4 := s4 _ _ hd
      have m4 : Mut (H4 D) := by
        rw [hd4]
        exact True.intro
      have stp := Stay.put m4 (.lst (ys ++ [.ref av]))
      have yl : ys.length = i := by
        rw [dpAll_len hys, List.length_map]
        have := congrArg List.length er
        rw [List.length_map, List.length_take] at this
        omega
      refine ⟨.ref D, rfl, .inl ⟨rfl, ys, SqL.of hd4⟩, .ref av, rfl, D, ys, _, rfl, rfl, hd4, small_line' (by omega), ?_⟩
      refine ⟨⟨_, _, _, rfl⟩, same_put (sm.trans s4) hD, rs ++ [r], ys ++ [.ref av], upd_same, ?_, fun r' hr' => ?_, ?_⟩
      · rw [List.map_append]
        exact dps_app12 (.cons (stp.rd hv) .nil) (((Stay.same s4).trans stp).dpAll _ _ (okDs_rd rs) hys)
      · rcases List.mem_append.mp hr' with q | q
        · exact hIs r' q
        · rw [List.mem_singleton.mp q]
          exact hr1
      · rw [List.map_append, er, take_snoc hl, ← hr2]
        rfl
    · have ok' : ∀ r, IsR r → wtS r ≠ l := fun r a b => ok ⟨r, a, b⟩
      refine .inr ⟨ok', fun H4 s4 => ?_⟩
      refine ⟨.non, rfl, rfl, true, rfl, iteT ?_⟩
      have made : ∀ {as : List Rl} {j : Nat} {u : Str}, (∀ r ∈ as, IsR r) → (as.map wtS)[j]? = some u → ∃ r, IsR r ∧ wtS r = u := fun {as j u} ha e => by
        obtain ⟨r, hr', e'⟩ := map_at e
        exact ⟨r, ha r (List.mem_of_getElem? hr'), e'.symm⟩
      refine ⟨.int ((i + 1 : Nat) : Int), rfl, err_made fun dx hdx => ?_⟩
      have all := s1.trans (sm.trans s4)
      rcases h with ⟨e, _⟩ | ⟨ez, rs2, e2, i2, _⟩ | ⟨ez, i0, rs2, l0, hl0, e2, i2, no, q⟩
      · rw [w1 e] at hl
        exact absurd hl (by simp)
      · rw [w2 ez] at hl
        obtain ⟨r, a, b⟩ := made (j := i) (u := l) i2 (by rw [e2]; exact hl)
        exact absurd b (ok' r a)
      · rw [w2 ez] at hl er
        have : i = i0 := by
          by_cases c1 : i0 < i
          · obtain ⟨r, a, b⟩ := made (j := i0) (u := l0) hIs (by rw [er, List.getElem?_take_of_lt c1]; exact hl0)
            exact absurd b (no r a)
          · by_cases c2 : i < i0
            · obtain ⟨r, a, b⟩ := made (j := i) (u := l) i2 (by rw [e2, List.getElem?_take_of_lt c2]; exact hl)
              exact absurd b (ok' r a)
            · omega
        subst this
        exact q _ dx all hdx
  · obtain ⟨⟨y4, y5, y6, rfl⟩, sm, rs, ys, hd, hys, hIs, er⟩ := hI
    rw [List.length_map, List.take_length] at er
    have rl : rs.length = W1.length := by
      have := congrArg List.length er
      rw [List.length_map] at this
      exact this
    have all := s1.trans sm
    refine ⟨rfl, .ref D, rfl, D, ys, rfl, .inr (SqL.of hd), made_ok (C := C) hys hIs (by omega) fun H' v S s2 hS hl hv => ?_⟩
    rcases h with ⟨e, q⟩ | ⟨ez, rs2, e2, i2, q⟩ | ⟨ez, i0, rs2, l0, hl0, e2, i2, no, q⟩
    · obtain rfl : rs = [] := by
        rw [w1 e] at er
        exact List.map_eq_nil_iff.mp er
      obtain rfl : S = [] := List.eq_nil_iff_forall_not_mem.mpr fun r hr => nomatch (hS.mem r).mp hr
      exact q H' v (all.trans s2) hv
    · rw [w2 ez] at er
      obtain rfl := wtS_injs i2 hIs (e2.trans er.symm)
      exact q H' v S (all.trans s2) hS hl hv
    · rw [w2 ez] at er
      obtain ⟨r, hr', e'⟩ := map_at (show (rs.map wtS)[i0]? = some l0 by rw [er]; exact hl0)
      exact absurd e'.symm (no r (hIs r (List.mem_of_getElem? hr')))
end
end Rw
namespace Rw
open PySem PySem.Spec PyProof.Rows L2 ClX
/-! ### C.m(x), m a classmethod, inside a try -/
section
variable {X : Cx} {CX : CXT} {k : Nat} {C p g : Addr} {mc : Value} {sp : Sp} {E : L2.St → XK} {o e : Expr} {es : List Expr} {m : Str} {pos apos : Pos} {ta : TE} {t : TA} {pl : Sem Bool}
theorem run_cmS {pins : List (Addr × Obj)} {σ : L2.St} {H : Hp} {s : Shared} {q : Addr} {Q : VK} {us : List Value} {vs : List V} (F : FnR X.prog X.w X.K X.mg X.base CX k g sp) (hr : Room k X.A) (hx : PassesAt CX X σ (E σ))
    (I : Inv X ((q, PySem.W.methodObj (.ref g) (.ref C)) :: pins) σ H s) (r : Vals vs us) (h : sp (.ref C :: vs) H Q (E σ)) : wpAny (model X.prog X.w) X.A (call (.ref q) us) (EP X pins σ Q) X.xe s := by
  have z : wpAny (model X.prog X.w) X.A (call (.ref q) us) (EP X ((q, PySem.W.methodObj (.ref g) (.ref C)) :: pins) σ Q) X.xe s := by
    refine wpAny_call (PySem.W.method_call (pin_at I) (codeAny_mono (F X.A X.stack s H (.ref C :: us) (.ref C :: vs) Q (E σ) hr I.env0 (.cons rfl r) h) fun r s' hq => ?_))
    cases r with
    | error e => exact hx _ H s e s' I hq
    | ok fl =>
      cases fl with
      | ret u => exact I.after hq
      | next => exact False.elim hq
      | brk => exact False.elim hq
      | cont => exact False.elim hq
  exact thn z fun _ _ y => unpinE y
def tCMethS (C : Addr) (sp : Sp) (E : L2.St → XK) (ta : TE) (t : TA) : TE := fun σ H Q => ta σ H fun x H1 => x = .ref C ∧ t σ H1 fun vs H2 => sp (.ref C :: vs) H2 Q (E σ)
theorem pe_cmethS (he : PE X o ta) (r : ClX.CRead X.K C mc) (c : ClX.CMet X.K C mc m p g) (F : FnR X.prog X.w X.K X.mg X.base CX k g sp) (hr : Room k X.A) (hx : ∀ σ, PassesAt CX X σ (E σ)) (ha : PA X (e :: es) t)
    (hst : starEach (e :: es) X.env = (false, eval e X.env) :: starEach es X.env := by rfl) (hpl : ((backTo pos (starEach es X.env)).any fun x => x.1) = false := by rfl)
    (ht : eval (.Call (.Attribute o m apos) (e :: es) [] pos) X.env = (do
      let ov ← eval o X.env
      standAt apos.atName
      let (f, first) ← holding [ov] (getMethod ov m pl)
      callWith pos f first (backTo pos (starEach (e :: es) X.env)) (backToKw pos (keywordEach [] X.env))) := by rfl) :
    PE X (.Call (.Attribute o m apos) (e :: es) [] pos) (tCMethS C sp E ta t) := by
  refine ⟨fun pins s σ H Q I h => ?_⟩
  refine PySem.W.methodCall_KW (pl := pl) (thn (he.run pins s σ H _ I h) fun u s1 ⟨x, H1, I1, rx, ex, q⟩ => ?_) ht
  subst ex
  obtain rfl : u = Value.ref C := rx
  refine ClX.getmethcm_ok I1 r c fun s2 I2 => ?_
  refine ClX.callwith_cm I2 (base_none I1 (Nat.le_refl _)) c.fi (thn (ha.run pos _ s2 σ H1 _ I2 q) fun us s3 ⟨vs, H2, I3, rv, q2⟩ => ⟨⟨pin_at I3, I3.kIn⟩, ?_⟩) hst hpl
  exact run_cmS F hr (hx σ) I3 rv q2
end
/-! ### _law_asked -/
structure ErrU (K : PySem.W.Frag) (mg : Str → Option Value) (CU CE : Addr) : Prop where
  mU : mg "Unreadable" = some (.ref CU)
  mE : mg "RuleError" = some (.ref CE)
  eU : PySem.W.exmOne K (.ref CU) (.ref CE) = some true
  cU : ExcC K CU
  nU : PySem.W.findIn K (.ref CU) "line" = some none
  iUU : PySem.W.kitOne K (.ref CU) (.ref CU) = some true
  i0U : PySem.W.kitOne K (.type "NoneType") (.ref CU) = some false
theorem xfU {K : PySem.W.Frag} {C : Addr} (h : ExcC K C) : XfC K C := ⟨h.hg, h.hk, h.hs, h.hd⟩
theorem scLawAsked : FnScope ["words", "error", "told", "caught"] ["words"] (defScope sLawAsked) := ⟨rfl, rfl, rfl, by decide +kernel, rfl, by decide +kernel, by decide +kernel⟩
/-- what is told of a text: the rules of its lines, or the first line that is none -/
def Told (K : PySem.W.Frag) (z : Str) (H : Hp) (Q : VK) : Prop :=
  ((z = Str.empty ∧ ∀ H' p t, Same H H' → H' p = some (.lst [.str "rules", .ref t]) → SqT K H' t [] → Q (.ref p) H') ∨
   (z ≠ Str.empty ∧ ∃ rs : List Rl, rs.map wtS = Txt.split z sNl ∧ (∀ r ∈ rs, IsR r) ∧ ∀ H' p t S ys, Same H H' → H' p = some (.lst [.str "rules", .ref t]) → SqT K H' t ys → DpAll K H' ys (S.map rd) → Srt S rs → Q (.ref p) H') ∨
   (z ≠ Str.empty ∧ ∃ (i : Nat) (rs : List Rl) (l : Str), (Txt.split z sNl)[i]? = some l ∧ rs.map wtS = (Txt.split z sNl).take i ∧ (∀ r ∈ rs, IsR r) ∧ (∀ r, IsR r → wtS r ≠ l) ∧ ∀ H' p, Same H H' → H' p = some (.lst [.str "line", .int ((i : Int) + 1)]) → Q (.ref p) H'))
section
variable {P : Program} {w : World} {K : PySem.W.Frag} {mg : Str → Option Value} {base : Heap} {f : Addr} {fd : FuncData} {k : Nat}
def spLawAsked (K : PySem.W.Frag) : Sp := fun vs H Q _ => ∃ x, vs = [x] ∧ ((NotT K H x "str" ∧ ∀ H' p, Same H H' → H' p = some (.lst [.str "line", .int 0]) → Q (.ref p) H') ∨
  ∃ z : Str, x = .str z ∧ z.length ≤ 8900 ∧ (Txt.split z sNl).length < 76 ∧ (∀ l ∈ Txt.split z sNl, FewZ l) ∧ Told K z H Q)
theorem ok_lawAsked {C CU CE pR gR pP fP : Addr} {mc : Value} {fdP : FuncData} (F : Fun K "_law_asked" "_law_asked" sLawAsked f fd) (T : Bl mg) (E : ErrU K mg CU CE) (mP : mg "Program" = some (.ref C)) (c : Cls K C)
    (cr : ClX.CRead K C mc) (cm : ClX.CMet K C mc "read" pR gR) (GR : FnR P w K mg base (L2.CX P w) (k + 1) gR (spRead K C CU))
    (hpR : PropOf K C "rules" pP fP) (GP : FnOk P w K mg base CX0 k fP fdP ["self"] (spRules K C)) (bP : Binds K fdP ["self"] []) :
    FnOk P w K mg base CX0 (k + 2) f fd ["words"] (spLawAsked K) := by
  refine F.ok scLawAsked (fun vs H Q E h => ?_) (fun cdv A outer s H vs Q E' hr h => ?_)
  · obtain ⟨x, rfl, h⟩ := h
    rfl
  obtain ⟨x, rfl, h⟩ := h
  refine ⟨_, pss_cons (ps_set (i := 1) scLawAsked.nd rfl (.inl rfl) pe_non)
    (pss_cons (ps_set (i := 2) scLawAsked.nd rfl (.inl rfl) pe_non)
    (pss_mid (ps_try_keep (i := 3) (j := 1) rfl rfl scLawAsked.nd rfl rfl ⟨rfl, by decide, .inl E.mE⟩ rfl rfl rfl rfl (by decide) (by decide) (by rfl) (fun W pn xe tk po =>
        pss_one (ps_set (i := 2) scLawAsked.nd rfl (.inl rfl) (pe_cmethS (pe_glob (v := .ref C) (by rfl) mP rfl) cr cm GR hr (fun σ => passAt tk σ) (pa_cons (pv 0) pa_nil)))))
    (pss_cons (ps_if (pt_cmpR op_isN (pv 1) pe_non (nomark _)) (pss_one (ps_ret (pe_lst (pa_cons pe_str (pa_cons (pe_prop (pv 2) c hpR GP hr bP .nil pass0 rfl) pa_nil))))) pss_nil)
    (pss_one (ps_ret (pe_lst (pa_cons pe_str (pa_cons (pe_ix (r := rIxL K) ix_list (pe_lst (pa_cons pe_non (pa_cons (pe_fldH (xfU E.cU) E.nU (pv 1)) pa_nil)))
      (pe_callTy call_int1 (by rfl) T.int (by decide +kernel) (pa_cons (pe_callB call_isH (by rfl) T.isi PyProof.Rows.boot_isinstance (pa_cons (pv 1) (pa_cons (pe_glob (v := .ref CU) (by rfl) E.mU rfl) pa_nil))) pa_nil)) (fun _ _ => rfl)) pa_nil)))))))), ?_⟩
  let R : L2.St → Hp → Prop := fun σ H' => (∃ v S, σ = [some x, some .non, some v, none] ∧ PgAt K C H' v S ∧ ∀ H2 p t ys, Same H' H2 → H2 p = some (.lst [.str "rules", .ref t]) → SqT K H2 t ys → DpAll K H2 ys (S.map rd) → Q (.ref p) H2) ∨
    (∃ (a dd : Addr) (n : Int), σ = [some x, some (.ref a), some .non, none] ∧ H' a = some (ExH (.ref CU) (some dd) a) ∧ H' dd = some (.xd [(("line" : Str), .int n)]) ∧ ∀ H2 p, Same H' H2 → H2 p = some (.lst [.str "line", .int n]) → Q (.ref p) H2)
  have bad : ∀ n : Int, (∀ H2 p, Same H H2 → H2 p = some (.lst [.str "line", .int n]) → Q (.ref p) H2) → Unr (fun cls d H' => PySem.W.exmOne K cls (.ref CE) = some true ∧ ∀ a, H' a = none → R [some x, some (.ref a), some .non, none] (upd H' a (ExH cls d a))) CU H n := fun n q H1 dx s1 hdx => by
    refine ⟨E.eU, fun a ha => .inr ⟨a, dx, n, rfl, upd_same, (same_new ha _) _ _ upd_same, fun H2 p s2 => q H2 p (s1.trans ((same_new hdx _).trans ((same_new ha _).trans s2)))⟩⟩
  refine ⟨R, ?_, fun σ' H' hI => ?_⟩
  · refine ⟨rfl, x, rfl, ?_⟩
    dsimp only [tNil]
    refine ⟨x, rfl, ?_⟩
    rcases h with ⟨hN, q⟩ | ⟨z, rfl, hz, few, fz, h⟩
    · exact .inl ⟨hN, bad 0 q⟩
    · refine .inr ⟨z, rfl, hz, few, fz, ?_⟩
      rcases h with ⟨e, q⟩ | ⟨ez, rs, e, i, q⟩ | ⟨ez, i, rs, l, hl, e, hI, no, q⟩
      · exact .inl ⟨e, fun H1 v s1 hv => .inl ⟨v, [], rfl, hv, fun H2 p t ys s2 hp ht hy => q H2 p t (s1.trans s2) hp (by cases hy; exact ht)⟩⟩
      · exact .inr (.inl ⟨ez, rs, e, i, fun H1 v S s1 hS _ hv => .inl ⟨v, S, rfl, hv, fun H2 p t ys s2 hp ht hy => q H2 p t S ys (s1.trans s2) hp ht hy hS⟩⟩)
      · exact .inr (.inr ⟨ez, i, rs, l, hl, e, hI, no, bad _ q⟩)
  · rcases hI with ⟨v, S, rfl, hv, q⟩ | ⟨a, dd, n, rfl, ha, hd, q⟩
    · refine ⟨.non, rfl, rfl, true, congrArg V.bl (decide_eq_true rfl), iteT ?_⟩
      obtain ⟨pa, dx, t0, ys0, rfl, h1, h2, h3⟩ := id hv
      refine ⟨.ref pa, rfl, pa, dx, _, rfl, h1, .ref pa, S, rfl, hv, fun t ys ht hy => ?_⟩
      refine ⟨by show 2 ≤ sizeLine; decide, fun p hp => ?_⟩
      have sp := same_new hp (.lst [.str "rules", .ref t])
      exact q _ p t ys sp upd_same (same_tup sp ht) (dpAll_same sp _ _ hy)
    · refine ⟨.ref a, rfl, rfl, false, congrArg V.bl (decide_eq_false fun z => nomatch z), iteF ?_⟩
      have fld : ∀ u : Str, ([(u, V.int n)] : List (Str × V)).lookup u = some (V.int n) := fun u => by
        rw [List.lookup_cons, beq_self_eq_true]
      refine ⟨.ref a, rfl, a, dd, _, V.int n, rfl, ha, hd, fld _, by show 2 ≤ sizeLine; decide, fun l hl => ?_⟩
      have sl := same_new hl (.lst [.non, .int n])
      refine ⟨.ref a, rfl, .ref a, .ref _, .ref _, rfl, fun v r => r, .inr ⟨a, _, dd, _, true, rfl, sl _ _ ha, sl _ _ hd, E.cU, E.iUU, ?_⟩⟩
      refine .inr ⟨true, rfl, ?_⟩
      refine ⟨l, [.non, .int n], 1, .int n, rfl, rfl, SqL.of upd_same, rfl, ?_⟩
      refine ⟨by show 2 ≤ sizeLine; decide, fun p hp => ?_⟩
      exact q _ p (sl.trans (same_new hp _)) upd_same
end
end Rw
namespace Rw
open PySem PySem.Spec PyProof.Rows L2
/-! ### how often a sign stands in a text -/
def cnt (c : Nat) (z : Str) : Nat := z.cps.toList.count c
theorem cnt_app (c : Nat) (a b : Str) : cnt c (a ++ b) = cnt c a + cnt c b := by
  unfold cnt
  rw [app_cps, List.count_append]
theorem cnt_sub {c : Nat} {a b : Str} (h : List.Sublist a.cps.toList b.cps.toList) : cnt c a ≤ cnt c b := h.count_le c
theorem cut_sub (u : Str) (lo hi : Option Int) : List.Sublist (cutS u lo hi).cps.toList u.cps.toList := (List.take_sublist _ _).trans (List.drop_sublist _ _)
theorem strSub_sub (u : Str) (i j : Nat) : List.Sublist (Builtin.Str.strSub u i j).cps.toList u.cps.toList := by
  rw [strSub_list]
  exact (List.take_sublist _ _).trans (List.drop_sublist _ _)
theorem places_le (c p : Nat) : ∀ (L : Sg) (m : Nat), ((List.range m).filter fun i => L[i + p]? == some c).length ≤ L.count c := by
  intro L
  induction L generalizing p with
  | nil =>
    intro m
    rw [List.filter_eq_nil_iff.mpr fun i _ => by simp]
    exact Nat.zero_le _
  | cons a L ih =>
    intro m
    cases p with
    | succ p =>
      have e : ((List.range m).filter fun i => (a :: L)[i + (p + 1)]? == some c) = (List.range m).filter fun i => L[i + p]? == some c := List.filter_congr fun i _ => by
        rw [← Nat.add_assoc, List.getElem?_cons_succ]
      rw [e]
      exact Nat.le_trans (ih p m) (by rw [List.count_cons]; omega)
    | zero =>
      cases m with
      | zero => exact Nat.zero_le _
      | succ m =>
        rw [List.range_succ_eq_map, List.filter_cons, List.filter_map, List.count_cons]
        have e : ((List.range m).filter ((fun i => (a :: L)[i + 0]? == some c) ∘ Nat.succ)) = (List.range m).filter fun i => L[i + 0]? == some c := List.filter_congr fun i _ => by
          show ((a :: L)[i + 1]? == some c) = _
          rw [List.getElem?_cons_succ]
          rfl
        rw [e]
        have h := ih 0 m
        have z : ((a :: L)[0 + 0]? == some c) = (a == c) := by simp
        rw [z]
        split
        · rename_i h1
          rw [List.length_cons, List.length_map]
          omega
        · rename_i h1
          rw [List.length_map]
          omega
theorem occ_cnt {s sub : Str} {c p : Nat} (hp : sub.cps.toList[p]? = some c) (hi limit : Nat) : (Builtin.Str.occurrences s sub 0 hi limit).length ≤ cnt c s := by
  rw [occ_fold, Array.length_toList]
  have key : ∀ m, ((List.range m).foldl (occStep s sub hi limit) (#[], 0)).1.size ≤ ((List.range m).filter fun i => s.cps.toList[i + p]? == some c).length := by
    intro m
    induction m with
    | zero => exact Nat.le_refl _
    | succ m ih =>
      rw [List.range_succ, List.foldl_append, List.filter_append, List.length_append]
      show (occStep s sub hi limit _ m).1.size ≤ _
      generalize (List.range m).foldl (occStep s sub hi limit) (#[], 0) = st at ih ⊢
      unfold occStep
      split
      · rename_i h
        simp only [Bool.and_eq_true, decide_eq_true_iff] at h
        have h2 := subAt_iff.mp h.2
        have pl : p < sub.length := by
          rw [len_list]
          exact (List.getElem?_eq_some_iff.mp hp).1
        have h3 : s.cps.toList[m + p]? = some c := by
          have z : ((s.cps.toList.drop m).take sub.length)[p]? = some c := by rw [h2]; exact hp
          rwa [List.getElem?_take_of_lt pl, List.getElem?_drop] at z
        show (st.1.push m).size ≤ _
        rw [Array.size_push, List.filter_cons_of_pos (by rw [h3]; simp)]
        simp only [List.filter_nil, List.length_singleton]
        omega
      · omega
  exact Nat.le_trans (key (hi + 1)) (places_le c p _ _)
theorem split_cnt {s sub : Str} {c p : Nat} (hp : sub.cps.toList[p]? = some c) : (Txt.split s sub).length ≤ cnt c s + 1 := by
  have h := occ_cnt (s := s) hp s.length (s.length + 1)
  unfold Txt.split
  split
  · show 1 ≤ _
    omega
  · split
    · show 1 ≤ _
      omega
    · unfold Builtin.Str.partsBetween
      rw [List.length_map, List.length_zip, List.length_cons, List.length_map]
      omega
theorem split_sub {s sub u : Str} (h : u ∈ Txt.split s sub) : List.Sublist u.cps.toList s.cps.toList := by
  unfold Txt.split at h
  split at h
  · rw [List.mem_singleton.mp h]
    exact List.Sublist.refl _
  · split at h
    · rw [List.mem_singleton.mp h]
      exact List.Sublist.refl _
    · unfold Builtin.Str.partsBetween at h
      obtain ⟨x, _, rfl⟩ := List.mem_map.mp h
      exact strSub_sub _ _ _
theorem or_mark : sOr.cps.toList[1]? = some 124 := by rw [sOr_l]; rfl
theorem co_mark : sCo.cps.toList[0]? = some 44 := by rw [sCo_l]; rfl
theorem nl_l : sNl.cps.toList = [10] := by decide +kernel
theorem nl_mark : sNl.cps.toList[0]? = some 10 := by rw [nl_l]; rfl
theorem plS_len (l : List Str) : (plS l).length ≤ l.length := List.length_filter_le _ l
theorem ngS_len (l : List Str) : (ngS l).length ≤ l.length := by
  unfold ngS
  rw [List.length_map]
  exact List.length_filter_le _ l
theorem part_sub (u v : Str) : List.Sublist (Txt.partition u v).1.cps.toList u.cps.toList ∧ List.Sublist (Txt.partition u v).2.2.cps.toList u.cps.toList := by
  unfold Txt.partition
  split
  · exact ⟨strSub_sub _ _ _, strSub_sub _ _ _⟩
  · exact ⟨List.Sublist.refl _, List.nil_sublist _⟩
theorem halvesS_sub (l : Str) : List.Sublist (halvesS l).1.cps.toList l.cps.toList ∧ List.Sublist (halvesS l).2.cps.toList l.cps.toList := by
  unfold halvesS
  split
  · exact ⟨List.nil_sublist _, (cut_sub _ _ _).trans (cut_sub _ _ _)⟩
  · exact ⟨(part_sub _ _).1.trans (cut_sub _ _ _), (part_sub _ _).2.trans (cut_sub _ _ _)⟩
theorem halvesP_sub (l : Str) : List.Sublist (halvesP l).1.cps.toList l.cps.toList ∧ List.Sublist (halvesP l).2.cps.toList l.cps.toList := by
  unfold halvesP
  split
  · exact ⟨cut_sub _ _ _, cut_sub _ _ _⟩
  · exact ⟨cut_sub _ _ _, List.nil_sublist _⟩
theorem splS_cnt {s sub : Str} {c p : Nat} (hp : sub.cps.toList[p]? = some c) : (splS s sub).length ≤ cnt c s + 1 := by
  unfold splS
  split
  · exact Nat.zero_le _
  · exact split_cnt hp
theorem fewZ_of {l : Str} (h1 : cnt 124 l ≤ 59) (h2 : cnt 44 l ≤ 59) : FewZ l := by
  obtain ⟨s1, s2⟩ := halvesS_sub l
  have a := Nat.le_trans (splS_cnt (s := (halvesS l).1) or_mark) (Nat.add_le_add_right (cnt_sub s1) 1)
  have b := Nat.le_trans (splS_cnt (s := (halvesS l).2) co_mark) (Nat.add_le_add_right (cnt_sub s2) 1)
  have p1 := plS_len (splS (halvesS l).1 sOr)
  have p2 := ngS_len (splS (halvesS l).1 sOr)
  have p3 := plS_len (splS (halvesS l).2 sCo)
  have p4 := ngS_len (splS (halvesS l).2 sCo)
  refine ⟨?_, ?_, ?_, ?_⟩
  · show (plS (splS (halvesS l).1 sOr)).length ≤ 60
    omega
  · show (ngS (splS (halvesS l).1 sOr)).length ≤ 60
    omega
  · show (plS (splS (halvesS l).2 sCo)).length ≤ 60
    omega
  · show (ngS (splS (halvesS l).2 sCo)).length ≤ 60
    omega
theorem fewP_of {l : Str} (h1 : cnt 124 l ≤ 59) (h2 : cnt 44 l ≤ 59) : FewP l := by
  obtain ⟨s1, s2⟩ := halvesP_sub l
  have a0 : (splP l (halvesP l).1).length ≤ cnt 124 (halvesP l).1 + 1 := by
    unfold splP
    split
    · exact Nat.zero_le _
    · exact split_cnt or_mark
  have b0 : (splQ (halvesP l).2).length ≤ cnt 44 (halvesP l).2 + 1 := by
    unfold splQ
    split
    · exact Nat.zero_le _
    · exact split_cnt co_mark
  have a := Nat.le_trans a0 (Nat.add_le_add_right (cnt_sub s1) 1)
  have b := Nat.le_trans b0 (Nat.add_le_add_right (cnt_sub s2) 1)
  have p1 := plS_len (splP l (halvesP l).1)
  have p2 := ngS_len (splP l (halvesP l).1)
  have p3 := plS_len (splQ (halvesP l).2)
  have p4 := ngS_len (splQ (halvesP l).2)
  refine ⟨?_, ?_, ?_, ?_⟩
  · show (plS (splP l (halvesP l).1)).length ≤ 60
    omega
  · show (ngS (splP l (halvesP l).1)).length ≤ 60
    omega
  · show (plS (splQ (halvesP l).2)).length ≤ 60
    omega
  · show (ngS (splQ (halvesP l).2)).length ≤ 60
    omega
/-- a text of few lines and words, bent n times -/
structure Fit (n : Nat) (z : Str) : Prop where
  len : z.length ≤ 2000 + 4 * n
  co : cnt 44 z ≤ 54 + n
  ba : cnt 124 z ≤ 54 + n
  nl : cnt 10 z ≤ 5 + n
theorem Fit.up {n m : Nat} {z : Str} (h : Fit n z) (e : n ≤ m) : Fit m z := ⟨by have := h.len; omega, by have := h.co; omega, by have := h.ba; omega, by have := h.nl; omega⟩
theorem Fit.lines {n : Nat} {z : Str} (h : Fit n z) (e : n ≤ 5) : z.length ≤ 8900 ∧ (Txt.split z sNl).length < 76 ∧ (∀ l ∈ Txt.split z sNl, FewZ l) ∧ ∀ l ∈ Txt.split z sNl, FewP l := by
  have s := split_cnt (s := z) nl_mark
  have h1 := h.len
  have h2 := h.co
  have h3 := h.ba
  have h4 := h.nl
  have c1 : ∀ l ∈ Txt.split z sNl, cnt 124 l ≤ 59 := fun l hl => Nat.le_trans (cnt_sub (split_sub hl)) (by omega)
  have c2 : ∀ l ∈ Txt.split z sNl, cnt 44 l ≤ 59 := fun l hl => Nat.le_trans (cnt_sub (split_sub hl)) (by omega)
  exact ⟨by omega, by omega, fun l hl => fewZ_of (c1 l hl) (c2 l hl), fun l hl => fewP_of (c1 l hl) (c2 l hl)⟩
/-- a small sign -/
def SmallS (s : Str) : Prop := s.length ≤ 4 ∧ cnt 44 s ≤ 1 ∧ cnt 124 s ≤ 1 ∧ cnt 10 s ≤ 1
theorem Fit.bend {n : Nat} {z s : Str} {a b : Str} (h : Fit n z) (hs : SmallS s) (hab : List.Sublist (a.cps.toList ++ b.cps.toList) z.cps.toList) : Fit (n + 1) (a ++ s ++ b) := by
  obtain ⟨s1, s2, s3, s4⟩ := hs
  have k : ∀ c, cnt c (a ++ s ++ b) ≤ cnt c z + cnt c s := fun c => by
    have := hab.count_le c
    rw [List.count_append] at this
    rw [cnt_app, cnt_app]
    unfold cnt
    omega
  have l1 : (a ++ s ++ b).length ≤ z.length + s.length := by
    have := hab.length_le
    rw [List.length_append] at this
    rw [len_list, app_cps, app_cps, List.length_append, List.length_append, len_list z, len_list s]
    omega
  have := h.len
  have := h.co
  have := h.ba
  have := h.nl
  have k1 := k 44
  have k2 := k 124
  have k3 := k 10
  exact ⟨by omega, by omega, by omega, by omega⟩
/-! what a written program holds of each sign -/
theorem cnt_jn {sep : Sg} {c k : Nat} (hs : sep.count c ≤ k) : ∀ ws : List Sg, (jn sep ws).count c ≤ k * (ws.length - 1) + (ws.map fun w => w.count c).sum
  | [] => Nat.zero_le _
  | [w] => by
    show w.count c ≤ k * 0 + (w.count c + 0)
    omega
  | w :: v :: ws => by
    have ih := cnt_jn hs (v :: ws)
    show (w ++ (sep ++ jn sep (v :: ws))).count c ≤ k * ((w :: v :: ws).length - 1) + (w.count c + ((v :: ws).map fun w => w.count c).sum)
    rw [List.count_append, List.count_append]
    have e1 : (w :: v :: ws).length - 1 = ((v :: ws).length - 1) + 1 := by simp
    rw [e1, Nat.mul_add, Nat.mul_one]
    omega
theorem sum_zero {ws : List Sg} {c : Nat} (h : ∀ w ∈ ws, c ∉ w) : (ws.map fun w => w.count c).sum = 0 := by
  induction ws with
  | nil => rfl
  | cons w ws ih =>
    obtain ⟨h1, h2⟩ := List.forall_mem_cons.mp h
    rw [List.map_cons, List.sum_cons, ih h2, List.count_eq_zero_of_not_mem h1]
/-- a rule over five names -/
def Sm5 (r : Rl) : Prop := r.1.length ≤ 5 ∧ r.2.1.length ≤ 5 ∧ r.2.2.1.length ≤ 5 ∧ r.2.2.2.length ≤ 5
theorem wn_len (a b : W) : (wn (wL a) (wL b)).length = a.length + b.length := by
  unfold wn wL
  simp
theorem wt_cnt {r : Rl} (hn : NmR r) (h5 : Sm5 r) : cnt 44 (wtS r) ≤ 9 ∧ cnt 124 (wtS r) ≤ 9 ∧ cnt 10 (wtS r) = 0 := by
  obtain ⟨n1, n2, n3, n4⟩ := hn
  obtain ⟨l1, l2, l3, l4⟩ := h5
  have f : ∀ c, letter c = false → c ≠ 32 → (frL r).count c ≤ sOr.cps.toList.count c * 9 := fun c hc h32 => by
    have h := cnt_jn (sep := sOr.cps.toList) (c := c) (Nat.le_refl _) (wn (wL r.1) (wL r.2.1))
    rw [sum_zero (wn_no n1 n2 hc h32), wn_len] at h
    exact Nat.le_trans h (Nat.mul_le_mul_left _ (by omega))
  have b : ∀ c, letter c = false → c ≠ 32 → (bkL r).count c ≤ sCo.cps.toList.count c * 9 := fun c hc h32 => by
    have h := cnt_jn (sep := sCo.cps.toList) (c := c) (Nat.le_refl _) (wn (wL r.2.2.1) (wL r.2.2.2))
    rw [sum_zero (wn_no n3 n4 hc h32), wn_len] at h
    exact Nat.le_trans h (Nat.mul_le_mul_left _ (by omega))
  have w : ∀ c, c ≠ 58 → c ≠ 45 → c ≠ 46 → c ≠ 32 → cnt c (wtS r) ≤ (frL r).count c + (bkL r).count c := fun c h1 h2 h3 h4 => by
    have k : ∀ l : Sg, (∀ x ∈ l, x = 58 ∨ x = 45 ∨ x = 46 ∨ x = 32) → l.count c = 0 := fun l hl => List.count_eq_zero_of_not_mem fun z => by
      rcases hl c z with e | e | e | e
      · exact h1 e
      · exact h2 e
      · exact h3 e
      · exact h4 e
    show (wtL r).count c ≤ _
    unfold wtL
    split
    · split
      · rw [k _ (by decide)]
        exact Nat.zero_le _
      · rw [List.count_append, k [46] (by decide)]
        omega
    · split
      · rw [List.count_append, List.count_append, k [46] (by decide), k [58, 45, 32] (by decide)]
        omega
      · rw [List.count_append, List.count_append, List.count_append, k [46] (by decide), k [32, 58, 45, 32] (by decide)]
        omega
  have c1 : sOr.cps.toList.count 44 = 0 ∧ sOr.cps.toList.count 124 = 1 ∧ sOr.cps.toList.count 10 = 0 := by rw [sOr_l]; decide
  have c2 : sCo.cps.toList.count 44 = 1 ∧ sCo.cps.toList.count 124 = 0 ∧ sCo.cps.toList.count 10 = 0 := by rw [sCo_l]; decide
  obtain ⟨c11, c12, c13⟩ := c1
  obtain ⟨c21, c22, c23⟩ := c2
  have f1 := f 44 (by decide +kernel) (by decide)
  have f2 := f 124 (by decide +kernel) (by decide)
  have f3 := f 10 (by decide +kernel) (by decide)
  have b1 := b 44 (by decide +kernel) (by decide)
  have b2 := b 124 (by decide +kernel) (by decide)
  have b3 := b 10 (by decide +kernel) (by decide)
  rw [c11] at f1
  rw [c12] at f2
  rw [c13] at f3
  rw [c21] at b1
  rw [c22] at b2
  rw [c23] at b3
  have w1 := w 44 (by decide) (by decide) (by decide) (by decide)
  have w2 := w 124 (by decide) (by decide) (by decide) (by decide)
  have w3 := w 10 (by decide) (by decide) (by decide) (by decide)
  exact ⟨by omega, by omega, by omega⟩
theorem wt_len5 {r : Rl} (h : IsR r) (h5 : Sm5 r) : (wtS r).length ≤ 310 := by
  obtain ⟨i1, i2, i3, i4⟩ := h
  obtain ⟨f1, f2, f3, f4⟩ := h5
  have l3 : sOr.length = 3 := by decide +kernel
  have l2 : sCo.length = 2 := by decide +kernel
  have lf : (frL r).length ≤ 15 * (r.1.length + r.2.1.length) := by
    rw [← frS_list, ← len_list]
    exact half_len (by rw [l3]; decide) i1 i2
  have lb : (bkL r).length ≤ 15 * (r.2.2.1.length + r.2.2.2.length) := by
    rw [← bkS_list, ← len_list]
    exact half_len (by rw [l2]; decide) i3 i4
  rw [len_list]
  show (wtL r).length ≤ 310
  unfold wtL
  split
  · split
    · show 3 ≤ 310
      decide
    · rw [List.length_append]
      show _ + 1 ≤ _
      omega
  · split
    · simp only [List.length_append, List.length_cons, List.length_nil]
      omega
    · simp only [List.length_append, List.length_cons, List.length_nil]
      omega
theorem len_jn (sep : Sg) (k : Nat) (hs : sep.length ≤ k) : ∀ ws : List Sg, (jn sep ws).length ≤ k * ws.length + (ws.map fun w => w.length).sum
  | [] => Nat.zero_le _
  | [w] => by
    show w.length ≤ k * 1 + (w.length + 0)
    omega
  | w :: v :: ws => by
    have ih := len_jn sep k hs (v :: ws)
    show (w ++ (sep ++ jn sep (v :: ws))).length ≤ k * ((v :: ws).length + 1) + (w.length + ((v :: ws).map fun w => w.length).sum)
    rw [List.length_append, List.length_append, Nat.mul_add, Nat.mul_one]
    omega
theorem sum_le {α : Type} {f : α → Nat} {k : Nat} {l : List α} (h : ∀ x ∈ l, f x ≤ k) : (l.map f).sum ≤ k * l.length := by
  induction l with
  | nil => exact Nat.zero_le _
  | cons x l ih =>
    obtain ⟨h1, h2⟩ := List.forall_mem_cons.mp h
    rw [List.map_cons, List.sum_cons, List.length_cons, Nat.mul_add, Nat.mul_one]
    have := ih h2
    omega
theorem fit_all {L : List Rl} (hI : ∀ r ∈ L, IsR r) (h5 : ∀ r ∈ L, Sm5 r) (hl : L.length ≤ 6) : Fit 0 (wtAll L) := by
  have e : (wtAll L).cps.toList = jn [10] (L.map wtL) := by
    show (Txt.join sNl (L.map wtS)).cps.toList = _
    rw [join_list, nl_l, List.map_map]
    rfl
  have cc : ∀ c m, (∀ r ∈ L, (wtL r).count c ≤ m) → cnt c (wtAll L) ≤ [10].count c * 5 + m * 6 := fun c m hm => by
    unfold cnt
    rw [e]
    have h := cnt_jn (sep := [10]) (c := c) (Nat.le_refl _) (L.map wtL)
    have s := sum_le (f := fun w : Sg => w.count c) (k := m) (l := L.map wtL) fun w hw => by
      obtain ⟨r, hr, rfl⟩ := List.mem_map.mp hw
      exact hm r hr
    rw [List.length_map] at h s
    have a1 : [10].count c * (L.length - 1) ≤ [10].count c * 5 := Nat.mul_le_mul_left _ (by omega)
    have a2 : m * L.length ≤ m * 6 := Nat.mul_le_mul_left _ hl
    omega
  have w := fun r hr => wt_cnt (nmr_of (hI r hr)) (h5 r hr)
  refine ⟨?_, ?_, ?_, ?_⟩
  · rw [len_list, e]
    have h := len_jn [10] 1 (by decide) (L.map wtL)
    have s := sum_le (f := fun w : Sg => w.length) (k := 310) (l := L.map wtL) fun w hw => by
      obtain ⟨r, hr, rfl⟩ := List.mem_map.mp hw
      have := wt_len5 (hI r hr) (h5 r hr)
      rw [len_list] at this
      exact this
    rw [List.length_map] at h s
    omega
  · have := cc 44 9 fun r hr => (w r hr).1
    have z : [10].count 44 = 0 := by decide
    rw [z] at this
    omega
  · have := cc 124 9 fun r hr => (w r hr).2.1
    have z : [10].count 124 = 0 := by decide
    rw [z] at this
    omega
  · have := cc 10 0 fun r hr => Nat.le_of_eq (w r hr).2.2
    have z : [10].count 10 = 1 := by decide
    rw [z] at this
    omega
/-- the lines of a written program -/
theorem split_all {L : List Rl} (hI : ∀ r ∈ L, IsR r) (h5 : ∀ r ∈ L, Sm5 r) (ne : L ≠ []) : Txt.split (wtAll L) sNl = L.map wtS := by
  have e : (wtAll L).cps.toList = jn sNl.cps.toList (L.map wtL) := by
    show (Txt.join sNl (L.map wtS)).cps.toList = _
    rw [join_list, List.map_map]
    rfl
  have h := split_join (s := wtAll L) (sub := sNl) (ws := L.map wtL) (c := 10) (p := 0) e (by rw [Ne, List.map_eq_nil_iff]; exact ne) nl_mark (fun q hq => by
    rw [nl_l] at hq
    match q, hq with
    | 0, _ => rfl
    | q + 1, hq => cases hq) (fun w hw z => by
      obtain ⟨r, hr, rfl⟩ := List.mem_map.mp hw
      have := (wt_cnt (nmr_of (hI r hr)) (h5 r hr)).2.2
      have z2 : 0 < (wtL r).count 10 := List.count_pos_iff.mpr z
      have : (wtL r).count 10 = 0 := this
      omega) (by decide +kernel)
  rw [h, List.map_map]
  rfl
theorem wtL_ne (r : Rl) : wtL r ≠ [] := by
  unfold wtL
  split
  · split <;> simp
  · split <;> simp
theorem all_ne {L : List Rl} (ne : L ≠ []) : wtAll L ≠ Str.empty := fun e => by
  have h : (wtAll L).cps.toList = jn sNl.cps.toList (L.map wtL) := by
    show (Txt.join sNl (L.map wtS)).cps.toList = _
    rw [join_list, List.map_map]
    rfl
  rw [empty_iff.mp e] at h
  have := (jn_nil (sep := sNl.cps.toList) (by rw [nl_l]; decide) (fun w hw => by
    obtain ⟨r, _, rfl⟩ := List.mem_map.mp hw
    exact wtL_ne r)).mp h.symm
  exact ne (List.map_eq_nil_iff.mp this)
/-- lines: all are rules, or the first that is none -/
theorem lines_or (ls : List Str) : (∃ rs : List Rl, rs.map wtS = ls ∧ ∀ r ∈ rs, IsR r) ∨ ∃ (i : Nat) (rs : List Rl) (l : Str), ls[i]? = some l ∧ rs.map wtS = ls.take i ∧ (∀ r ∈ rs, IsR r) ∧ ∀ r, IsR r → wtS r ≠ l := by
  induction ls with
  | nil => exact .inl ⟨[], rfl, fun _ z => nomatch z⟩
  | cons l ls ih =>
    by_cases ok : ∃ r, IsR r ∧ wtS r = l
    · obtain ⟨r, hr, e⟩ := ok
      have cons : ∀ {rs : List Rl}, (∀ r ∈ rs, IsR r) → ∀ x ∈ r :: rs, IsR x := fun h x hx => by
        rcases List.mem_cons.mp hx with rfl | hx
        · exact hr
        · exact h x hx
      rcases ih with ⟨rs, e2, h⟩ | ⟨i, rs, l0, h1, h2, h3, h4⟩
      · exact .inl ⟨r :: rs, by rw [List.map_cons, e, e2], cons h⟩
      · exact .inr ⟨i + 1, r :: rs, l0, by simpa using h1, by rw [List.map_cons, e, h2, List.take_succ_cons], cons h3, h4⟩
    · exact .inr ⟨0, [], l, rfl, rfl, (fun _ z => nomatch z), fun r a b => ok ⟨r, a, b⟩⟩
end Rw
namespace Rw
open PySem PySem.Spec PyProof.Rows L2
/-! ### the law's own defs: numbers -/
theorem scLawAt : FnScope ["script", "k"] ["script", "k"] (defScope sLawAt) := ⟨rfl, rfl, rfl, by decide +kernel, rfl, by decide +kernel, by decide +kernel⟩
theorem scLawMixed : FnScope ["cell", "k", "number"] ["cell", "k"] (defScope sLawMixed) := ⟨rfl, rfl, rfl, by decide +kernel, rfl, by decide +kernel, by decide +kernel⟩
theorem scLawPurse : FnScope ["script", "at", "cell"] ["script", "at"] (defScope sLawPurse) := ⟨rfl, rfl, rfl, by decide +kernel, rfl, by decide +kernel, by decide +kernel⟩
theorem scLawDraw : FnScope ["purse", "out_of", "drawn"] ["purse", "out_of"] (defScope sLawDraw) := ⟨rfl, rfl, rfl, by decide +kernel, rfl, by decide +kernel, by decide +kernel⟩
section
variable {P : Program} {w : World} {K : PySem.W.Frag} {mg : Str → Option Value} {base : Heap} {f : Addr} {fd : FuncData} {k : Nat}
def spLawAt (K : PySem.W.Frag) : Sp := fun vs H Q _ => ∃ (a : Addr) (ns : List Int) (j : Nat), vs = [.ref a, .int j] ∧ SqL K H a (ns.map V.int) ∧ ns.length ≤ 63 ∧ ∀ r, Q (.int r) H
theorem ok_lawAt (F : Fun K "_law_at" "_law_at" sLawAt f fd) (T : Bl mg) : FnOk P w K mg base CX0 (k + 1) f fd ["script", "k"] (spLawAt K) := by
  refine F.ok scLawAt (fun vs H Q E h => ?_) (fun cdv A outer s H vs Q E hr h => ?_)
  · obtain ⟨a, ns, j, rfl, _⟩ := h
    rfl
  obtain ⟨a, ns, j, rfl, hS, hl, q⟩ := h
  refine ⟨_, pss_cons (ps_if (pt_cmpR op_lt (pv 1) (pe_callB call_len_seq (by rfl) T.len PySem.boot_len (pa_cons (pv 0) pa_nil)) (nomark _)) (pss_one (ps_ret (pe_ix ix_list (pv 0) (pv 1) (fun _ _ => rfl)))) pss_nil) (pss_one (ps_ret pe_int)), ?_⟩
  refine ⟨.int j, rfl, .ref a, rfl, a, _, rfl, .inl hS, j, _, rfl, rfl, _, rfl, ite2 (fun e => ?_) (fun _ => ?_)⟩
  · have hlt : j < (ns.map V.int).length := by
      have := of_decide_eq_true e
      omega
    have hlt' : j < ns.length := by rwa [List.length_map] at hlt
    refine ⟨.ref a, rfl, .int j, rfl, a, _, j, .int ns[j], rfl, rfl, hS, atI_nat (j := j) ?_, q _⟩
    rw [List.getElem?_map, List.getElem?_eq_getElem hlt']
    rfl
  · exact q _
def spLawMixed : Sp := fun vs H Q _ => ∃ c k : Int, vs = [.int c, .int k] ∧ 0 ≤ c ∧ c < 2147483647 ∧ 0 ≤ k ∧ k ≤ 2000000 ∧ ∀ r, 0 ≤ r → Q (.int r) H
theorem ok_lawMixed (F : Fun K "_law_mixed" "_law_mixed" sLawMixed f fd) (T : Bl mg) : FnOk P w K mg base CX0 (k + 1) f fd ["cell", "k"] spLawMixed := by
  refine F.ok scLawMixed (fun vs H Q E h => ?_) (fun cdv A outer s H vs Q E hr h => ?_)
  · obtain ⟨c, k, rfl, _⟩ := h
    rfl
  obtain ⟨c, k, rfl, c0, c1, k0, k1, q⟩ := h
  refine ⟨_, pss_cons (ps_set (i := 2) scLawMixed.nd rfl (.inl rfl) (pe_op op_mod (pe_callTy call_int1 (by rfl) T.int (by decide +kernel) (pa_cons (pe_op op_add (pe_op op_add (pe_op op_add (pe_op op_mul (pv 0) pe_int) (pe_op op_mul (pe_op op_mul pe_int (pv 1)) (pv 1))) (pv 1)) pe_int) pa_nil)) pe_int))
    (pss_cons (ps_set (i := 2) scLawMixed.nd rfl (.inl rfl) (pe_op op_mod (pe_callTy call_int1 (by rfl) T.int (by decide +kernel) (pa_cons (pe_op op_add (pe_op op_mul (pv 2) (pv 2)) pe_int) pa_nil)) pe_int))
    (pss_one (ps_ret (pe_op op_mod (pe_callTy call_int1 (by rfl) T.int (by decide +kernel) (pa_cons (pe_op op_mul (pv 2) pe_int) pa_nil)) pe_int)))), ?_⟩
  refine ⟨.int c, rfl, c, _, rfl, rfl, .inl ⟨by omega, by omega⟩, .int k, rfl, _, k, rfl, rfl, .inl ⟨by decide, by decide⟩, .int k, rfl, _, k, rfl, rfl, .inl ⟨by omega, by omega⟩, ?_⟩
  refine ⟨_, _, rfl, rfl, .int k, rfl, _, k, rfl, rfl, _, _, rfl, rfl, .inl ⟨_, rfl, _, _, rfl, rfl, by show (0 : Int) < 2147483647; decide, ?_⟩⟩
  refine ⟨_, rfl, _, rfl, _, _, rfl, rfl, .inl (b64 (Int.emod_nonneg _ (by decide)) (Int.emod_lt_of_pos _ (by decide))), _, _, rfl, rfl, .inl ⟨_, rfl, _, _, rfl, rfl, by show (0 : Int) < 2147483629; decide, ?_⟩⟩
  refine ⟨_, rfl, _, _, rfl, rfl, .inl (b64 (Int.emod_nonneg _ (by decide)) (Int.lt_trans (Int.emod_lt_of_pos _ (by decide)) (by decide))), .inl ⟨_, rfl, _, _, rfl, rfl, by show (0 : Int) < 2147483587; decide, q _ (Int.emod_nonneg _ (by decide))⟩⟩
def spLawPurse (K : PySem.W.Frag) : Sp := fun vs H Q _ => ∃ (a : Addr) (ns : List Int) (j : Nat), vs = [.ref a, .int j] ∧ SqL K H a (ns.map V.int) ∧ ns.length ≤ 63 ∧ j ≤ 100 ∧ ∀ H' p, Same H H' → H p = none → Pur H' p 100000 → Q (.ref p) H'
theorem ok_lawPurse {f1 : Addr} {fd1 : FuncData} (F : Fun K "_law_purse" "_law_purse" sLawPurse f fd) (T : Bl mg) (G1 : FnOk P w K mg base CX0 k f1 fd1 ["script", "k"] (spLawAt K)) (b1 : Binds K fd1 ["script", "k"] []) (k1 : PySem.W.keepIn K (.ref f1) = true) (m1 : mg "_law_at" = some (.ref f1)) :
    FnOk P w K mg base CX0 (k + 1) f fd ["script", "at"] (spLawPurse K) := by
  refine F.ok scLawPurse (fun vs H Q E h => ?_) (fun cdv A outer s H vs Q E hr h => ?_)
  · obtain ⟨a, ns, j, rfl, _⟩ := h
    rfl
  obtain ⟨a, ns, j, rfl, hS, hl, hj, q⟩ := h
  refine ⟨_, pss_cons (ps_set (i := 2) scLawPurse.nd rfl (.inl rfl) (pe_call G1 hr (by rfl) m1 k1 b1 .nil pass0 (pa_cons (pv 0) (pa_cons (pv 1) pa_nil))))
    (pss_one (ps_ret (pe_lst (pa_cons (pe_op op_mod (pe_callTy call_int1 (by rfl) T.int (by decide +kernel) (pa_cons (pe_callB (call_max2 rfl) (by rfl) T.max (by decide +kernel) (pa_cons (pe_op op_sub (pv 2) (pe_op op_pow pe_int pe_int)) (pa_cons pe_int pa_nil))) pa_nil)) (pe_op op_powB (pe_op op_pow pe_int pe_int) pe_int))
      (pa_cons (pe_op op_mod (pe_callTy call_int1 (by rfl) T.int (by decide +kernel) (pa_cons (pv 2) pa_nil)) pe_int) (pa_cons (pe_op op_mul pe_int (pv 1)) pa_nil)))))), ?_⟩
  refine ⟨.ref a, rfl, .int j, rfl, a, ns, j, rfl, hS, hl, fun c => ?_⟩
  refine ⟨.int c, rfl, _, _, rfl, rfl, ⟨by decide, by decide, by decide⟩, _, _, rfl, rfl, _, _, rfl, .inl ⟨_, rfl, _, _, rfl, rfl, ⟨by decide, by decide, by decide⟩, _, _, rfl, rfl, ⟨by decide, by decide +kernel⟩, _, _, rfl, rfl, by show (0 : Int) < (10 ^ Int.toNat 60) ^ Int.toNat 10; decide +kernel, ?_⟩⟩
  refine ⟨.int c, rfl, .inl ⟨_, rfl, _, _, rfl, rfl, by show (0 : Int) < 2147483647; decide, .int j, rfl, _, _, rfl, rfl, .inl ⟨by decide, by decide⟩, by show 3 ≤ sizeLine; decide, fun p hp => ?_⟩⟩
  refine q _ p (same_new hp _) hp ⟨_, _, _, upd_same, Int.emod_nonneg _ (by decide +kernel), Int.emod_nonneg _ (by decide), Int.emod_lt_of_pos _ (by decide), ?_, ?_⟩
  · show (0 : Int) ≤ 1000 * (j : Int)
    omega
  · show 1000 * (j : Int) ≤ 100000
    omega
def spLawDraw : Sp := fun vs H Q _ => ∃ (p : Addr) (n c : Int), vs = [.ref p, .int n] ∧ Pur H p c ∧ c ≤ 1000000 ∧ 1 ≤ n ∧ n ≤ 10000 ∧ ∀ r us, 0 ≤ r → r < n → Pur (upd H p (.lst us)) p (c + 1) → Q (.int r) (upd H p (.lst us))
theorem ok_lawDraw {f1 : Addr} {fd1 : FuncData} (F : Fun K "_law_draw" "_law_draw" sLawDraw f fd) (T : Bl mg) (G1 : FnOk P w K mg base CX0 k f1 fd1 ["cell", "k"] spLawMixed) (b1 : Binds K fd1 ["cell", "k"] []) (k1 : PySem.W.keepIn K (.ref f1) = true) (m1 : mg "_law_mixed" = some (.ref f1)) :
    FnOk P w K mg base CX0 (k + 1) f fd ["purse", "out_of"] spLawDraw := by
  refine F.ok scLawDraw (fun vs H Q E h => ?_) (fun cdv A outer s H vs Q E hr h => ?_)
  · obtain ⟨p, n, c, rfl, _⟩ := h
    rfl
  obtain ⟨p, n, c, rfl, ⟨a, b, e, hp, a0, b0, b1', e0, e1⟩, c1, n0, n1, q⟩ := h
  refine ⟨_, pss_cons (ps_if (pt_cmpR op_gt (pe_ix ix_list (pv 0) pe_int (fun _ _ => rfl)) pe_int (nomark _))
      (pss_cons (ps_set (i := 2) scLawDraw.nd rfl (.inl rfl) (pe_op op_mod (pe_callTy call_int1 (by rfl) T.int (by decide +kernel) (pa_cons (pe_ix ix_list (pv 0) pe_int (fun _ _ => rfl)) pa_nil)) (pv 1)))
      (pss_cons (ps_asg (pe_op op_fdiv (pe_ix ix_list (pv 0) pe_int (fun _ _ => rfl)) (pv 1)) (pg_sub (pv 0) pe_int set_list)) (pss_one (ps_ret (pv 2))))) pss_nil)
    (pss_cons (ps_asg (pe_op op_add (pe_ix ix_list (pv 0) pe_int (fun _ _ => rfl)) pe_int) (pg_sub (pv 0) pe_int set_list))
    (pss_one (ps_ret (pe_op op_mod (pe_callTy call_int1 (by rfl) T.int (by decide +kernel) (pa_cons (pe_call G1 hr (by rfl) m1 k1 b1 .nil pass0 (pa_cons (pe_ix ix_list (pv 0) pe_int (fun _ _ => rfl)) (pa_cons (pe_ix ix_list (pv 0) pe_int (fun _ _ => rfl)) pa_nil))) pa_nil)) (pv 1))))), ?_⟩
  have hS : SqL K H p [.int a, .int b, .int e] := SqL.of hp
  refine ⟨.ref p, rfl, p, _, 0, .int a, rfl, rfl, hS, atI_nat (j := 0) rfl, _, _, rfl, rfl, _, rfl, ite2 (fun g => ?_) (fun _ => ?_)⟩
  · refine ⟨.ref p, rfl, p, _, 0, .int a, rfl, rfl, hS, atI_nat (j := 0) rfl, .inl ⟨_, rfl, .int n, rfl, _, _, rfl, rfl, by show 0 < n; omega, ?_⟩⟩
    refine ⟨.ref p, rfl, p, _, 0, .int a, rfl, rfl, hS, atI_nat (j := 0) rfl, .int n, rfl, _, _, rfl, rfl, ⟨by omega, by omega⟩, .ref p, rfl, p, _, 0, 0, rfl, rfl, hp, rfl, ?_⟩
    refine ⟨.int (a % n), rfl, q _ _ (Int.emod_nonneg _ (by omega)) (Int.emod_lt_of_pos _ (by omega)) ⟨a / n, b, e, upd_same, Int.ediv_nonneg a0 (by omega), b0, b1', e0, by omega⟩⟩
  · refine ⟨.ref p, rfl, p, _, 2, .int e, rfl, rfl, hS, atI_nat (j := 2) rfl, _, _, rfl, rfl, .ref p, rfl, p, _, 2, 2, rfl, rfl, hp, rfl, ?_⟩
    have hS2 : SqL K (upd H p (.lst [.int a, .int b, .int (e + 1)])) p [.int a, .int b, .int (e + 1)] := SqL.of upd_same
    refine ⟨.ref p, rfl, p, _, 1, .int b, rfl, rfl, hS2, atI_nat (j := 1) rfl, .ref p, rfl, p, _, 2, .int (e + 1), rfl, rfl, hS2, atI_nat (j := 2) rfl, b, e + 1, rfl, b0, b1', by omega, by omega, fun r r0 => ?_⟩
    refine .inl ⟨r, rfl, .int n, rfl, _, _, rfl, rfl, by show 0 < n; omega, ?_⟩
    exact q _ _ (Int.emod_nonneg _ (by omega)) (Int.emod_lt_of_pos _ (by omega)) ⟨a, b, e + 1, upd_same, a0, b0, b1', by omega, by omega⟩
end
structure NmW (ns : W) : Prop where
  names : ∀ x ∈ ns, nameB x = true
  few : ns.length ≤ 60
end Rw
namespace Rw
open PySem PySem.Spec PyProof.Rows L2
/-! ### _law_some -/
abbrev nLawSome : List Str := ["purse", "names", "most", "found", "turn"]
theorem scLawSome : FnScope nLawSome ["purse", "names", "most"] (defScope sLawSome) := ⟨rfl, rfl, rfl, by decide +kernel, rfl, by decide +kernel, by decide +kernel⟩
section
variable {P : Program} {w : World} {K : PySem.W.Frag} {mg : Str → Option Value} {base : Heap} {f : Addr} {fd : FuncData} {k : Nat}
def spLawSome (K : PySem.W.Frag) : Sp := fun vs H Q _ => ∃ (p l : Addr) (c m : Int) (ns : W), vs = [.ref p, .ref l, .int m] ∧ Pur H p c ∧ c ≤ 900000 ∧ 0 ≤ m ∧ m ≤ 38 ∧ SqT K H l (ns.map V.str) ∧ 1 ≤ ns.length ∧ NmW ns ∧
  ∀ (H' : Hp) (t : Addr) (zs : W), Bar p H H' → Pur H' p (c + 40) → SqT K H' t (zs.map V.str) → IsW zs → (∀ z ∈ zs, z ∈ ns) → Q (.ref t) H'
theorem ok_lawSome {f1 : Addr} {fd1 : FuncData} (F : Fun K "_law_some" "_law_some" sLawSome f fd) (T : Bl mg) (G1 : FnOk P w K mg base CX0 k f1 fd1 ["purse", "out_of"] spLawDraw) (b1 : Binds K fd1 ["purse", "out_of"] []) (k1 : PySem.W.keepIn K (.ref f1) = true) (m1 : mg "_law_draw" = some (.ref f1)) :
    FnOk P w K mg base CX0 (k + 1) f fd ["purse", "names", "most"] (spLawSome K) := by
  refine F.ok scLawSome (fun vs H Q E h => ?_) (fun cdv A outer s H vs Q E hr h => ?_)
  · obtain ⟨p, l, c, m, ns, rfl, _⟩ := h
    rfl
  obtain ⟨p, l, c, m, ns, rfl, hP, hc, m0, m38, hl, n1, hn, q⟩ := h
  have n40 := hn.few
  refine ⟨_, pss_cons (ps_setLc (i := 3) (own := [("turn", 4)]) (g := gName 4) (by rfl) scLawSome.nd rfl rfl (sw_true rfl rfl rfl (by decide +kernel)) (pi_range1 rfl T.range (pa_cons (pe_call G1 hr (by rfl) m1 k1 b1 .nil pass0 (pa_cons (pv 0) (pa_cons (pe_op op_add (pv 2) pe_int) pa_nil))) pa_nil)) (blkOk_by (N := nLawSome) (sc := defScope sLawSome) (by decide +kernel))
        (fun _ _ _ _ _ => pg_name (i := 4) scLawSome.nd rfl (Or.inl rfl)) (fun _ _ _ _ _ => pts_nil) (fun _ _ _ _ _ => pe_ix (r := rIxT K) ix_tup (pv 1) (pe_call G1 hr (by rfl) m1 k1 b1 .nil pass0 (pa_cons (pv 0) (pa_cons (pe_callB (r := rLenK K) call_len_seq (by rfl) T.len PySem.boot_len (pa_cons (pv 1) pa_nil)) pa_nil))) (fun _ _ => rfl)))
    (pss_one (ps_ret (pe_callTy call_tuple_of (by rfl) T.tuple (by decide +kernel) (pa_cons (pe_callB (cr_sortX rfl hr.units) (by rfl) T.sorted (by decide +kernel) (pa_cons (pe_callTy (cr_setX rfl hr.units) (by rfl) T.set (by decide +kernel) (pa_cons (pv 3) pa_nil)) pa_nil)) pa_nil)))), ?_⟩
  refine ⟨.ref p, rfl, .int m, rfl, _, _, rfl, rfl, p, _, c, rfl, hP, by omega, by omega, by omega, fun r us r0 r1 hP1 => ?_⟩
  have barA : Bar p H (upd H p (.lst us)) := .draw
  have r1' : r < m + 1 := r1
  refine ⟨r, rfl, by omega, by omega, fun D hD => ?_⟩
  have nDp := hP1.some hD
  have hD0 := none_bar barA hP1 hD
  have sD := same_new hD (.lst [])
  have stl : ∀ H', Bar p H H' → SqT K H' l (ns.map V.str) := fun H' b => (b.stay hP.mut).seq hl
  refine lc_range (fun i H1 => Bar p H H1 ∧ Pur H1 p (c + 1 + i) ∧ ∃ zs : W, H1 D = some (.lst (zs.map V.str)) ∧ zs.length = i ∧ ∀ z ∈ zs, z ∈ ns) ⟨barA.trans (.same sD), (hP1.same sD).le (by omega), [], upd_same, rfl, (fun _ z => nomatch z)⟩ (fun i H1 il hI => ?_) (fun H1 hI => ?_)
  · obtain ⟨bar, pu, zs, hd, hL, hR⟩ := hI
    have ln : ((ns.map V.str).length : Int) = ns.length := by rw [List.length_map]
    refine ⟨rfl, .ref l, rfl, .ref p, rfl, .ref l, rfl, l, _, rfl, .inr (stl _ bar), p, _, _, rfl, pu, by omega, by rw [ln]; omega, by rw [ln]; omega, fun r2 us2 r20 r21 hP2 => ?_⟩
    obtain ⟨j, rfl⟩ := Int.eq_ofNat_of_zero_le r20
    have lt : j < ns.length := by
      rw [ln] at r21
      omega
    have hx : (ns.map V.str)[j]? = some (.str ns[j]) := by rw [List.getElem?_map, List.getElem?_eq_getElem lt]; rfl
    have bar2 : Bar p H (upd H1 p (.lst us2)) := bar.trans .draw
    refine ⟨l, _, j, _, rfl, rfl, stl _ bar2, atI_nat hx, ?_⟩
    have hd2 : (upd H1 p (.lst us2)) D = some (.lst (zs.map V.str)) := by
      rw [upd_ne nDp]
      exact hd
    refine ⟨_, hd2, small_line' (by rw [List.length_map]; omega), bar2.put hD0, (hP2.put nDp).le (by omega), zs ++ [ns[j]], ?_, by rw [List.length_append, hL]; rfl, fun z hz => ?_⟩
    · rw [upd_same, List.map_append]
      rfl
    · rcases List.mem_append.mp hz with h | h
      · exact hR z h
      · rw [List.mem_singleton.mp h]
        exact List.getElem_mem lt
  · obtain ⟨bar, pu, zs, hd, hL, hR⟩ := hI
    refine ⟨.ref D, rfl, D, zs, rfl, .inl (SqL.of hd), by omega, fun b ms hb nd hm hl' => ?_⟩
    refine ⟨b, ms, rfl, upd_same, by omega, fun zs2 p2 hz nz hlz rz hp => ?_⟩
    refine ⟨p2, zs2.map V.str, rfl, .inl ⟨SqL.of upd_same, fun l2 hl2 => ?_⟩⟩
    have sm := (same_new hb (XSetO P w b ms)).trans ((same_new hp (.lst (zs2.map V.str))).trans (same_new hl2 (.tup (zs2.map V.str))))
    have mem : ∀ z, z ∈ zs2 ↔ z ∈ zs := fun z => (hz z).trans (hm z)
    have sub : ∀ z ∈ zs2, z ∈ ns := fun z h => hR z ((mem z).mp h)
    refine q _ l2 zs2 (bar.trans (.same sm)) ((pu.same sm).le (by omega)) (SqT.of upd_same) ⟨fun z h => hn.names z (sub z h), upX_of rz nz, ?_⟩ sub
    have := len_le nz sub
    omega
end
end Rw
namespace Rw
open PySem PySem.Spec PyProof.Rows L2
/-! ### _law_row -/
theorem scLawRow : FnScope ["purse", "names", "way", "wide", "heads", "denied"] ["purse", "names", "way"] (defScope sLawRow) := ⟨rfl, rfl, rfl, by decide +kernel, rfl, by decide +kernel, by decide +kernel⟩
theorem slA_w {K : PySem.W.Frag} {H : Hp} {a : Addr} {xs : List V} {lo hi : Option Int} {Q : VK} (hx : SqT K H a xs) (q : ∀ c H0, Same H H0 → SqT K H0 c (cutV xs lo hi) → Q (.ref c) H0) : rSlA K (.ref a) lo hi H Q := by
  refine ⟨a, xs, rfl, hx, fun ⟨e1, e2⟩ => q a H (fun _ _ e => e) ?_, fun _ p hp => q p _ (same_new hp _) (SqT.of upd_same)⟩
  unfold cutV
  rw [e1, e2, List.drop_zero, Nat.sub_zero, List.take_length]
  exact hx
theorem cut_map (zs : W) (j : Int) : ∃ m, cutV (zs.map V.str) none (some j) = (zs.take m).map V.str := by
  refine ⟨HT.sIx (zs.map V.str).length (zs.map V.str).length (some j), ?_⟩
  unfold cutV
  show ((zs.map V.str).drop 0).take (_ - 0) = _
  rw [List.drop_zero, Nat.sub_zero, List.map_take]
theorem isW_nil : IsW [] := ⟨(fun _ z => nomatch z), List.Pairwise.nil, by decide⟩
theorem isW_sub {ns zs : W} (h : IsW ns) (s : zs.Sublist ns) : IsW zs := ⟨fun x hx => h.names x (s.subset hx), List.Pairwise.sublist s h.up, Nat.le_trans s.length_le h.few⟩
theorem three_at {way : Int} (h : way = 0 ∨ way = 1 ∨ way = 2) : ∃ j : Int, atI [V.int 2, V.int 3, V.int 1] way = some (.int j) ∧ 0 ≤ j ∧ j ≤ 3 := by
  rcases h with rfl | rfl | rfl
  · exact ⟨2, rfl, by decide, by decide⟩
  · exact ⟨3, rfl, by decide, by decide⟩
  · exact ⟨1, rfl, by decide, by decide⟩
/-- a rule over the names -/
def ROf (ns : W) (r : Rl) : Prop := IsR r ∧ ∀ t ∈ parts r, ∀ z ∈ t, z ∈ ns
section
variable {P : Program} {w : World} {K : PySem.W.Frag} {mg : Str → Option Value} {base : Heap} {f : Addr} {fd : FuncData} {k : Nat}
def spLawRow (K : PySem.W.Frag) : Sp := fun vs H Q _ => ∃ (p l : Addr) (c way : Int) (ns : W), vs = [.ref p, .ref l, .int way] ∧ (way = 0 ∨ way = 1 ∨ way = 2) ∧ Pur H p c ∧ c ≤ 800000 ∧ SqT K H l (ns.map V.str) ∧ 1 ≤ ns.length ∧ NmW ns ∧
  ∀ (H' : Hp) (v : V) (r : Rl), Bar p H H' → Pur H' p (c + 300) → Dp K H' v (rd r) → ROf ns r → Q v H'
theorem ok_lawRow {f1 f2 : Addr} {fd1 fd2 : FuncData} (F : Fun K "_law_row" "_law_row" sLawRow f fd) (T : Bl mg) (G1 : FnOk P w K mg base CX0 k f1 fd1 ["purse", "out_of"] spLawDraw) (b1 : Binds K fd1 ["purse", "out_of"] []) (k1 : PySem.W.keepIn K (.ref f1) = true) (m1 : mg "_law_draw" = some (.ref f1))
    (G2 : FnOk P w K mg base CX0 k f2 fd2 ["purse", "names", "most"] (spLawSome K)) (b2 : Binds K fd2 ["purse", "names", "most"] []) (k2 : PySem.W.keepIn K (.ref f2) = true) (m2 : mg "_law_some" = some (.ref f2)) :
    FnOk P w K mg base CX0 (k + 1) f fd ["purse", "names", "way"] (spLawRow K) := by
  refine F.ok scLawRow (fun vs H Q E h => ?_) (fun cdv A outer s H vs Q E hr h => ?_)
  · obtain ⟨p, l, c, way, ns, rfl, _⟩ := h
    rfl
  obtain ⟨p, l, c, way, ns, rfl, hway, hP, hc, hl, n1, hn, q⟩ := h
  refine ⟨_, pss_cons (ps_set (i := 3) scLawRow.nd rfl (.inl rfl) (pe_callTy call_int1 (by rfl) T.int (by decide +kernel) (pa_cons (pe_cmpR op_eq (pe_call G1 hr (by rfl) m1 k1 b1 .nil pass0 (pa_cons (pv 0) (pa_cons pe_int pa_nil))) pe_int (nomark _)) pa_nil)))
    (pss_cons (ps_set (i := 4) scLawRow.nd rfl (.inl rfl) (pe_call G2 hr (by rfl) m2 k2 b2 .nil pass0 (pa_cons (pv 0) (pa_cons (pv 1) (pa_cons (pe_op op_add (pe_ix ix_list (pe_lst (pa_cons pe_int (pa_cons pe_int (pa_cons pe_int pa_nil)))) (pv 2) (fun _ _ => rfl)) (pe_op op_mul pe_int (pv 3))) pa_nil)))))
    (pss_cons (ps_set (i := 5) scLawRow.nd rfl (.inl rfl) (pe_tup pa_nil))
    (pss_mid (ps_if (pt_cmpR op_eq (pv 2) pe_int (nomark _)) (pss_one (ps_set (i := 5) scLawRow.nd rfl (.inl rfl) (pe_call G2 hr (by rfl) m2 k2 b2 .nil pass0 (pa_cons (pv 0) (pa_cons (pv 1) (pa_cons (pe_op op_add pe_int (pv 3)) pa_nil)))))) pss_nil)
    (pss_mid (ps_if (pt_cmpR op_eq (pv 2) pe_int (nomark _)) (pss_one (ps_set (i := 4) scLawRow.nd rfl (.inl rfl) (pe_slice sl_tupA (pv 4) po_none (po_some pe_int)))) pss_nil)
    (pss_one (ps_ret (pe_tup (pa_cons (pv 4) (pa_cons (pv 5)
      (pa_cons (pe_call G2 hr (by rfl) m2 k2 b2 .nil pass0 (pa_cons (pv 0) (pa_cons (pv 1) (pa_cons (pe_op op_add pe_int (pe_op op_mul pe_int (pv 3))) pa_nil))))
      (pa_cons (pe_call G2 hr (by rfl) m2 k2 b2 .nil pass0 (pa_cons (pv 0) (pa_cons (pv 1) (pa_cons (pe_op op_add pe_int (pe_op op_mul pe_int (pv 3))) pa_nil)))) pa_nil))))))))))), ?_⟩
  have sty : ∀ H', Bar p H H' → SqT K H' l (ns.map V.str) := fun H' b => (b.stay hP.mut).seq hl
  have sortV : ∀ j : Int, ∃ b : Bool, V.bl (decide (V.int way = V.int j)) = V.bl b ∧ (b = true ↔ way = j) := fun j => by
    by_cases e : way = j
    · exact ⟨true, congrArg V.bl (decide_eq_true (by rw [e])), by simp [e]⟩
    · exact ⟨false, congrArg V.bl (decide_eq_false fun z => e (by injection z)), by simp [e]⟩
  refine ⟨.ref p, rfl, p, 4, c, rfl, hP, by omega, by decide, by decide, fun r us r0 r1 hP1 => ?_⟩
  refine ⟨rfl, .inr ⟨decide (V.int r = V.int 0), rfl, ?_⟩⟩
  have bar1 : Bar p H (upd H p (.lst us)) := .draw
  obtain ⟨wd', ew, w0, w1⟩ : ∃ i : Int, (if decide (V.int r = V.int 0) = true then (1 : Int) else 0) = i ∧ 0 ≤ i ∧ i ≤ 1 := by
    refine ⟨_, rfl, ?_, ?_⟩ <;> split <;> decide
  rw [ew]
  have cm : CMul 2 wd' := .inl ⟨by decide, by decide⟩
  refine ⟨.ref p, rfl, .ref l, rfl, by show 3 ≤ sizeLine; decide, fun q4 hq4 => ?_⟩
  have s4 := same_new hq4 (.lst [.int 2, .int 3, .int 1])
  obtain ⟨j, hj, j0, j3⟩ := three_at hway
  have bar4 := bar1.trans (.same s4)
  refine ⟨.int way, rfl, q4, _, way, .int j, rfl, rfl, SqL.of upd_same, hj, .int wd', rfl, 2, wd', rfl, rfl, cm, j, _, rfl, rfl, p, l, _, _, ns, rfl, hP1.same s4, by omega, by omega, by omega, sty _ bar4, n1, hn, fun H2 t zs bar2 pu2 ht hzs hsub => ?_⟩
  have bar2' := bar4.trans bar2
  refine ⟨by show 0 ≤ sizeLine; decide, fun t6 ht6 => ?_⟩
  have s6 := same_new ht6 (.tup [])
  have bar6 := bar2'.trans (.same s6)
  have pu6 := pu2.same s6
  refine ⟨fun σ H7 => ∃ (t7 : Addr) (ds : W), σ = [some (.ref p), some (.ref l), some (.int way), some (.int wd'), some (.ref t), some (.ref t7)] ∧ Bar p H H7 ∧ Pur H7 p (c + 100) ∧ SqT K H7 t (zs.map V.str) ∧ SqT K H7 t7 (ds.map V.str) ∧ IsW ds ∧ ∀ z ∈ ds, z ∈ ns, ?_, ?_⟩
  · obtain ⟨b0, e0, hb0⟩ := sortV 0
    refine ⟨.int way, rfl, rfl, b0, e0, ?_⟩
    cases b0 with
    | false => exact iteF ⟨t6, [], rfl, bar6, pu6.le (by omega), same_tup s6 ht, SqT.of upd_same, isW_nil, fun _ z => nomatch z⟩
    | true =>
      refine iteT ⟨.ref p, rfl, .ref l, rfl, .int wd', rfl, 1, wd', rfl, rfl, p, l, _, _, ns, rfl, pu6, by omega, by omega, by omega, sty _ bar6, n1, hn, fun H8 t8 z8 bar8 pu8 h8 hz8 hs8 => ?_⟩
      exact ⟨t8, z8, rfl, bar6.trans bar8, pu8.le (by omega), (((Bar.same s6).trans bar8).stay pu2.mut).seq ht, h8, hz8, hs8⟩
  rintro σ7 H7 ⟨t7, ds, rfl, bar7, pu7, ht7, hd7, hds, hdsub⟩
  refine ⟨fun σ H8 => ∃ (t8 : Addr) (hs : W), σ = [some (.ref p), some (.ref l), some (.int way), some (.int wd'), some (.ref t8), some (.ref t7)] ∧ Bar p H H8 ∧ Pur H8 p (c + 100) ∧ SqT K H8 t8 (hs.map V.str) ∧ SqT K H8 t7 (ds.map V.str) ∧ IsW hs ∧ ∀ z ∈ hs, z ∈ ns, ?_, ?_⟩
  · obtain ⟨b2', e2, hb2⟩ := sortV 2
    refine ⟨.int way, rfl, rfl, b2', e2, ?_⟩
    cases b2' with
    | false => exact iteF ⟨t, zs, rfl, bar7, pu7, ht7, hd7, hzs, hsub⟩
    | true =>
      refine iteT ⟨.ref t, rfl, 1, rfl, slA_w ht7 fun t5 H5 s5 ht5 => ?_⟩
      obtain ⟨mm, em⟩ := cut_map zs 1
      rw [em] at ht5
      exact ⟨t5, zs.take mm, rfl, bar7.trans (.same s5), pu7.same s5, ht5, same_tup s5 hd7, isW_sub hzs (List.take_sublist _ _), fun z hz => hsub z (List.mem_of_mem_take hz)⟩
  rintro σ8 H8 ⟨t8, hs, rfl, bar8, pu8, ht8, hd8, hhs, hhsub⟩
  refine ⟨.ref t8, rfl, .ref t7, rfl, .ref p, rfl, .ref l, rfl, .int wd', rfl, 2, wd', rfl, rfl, cm, 2, _, rfl, rfl, p, l, _, _, ns, rfl, pu8, by omega, by omega, by omega, sty _ bar8, n1, hn, fun H9 t9 z9 bar9 pu9 h9 hz9 hs9 => ?_⟩
  refine ⟨.ref p, rfl, .ref l, rfl, .int wd', rfl, 2, wd', rfl, rfl, cm, 2, _, rfl, rfl, p, l, _, _, ns, rfl, pu9, by omega, by omega, by omega, sty _ (bar8.trans bar9), n1, hn, fun HA tA zA barA puA hA hzA hsA => ?_⟩
  refine ⟨by show 4 ≤ sizeLine; decide, fun tB hB => ?_⟩
  have sB := same_new hB (.tup [.ref t8, .ref t7, .ref t9, .ref tA])
  have yA := (barA.stay pu9.mut).trans (.same sB)
  have y9 := (bar9.stay pu8.mut).trans yA
  refine q _ (.ref tB) (hs, ds, z9, zA) (((bar8.trans bar9).trans barA).trans (.same sB)) ((puA.same sB).le (by omega)) ?_ ⟨⟨hhs, hds, hz9, hzA⟩, fun t ht => ?_⟩
  · exact .tup (SqT.of upd_same) (.cons (to_wd (y9.seq ht8)) (.cons (to_wd (y9.seq hd8)) (.cons (to_wd (yA.seq h9)) (.cons (to_wd ((Stay.same sB).seq hA)) .nil))))
  · unfold parts at ht
    simp only [List.mem_cons, List.mem_nil_iff, or_false] at ht
    rcases ht with e | e | e | e <;> subst e
    · exact hhsub
    · exact hdsub
    · exact hs9
    · exact hsA
end
end Rw
namespace Rw
open PySem PySem.Spec PyProof.Rows L2
/-! ### _law_rows -/
abbrev nLawRows : List Str := ["purse", "names", "most", "way", "turn"]
theorem scLawRows : FnScope nLawRows ["purse", "names", "most"] (defScope sLawRows) := ⟨rfl, rfl, rfl, by decide +kernel, rfl, by decide +kernel, by decide +kernel⟩
theorem none_same {H H' : Hp} {l : Addr} (s : Same H H') (n : H' l = none) : H l = none := by
  cases e : H l with
  | none => rfl
  | some u =>
    rw [s _ _ e] at n
    cases n
/-- a list of rules -/
def RL (K : PySem.W.Frag) (H : Hp) (l : Addr) (S : List Rl) : Prop := ∃ ys, H l = some (.lst ys) ∧ DpAll K H ys (S.map rd)
theorem RL.same {K : PySem.W.Frag} {H H' : Hp} {l : Addr} {S : List Rl} (h : RL K H l S) (e : Same H H') : RL K H' l S := by
  obtain ⟨ys, h1, h2⟩ := h
  exact ⟨ys, e _ _ h1, (Stay.same e).dpAll _ _ (okDs_rd S) h2⟩
section
variable {P : Program} {w : World} {K : PySem.W.Frag} {mg : Str → Option Value} {base : Heap} {f : Addr} {fd : FuncData} {k : Nat}
def spLawRows (K : PySem.W.Frag) : Sp := fun vs H Q _ => ∃ (p l : Addr) (c most : Int) (ns : W), vs = [.ref p, .ref l, .int most] ∧ 0 ≤ most ∧ most ≤ 40 ∧ Pur H p c ∧ c ≤ 700000 ∧ SqT K H l (ns.map V.str) ∧ 1 ≤ ns.length ∧ NmW ns ∧
  ∀ (H' : Hp) (a : Addr) (S : List Rl), Bar p H H' → Pur H' p (c + 15000) → H a = none → RL K H' a S → (S.length : Int) ≤ most → (∀ r ∈ S, ROf ns r) → Q (.ref a) H'
theorem ok_lawRows {f1 f2 : Addr} {fd1 fd2 : FuncData} (F : Fun K "_law_rows" "_law_rows" sLawRows f fd) (T : Bl mg) (G1 : FnOk P w K mg base CX0 k f1 fd1 ["purse", "out_of"] spLawDraw) (b1 : Binds K fd1 ["purse", "out_of"] []) (k1 : PySem.W.keepIn K (.ref f1) = true) (m1 : mg "_law_draw" = some (.ref f1))
    (G2 : FnOk P w K mg base CX0 k f2 fd2 ["purse", "names", "way"] (spLawRow K)) (b2 : Binds K fd2 ["purse", "names", "way"] []) (k2 : PySem.W.keepIn K (.ref f2) = true) (m2 : mg "_law_row" = some (.ref f2)) :
    FnOk P w K mg base CX0 (k + 1) f fd ["purse", "names", "most"] (spLawRows K) := by
  refine F.ok scLawRows (fun vs H Q E h => ?_) (fun cdv A outer s H vs Q E hr h => ?_)
  · obtain ⟨p, l, c, most, ns, rfl, _⟩ := h
    rfl
  obtain ⟨p, l, c, most, ns, rfl, m0, m40, hP, hc, hl, n1, hn, q⟩ := h
  refine ⟨_, pss_cons (ps_set (i := 3) scLawRows.nd rfl (.inr rfl) (pe_call G1 hr (by rfl) m1 k1 b1 .nil pass0 (pa_cons (pv 0) (pa_cons pe_int pa_nil))))
    (pss_one (ps_ret (pe_lc (own := [("turn", 4)]) (g := gName 4) (by rfl) scLawRows.nd (pi_range1 rfl T.range (pa_cons (pe_call G1 hr (by rfl) m1 k1 b1 .nil pass0 (pa_cons (pv 0) (pa_cons (pe_op op_add (pv 2) pe_int) pa_nil))) pa_nil)) (blkOk_by (N := nLawRows) (sc := defScope sLawRows) (by decide +kernel))
        (fun _ _ _ _ _ => pg_name (i := 4) scLawRows.nd rfl (Or.inl rfl)) (fun _ _ _ _ _ => pts_nil) (fun _ _ _ _ _ => pe_call G2 hr (by rfl) m2 k2 b2 .nil pass0 (pa_cons (pv 0) (pa_cons (pv 1) (pa_cons (pv 3) pa_nil))))))), ?_⟩
  refine ⟨.ref p, rfl, p, 3, c, rfl, hP, by omega, by decide, by decide, fun way us0 w0 w1 hP0 => ?_⟩
  have bar0 : Bar p H (upd H p (.lst us0)) := .draw
  refine ⟨.ref p, rfl, .int most, rfl, _, _, rfl, rfl, p, _, _, rfl, hP0, by omega, by omega, by omega, fun r us r0 r1 hP1 => ?_⟩
  have barA : Bar p H (upd (upd H p (.lst us0)) p (.lst us)) := bar0.trans .draw
  have r1' : r < most + 1 := r1
  refine ⟨r, rfl, by omega, by omega, fun D hD => ?_⟩
  have nDp := hP1.some hD
  have hD0 := none_bar barA hP1 hD
  have sD := same_new hD (.lst [])
  have sty : ∀ H', Bar p H H' → SqT K H' l (ns.map V.str) := fun H' b => (b.stay hP.mut).seq hl
  refine lc_range (fun i H1 => Bar p H H1 ∧ Pur H1 p (c + 2 + 300 * i) ∧ ∃ (zs : List V) (L : List Rl), H1 D = some (.lst zs) ∧ DpAll K H1 zs (L.map rd) ∧ L.length = i ∧ ∀ r ∈ L, ROf ns r) ⟨barA.trans (.same sD), (hP1.same sD).le (by omega), [], [], upd_same, .nil, rfl, (fun _ z => nomatch z)⟩ (fun i H1 il hI => ?_) (fun H1 hI => ?_)
  · obtain ⟨bar, pu, zs, L, hd, hzs, hL, hR⟩ := hI
    refine ⟨rfl, .ref p, rfl, .ref l, rfl, .int way, rfl, p, l, _, way, ns, rfl, by omega, pu, by omega, sty _ bar, n1, hn, fun H2 v r2 bar2 pu2 hv hr2 => ?_⟩
    have hd2 := bar2 _ _ nDp hd
    have st : Stay H2 (upd H2 D (.lst (zs ++ [v]))) := .put (by rw [hd2]; exact True.intro) _
    refine ⟨zs, hd2, small_line' ?_, (bar.trans bar2).put hD0, (pu2.put nDp).le (by omega), zs ++ [v], L ++ [r2], upd_same, ?_, by rw [List.length_append, hL]; rfl, fun r hr => ?_⟩
    · rw [dpAll_len hzs, List.length_map]
      omega
    · rw [List.map_append]
      exact dpAll_app (((bar2.stay pu.mut).trans st).dpAll _ _ (okDs_rd L) hzs) (.cons (st.dp _ _ (ok_rd r2) hv) .nil)
    · rcases List.mem_append.mp hr with h | h
      · exact hR r h
      · rw [List.mem_singleton.mp h]
        exact hr2
  · obtain ⟨bar, pu, zs, L, hd, hzs, hL, hR⟩ := hI
    exact q _ D L bar (pu.le (by omega)) hD0 ⟨zs, hd, hzs⟩ (by omega) hR
end
end Rw
namespace Rw
open PySem PySem.Spec PyProof.Rows L2
/-! ### a text bent -/
abbrev nLawBent : List Str := ["purse", "words", "turn", "at", "some", "sign"]
theorem scLawBent : FnScope nLawBent ["purse", "words"] (defScope sLawBent) := ⟨rfl, rfl, rfl, by decide +kernel, rfl, by decide +kernel, by decide +kernel⟩
def signsL : List Str := [" ", "a", ".", "|", ",", "not ", "\n", ":- ", "b", "A", "not", ":", "-", "  ", "1", "_", "{", "`"]
instance (s : Str) : Decidable (SmallS s) := by unfold SmallS; infer_instance
theorem signs_small : ∀ s ∈ signsL, SmallS s := by decide +kernel
theorem empty_small : SmallS "" := by decide +kernel
theorem bend_sub (L : Sg) (a b : Nat) : List.Sublist (L.take a ++ L.drop (a + b)) L := by
  have h : List.Sublist (L.take a ++ L.drop (a + b)) (L.take a ++ L.drop a) := List.Sublist.append_left (by rw [← List.drop_drop]; exact List.drop_sublist _ _) _
  rwa [List.take_append_drop] at h
section
variable {P : Program} {w : World} {K : PySem.W.Frag} {mg : Str → Option Value} {base : Heap} {f : Addr} {fd : FuncData} {k : Nat}
def spLawBent (K : PySem.W.Frag) : Sp := fun vs H Q _ => ∃ (p : Addr) (z : Str) (c : Int), vs = [.ref p, .str z] ∧ Pur H p c ∧ c ≤ 600000 ∧ Fit 0 z ∧ ∀ H' z', Bar p H H' → Pur H' p (c + 20) → Fit 2 z' → Q (.str z') H'
theorem ok_lawBent {f1 : Addr} {fd1 : FuncData} (F : Fun K "_law_bent" "_law_bent" sLawBent f fd) (T : Bl mg) (G1 : FnOk P w K mg base CX0 k f1 fd1 ["purse", "out_of"] spLawDraw) (b1 : Binds K fd1 ["purse", "out_of"] []) (k1 : PySem.W.keepIn K (.ref f1) = true) (m1 : mg "_law_draw" = some (.ref f1)) :
    FnOk P w K mg base CX0 (k + 1) f fd ["purse", "words"] (spLawBent K) := by
  refine F.ok scLawBent (fun vs H Q E h => ?_) (fun cdv A outer s H vs Q E hr h => ?_)
  · obtain ⟨p, z, c, rfl, _⟩ := h
    rfl
  obtain ⟨p, z0, c, rfl, hP, hc, hz0, q⟩ := h
  refine ⟨_, (pss_cons (ps_for PassesOwn.never rfl (pi_range1 rfl T.range (pa_cons (pe_op op_add pe_int (pe_call G1 hr (by rfl) m1 k1 b1 .nil pass0 (pa_cons (pv 0) (pa_cons pe_int pa_nil)))) pa_nil)) (pg_name (i := 2) scLawBent.nd rfl (.inl rfl)) (pss_cons (ps_set (i := 3) scLawBent.nd rfl (.inl rfl) (pe_call G1 hr (by rfl) m1 k1 b1 .nil pass0 (pa_cons (pv 0) (pa_cons (pe_op op_add (pe_callB call_len_str (by rfl) T.len PySem.boot_len (pa_cons (pv 1) pa_nil)) pe_int) pa_nil)))) (pss_cons (ps_set (i := 4) scLawBent.nd rfl (.inl rfl) (pe_lst (pa_cons pe_str (pa_cons pe_str (pa_cons pe_str (pa_cons pe_str (pa_cons pe_str (pa_cons pe_str (pa_cons pe_str (pa_cons pe_str (pa_cons pe_str (pa_cons pe_str (pa_cons pe_str (pa_cons pe_str (pa_cons pe_str (pa_cons pe_str (pa_cons pe_str (pa_cons pe_str (pa_cons pe_str (pa_cons pe_str pa_nil)))))))))))))))))))) (pss_cons (ps_set (i := 5) scLawBent.nd rfl (.inl rfl) (pe_ix ix_list (pv 4) (pe_call G1 hr (by rfl) m1 k1 b1 .nil pass0 (pa_cons (pv 0) (pa_cons pe_int pa_nil))) (fun _ _ => rfl))) (pss_one (ps_set (i := 1) scLawBent.nd rfl (.inl rfl) (pe_op op_add_str (pe_op op_add_str (pe_slice sl_str (pv 1) po_none (po_some (pv 3))) (pe_ix ix_list (pe_lst (pa_cons (pv 5) (pa_cons (pv 5) (pa_cons pe_str pa_nil)))) (pe_call G1 hr (by rfl) m1 k1 b1 .nil pass0 (pa_cons (pv 0) (pa_cons pe_int pa_nil))) (fun _ _ => rfl))) (pe_slice sl_str (pv 1) (po_some (pe_op op_add (pv 3) (pe_call G1 hr (by rfl) m1 k1 b1 .nil pass0 (pa_cons (pv 0) (pa_cons pe_int pa_nil))))) po_none)))))))) (pss_one (ps_ret (pv 1)))), ?_⟩
  refine ⟨.ref p, rfl, p, 2, c, rfl, hP, by omega, by decide, by decide, fun r0 us0 r00 r01 hP0 => ?_⟩
  have bar0 : Bar p H (upd H p (.lst us0)) := .draw
  generalize upd H p (.lst us0) = H0 at hP0 bar0 ⊢
  obtain ⟨rn, rfl⟩ := Int.eq_ofNat_of_zero_le r00
  refine ⟨_, _, rfl, rfl, 1 + (rn : Int), rfl, by omega, by omega, for_range (n := (1 + (rn : Int)).toNat) (fun i σ H1 => (∃ z y2 y3 y4 y5, σ = [some (.ref p), some (.str z), y2, y3, y4, y5] ∧ Fit i z) ∧ Bar p H H1 ∧ Pur H1 p (c + 1 + 6 * i)) ⟨⟨z0, none, none, none, none, rfl, hz0⟩, bar0, hP0.le (by omega)⟩ (fun i σ HA hi hI => ?_) (fun σ H1 hI => ?_)⟩
  · obtain ⟨⟨z, y2, y3, y4, y5, rfl, fz⟩, bar, pu⟩ := hI
    have hi2 : i < 2 := by
      have : (1 + (rn : Int)).toNat ≤ 2 := by
        have r2 : (rn : Int) < 2 := r01
        omega
      omega
    have zl := fz.len
    refine ⟨.ref p, rfl, .str z, rfl, z, rfl, small_line (by omega), _, _, rfl, rfl, p, (z.length : Int) + 1, _, rfl, pu, by omega, by omega, by omega, fun a us1 a0 a1 pu1 => ?_⟩
    obtain ⟨an, rfl⟩ := Int.eq_ofNat_of_zero_le a0
    have b1 : Bar p H (upd HA p (.lst us1)) := bar.trans .draw
    generalize upd HA p (.lst us1) = H1 at pu1 b1 ⊢
    refine ⟨by show 18 ≤ sizeLine; decide, fun lS hlS => ?_⟩
    have sS := same_new hlS (.lst [.str " ", .str "a", .str ".", .str "|", .str ",", .str "not ", .str "\n", .str ":- ", .str "b", .str "A", .str "not", .str ":", .str "-", .str "  ", .str "1", .str "_", .str "{", .str "`"])
    have pu2 := pu1.same sS
    have b2 := b1.trans (.same sS)
    have hS : (upd H1 lS (.lst [.str " ", .str "a", .str ".", .str "|", .str ",", .str "not ", .str "\n", .str ":- ", .str "b", .str "A", .str "not", .str ":", .str "-", .str "  ", .str "1", .str "_", .str "{", .str "`"])) lS = some (.lst (signsL.map V.str)) := upd_same
    have nlS : lS ≠ p := pu1.some hlS
    generalize upd H1 lS (.lst [.str " ", .str "a", .str ".", .str "|", .str ",", .str "not ", .str "\n", .str ":- ", .str "b", .str "A", .str "not", .str ":", .str "-", .str "  ", .str "1", .str "_", .str "{", .str "`"]) = H2 at pu2 b2 hS ⊢
    refine ⟨.ref lS, rfl, .ref p, rfl, p, 18, _, rfl, pu2, by omega, by decide, by decide, fun r us3 r0 r1 pu3 => ?_⟩
    obtain ⟨j, rfl⟩ := Int.eq_ofNat_of_zero_le r0
    have jl : j < signsL.length := by
      show j < 18
      omega
    have b3 : Bar p H (upd H2 p (.lst us3)) := b2.trans .draw
    have hS3 : (upd H2 p (.lst us3)) lS = some (.lst (signsL.map V.str)) := by
      rw [upd_ne nlS]
      exact hS
    generalize upd H2 p (.lst us3) = H3 at pu3 b3 hS3 ⊢
    have hat : (signsL.map V.str)[j]? = some (.str signsL[j]) := by rw [List.getElem?_map, List.getElem?_eq_getElem jl]; rfl
    have sm := signs_small signsL[j] (List.getElem_mem jl)
    generalize signsL[j] = sg at hat sm
    refine ⟨lS, _, j, _, rfl, rfl, SqL.of hS3, atI_nat hat, ?_⟩
    -- words[:at] + [sign, sign, ""][..] + words[at + ..:]
    refine ⟨.str z, rfl, .int an, rfl, an, rfl, z, rfl, small_line (by omega), ?_⟩
    refine ⟨.str sg, rfl, .str sg, rfl, by show 3 ≤ sizeLine; decide, fun lT hlT => ?_⟩
    have sT := same_new hlT (.lst [.str sg, .str sg, .str ""])
    have pu4 := pu3.same sT
    have b4 := b3.trans (.same sT)
    have hT4 : (upd H3 lT (.lst [.str sg, .str sg, .str ""])) lT = some (.lst [.str sg, .str sg, .str ""]) := upd_same
    have nlT : lT ≠ p := pu3.some hlT
    generalize upd H3 lT (.lst [.str sg, .str sg, .str ""]) = H4 at pu4 b4 hT4 ⊢
    refine ⟨.ref p, rfl, p, 3, _, rfl, pu4, by omega, by decide, by decide, fun r3 us5 r30 r31 pu5 => ?_⟩
    have b5 : Bar p H (upd H4 p (.lst us5)) := b4.trans .draw
    have hT5 : (upd H4 p (.lst us5)) lT = some (.lst [.str sg, .str sg, .str ""]) := by
      rw [upd_ne nlT]
      exact hT4
    generalize upd H4 p (.lst us5) = H5 at pu5 b5 hT5 ⊢
    obtain ⟨sx, hsx, smx⟩ : ∃ sx : Str, atI [V.str sg, V.str sg, V.str ""] r3 = some (.str sx) ∧ SmallS sx := by
      have : r3 = 0 ∨ r3 = 1 ∨ r3 = 2 := by omega
      rcases this with rfl | rfl | rfl
      · exact ⟨sg, rfl, sm⟩
      · exact ⟨sg, rfl, sm⟩
      · exact ⟨"", rfl, empty_small⟩
    refine ⟨lT, _, r3, _, rfl, rfl, SqL.of hT5, hsx, ?_⟩
    have ls := smx.1
    have lc := cutS_len z none (some (an : Int))
    refine ⟨_, _, rfl, rfl, small_line (by omega), ?_⟩
    refine ⟨.str z, rfl, .int an, rfl, .ref p, rfl, p, 2, _, rfl, pu5, by omega, by decide, by decide, fun r4 us6 r40 r41 pu6 => ?_⟩
    obtain ⟨dn, rfl⟩ := Int.eq_ofNat_of_zero_le r40
    have b6 : Bar p H (upd H5 p (.lst us6)) := b5.trans .draw
    refine ⟨_, _, rfl, rfl, (an : Int) + dn, rfl, z, rfl, small_line (by omega), ?_⟩
    have lc2 := cutS_len z (some ((an : Int) + dn)) none
    have lap : (cutS z none (some (an : Int)) ++ sx).length ≤ 3000 := by
      rw [len_list, app_cps, List.length_append, ← len_list, ← len_list]
      omega
    refine ⟨_, _, rfl, rfl, small_line (by omega), ?_⟩
    refine ⟨⟨_, _, _, _, _, rfl, fz.bend smx ?_⟩, b6, pu6.le (by omega)⟩
    have e1 := cut_to (z := z) an
    have e2 := cut_from (z := z) (an + dn)
    rw [show (((an + dn : Nat)) : Int) = (an : Int) + dn from rfl] at e2
    rw [e1, e2]
    exact bend_sub _ _ _
  · obtain ⟨⟨z, y2, y3, y4, y5, rfl, fz⟩, bar, pu⟩ := hI
    have : (1 + (rn : Int)).toNat ≤ 2 := by
      have r2 : (rn : Int) < 2 := r01
      omega
    exact ⟨.str z, rfl, q _ z bar (pu.le (by omega)) (fz.up this)⟩
end
end Rw
namespace Rw
open PySem PySem.Spec PyProof.Rows L2
/-! ### a def without defaults, called by names; C() of a class whose __init__ takes *args -/
theorem kbn_fun {K : PySem.W.Frag} {x qual : Str} {st : Stmt} {f : Addr} {fd : FuncData} {ps : List Str} (F : Fun K x qual st f fd) (n : Nat) (ks : List Str) (g : List Value → List Value → List Value) (gV : List V → List V → List V)
    (h : ∀ (kV doc pm : Value) (an : Option Addr) (cdv ct : Value) (us ws : List Value), us.length = n → ws.length = ks.length → bindArgs (PySem.W.fnOf x qual (defArgs st) (defBody st) (defScope st) .none kV doc pm an cdv ct) { pos := us, kw := ks.zip ws } = pure (ps.zip (g us ws)))
    (rel : ∀ {vs : List V} {us : List Value} {zs : List V} {ws : List Value}, Vals vs us → Vals zs ws → Vals (gV vs zs) (g us ws)) : KBn K fd ps n ks g gV := by
  obtain ⟨oc, od, kV, doc, pm, an, cdv, ct, osl, rfl, lk, hcd⟩ := F.ex
  refine ⟨fun s us ws X l1 l2 => ?_, fun a b => rel a b⟩
  intro M A E Q q
  rw [h kV doc pm an cdv ct us ws l1 l2]
  exact wpAny_pure q
theorem pe_makeR0 {X : Cx} {CX : CXT} {k : Nat} {f C : Addr} {sp : Sp} {E : XK} {x : Str} {p pos : Pos} (M : Mk X.K C f) (F : FnR X.prog X.w X.K X.mg X.base CX k f sp) (hr : Room (k + 1) X.A) (hg : Gl X x) (hm : X.mg x = some (.ref C)) (hx : Passes CX X E)
    (hd : (x == ("__debug__" : Str)) = false := by rfl) : PE X (.Call (.Name x p) [] [] pos) (StX.tMakeR C sp E tNil) :=
  ⟨fun pins s σ H Q I h => wpAny_Call_Name_kw (ld_glob I hg hm (PySem.W.callWith_K0 I.kIn M.kp (StX.run_makeR M F hr hx I Paired.nil h)) hd)⟩
theorem passNo {P : Program} {w : World} {X : Cx} : Passes (L2.CX P w) X (fun _ _ _ => False) := fun pins σ H s e s' _ h => by
  obtain ⟨_, _, _, _, _, _, _, _, _, _, _, _, z⟩ := h
  exact z.elim
end Rw
namespace Rw
open PySem PySem.Spec PyProof.Rows L2 ClX
/-! ### C.m(k = v, ..), m a classmethod -/
section
variable {X : Cx} {CX : CXT} {k : Nat} {C p g : Addr} {fd : FuncData} {ps ks : List Str} {mc : Value} {sp : Sp} {E : XK} {o : Expr} {m : Str} {pos apos : Pos} {kws : List Keyword} {ta : TE} {tk : TA} {pl : Sem Bool} {gg : List Value → List Value → List Value} {gV : List V → List V → List V}
theorem run_cmK {pins : List (Addr × Obj)} {σ : L2.St} {H : Hp} {s : Shared} {q : Addr} {Q : VK} {ws : List Value} {zs : List V} (F : FnOk X.prog X.w X.K X.mg X.base CX k g fd ps sp) (hr : Room k X.A) (hb : KBn X.K fd ps 1 ks gg gV) (hx : Passes CX X E)
    (I : Inv X ((q, PySem.W.methodObj (.ref g) (.ref C)) :: pins) σ H s) (rz : Vals zs ws) (l2 : zs.length = ks.length) (h : sp (gV [.ref C] zs) H Q E) : wpAny (model X.prog X.w) X.A (call (.ref q) [] (ks.zip ws)) (EP X pins σ Q) X.xe s := by
  have r1 : Vals [V.ref C] [Value.ref C] := .cons rfl .nil
  have r2 := hb.rel r1 rz
  have z : wpAny (model X.prog X.w) X.A (call (.ref q) [] (ks.zip ws)) (EP X ((q, PySem.W.methodObj (.ref g) (.ref C)) :: pins) σ Q) X.xe s := by
    refine wpAny_call (PySem.W.method_call (pin_at I) (codeAny_mono (F.run X.A X.stack s H ⟨[.ref C], ks.zip ws⟩ (gg [.ref C] ws) (gV [.ref C] zs) Q E hr I.env0 (hb.to s [.ref C] ws I.kIn rfl (rz.length.symm.trans l2)) r2 h) fun r s' hq => ?_))
    cases r with
    | error e => exact hx _ σ H s e s' I hq
    | ok fl =>
      cases fl with
      | ret u => exact I.after hq
      | next => exact False.elim hq
      | brk => exact False.elim hq
      | cont => exact False.elim hq
  exact thn z fun _ _ y => unpinE y
def tCMethK (C : Addr) (ks : List Str) (sp : Sp) (gV : List V → List V → List V) (E : XK) (ta : TE) (tk : TA) : TE := fun σ H Q => ta σ H fun x H1 => x = .ref C ∧ tk σ H1 fun zs H2 => zs.length = ks.length ∧ sp (gV [.ref C] zs) H2 Q E
theorem pe_cmethK (he : PE X o ta) (r : CRead X.K C mc) (c : CMet X.K C mc m p g) (F : FnOk X.prog X.w X.K X.mg X.base CX k g fd ps sp) (hr : Room k X.A) (hb : KBn X.K fd ps 1 ks gg gV) (hx : Passes CX X E) (hkw : PK X kws tk)
    (hall : ((backToKw pos (keywordEach kws X.env)).all fun x => x.1.isSome) = true := by rfl) (hks : (backToKw pos (keywordEach kws X.env)).filterMap (fun x => x.1) = ks := by rfl)
    (hpl : ((([] : List (Bool × Sem Value)).any fun x => x.1) || (backToKw pos (keywordEach kws X.env)).any fun x => x.1.isNone) = false := by rfl) (hst : backTo pos (starEach [] X.env) = [] := by rfl)
    (ht : eval (.Call (.Attribute o m apos) [] kws pos) X.env = (do
      let ov ← eval o X.env
      standAt apos.atName
      let (f, first) ← holding [ov] (getMethod ov m pl)
      callWith pos f first (backTo pos (starEach [] X.env)) (backToKw pos (keywordEach kws X.env))) := by rfl) :
    PE X (.Call (.Attribute o m apos) [] kws pos) (tCMethK C ks sp gV E ta tk) := by
  refine ⟨fun pins s σ H Q I h => ?_⟩
  refine PySem.W.methodCall_KW (pl := pl) (thn (he.run pins s σ H _ I h) fun u s1 ⟨x, H1, I1, rx, ex, q⟩ => ?_) ht
  subst ex
  obtain rfl : u = Value.ref C := rx
  refine getmethcm_ok I1 r c fun s2 I2 => ?_
  rw [hst]
  refine PySem.W.callWith_of hpl (PySem.W.keeps_M (K := X.K) (self := .ref C) c.fi) (evalArgs_kw0 hall (thn (hkw.run pos _ s2 σ H1 (fun zs H2 => zs.length = ks.length ∧ sp (gV [.ref C] zs) H2 Q E) I2 q) fun ws s3 ⟨zs, H3, I3, rz, l2, q2⟩ => ⟨⟨pin_at I3, I3.kIn⟩, ?_⟩))
  rw [hks]
  exact run_cmK F hr hb hx I3 rz l2 q2
end
end Rw
namespace Rw
open PySem PySem.Spec PyProof.Rows L2
/-! ### lists of the very same things -/
def SameV (x y : V) : Prop := (x = y ∧ flatB x = true) ∨ ∃ a, x = .ref a ∧ y = .ref a
def EqL1 (K : PySem.W.Frag) (H : Hp) (x y : V) : Prop := SameV x y ∨ ∃ a b xs ys, x = .ref a ∧ y = .ref b ∧ SqL K H a xs ∧ SqL K H b ys ∧ Paired SameV xs ys
theorem paired_at {P : Program} {w : World} {A : Around} {s : Shared} {F : V → V → Prop} (ih : ∀ x y v u, F x y → RelV x v → RelV y u → SeqAt.EqAt A s v u true) {xs ys : List V} (hp : Paired F xs ys) :
    ∀ {us ws : List Value}, Vals xs us → Vals ys ws → ∀ j (h1 : j < us.length) (h2 : j < ws.length), SeqAt.EqAt A s us[j] ws[j] true := by
  induction hp with
  | nil =>
    intro us ws r1 r2 j h1 h2
    cases r1
    exact absurd h1 (Nat.not_lt_zero j)
  | cons h _ k =>
    intro us ws r1 r2 j h1 h2
    cases r1 with
    | cons a1 b1 =>
      cases r2 with
      | cons a2 b2 =>
        cases j with
        | zero => exact ih _ _ _ _ h a1 a2
        | succ j => exact k b1 b2 j (Nat.lt_of_succ_lt_succ h1) (Nat.lt_of_succ_lt_succ h2)
theorem sameV_at {A : Around} {s : Shared} {x y : V} {v u : Value} (h : SameV x y) (r1 : RelV x v) (r2 : RelV y u) : SeqAt.EqAt A s v u true := by
  rcases h with ⟨rfl, f⟩ | ⟨a, rfl, rfl⟩
  · exact eqAt_same r1 r2 f
  · cases (show v = Value.ref a from r1)
    cases (show u = Value.ref a from r2)
    exact SeqAt.EqAt.same _
section
variable {X : Cx}
def rNeI (K : PySem.W.Frag) : R2 := fun x y H Q => ∃ a b xs ys, x = .ref a ∧ y = .ref b ∧ SqL K H a xs ∧ SqL K H b ys ∧ Paired (EqL1 K H) xs ys ∧ Q (.bl false) H
theorem op_neI (hu : X.A.units + 64 < cLine) : OpR X (compareOp .NotEq) (rNeI X.K) := by
  intro pins s σ H x y v u Q I rx ry h
  obtain ⟨a, b, xs, ys, rfl, rfl, ha, hb, hp, q⟩ := h
  cases (show v = Value.ref a from rx)
  cases (show u = Value.ref b from ry)
  obtain ⟨us, r1, p1, _⟩ := I.list ha
  obtain ⟨ws, r2, p2, _⟩ := I.list hb
  have hsz : us.toArray.size = ws.toArray.size := by
    rw [List.size_toArray, List.size_toArray, ← r1.length, ← r2.length]
    exact Paired.length hp
  have hu1 : X.A.in1.units < cLine := by show X.A.units + 1 < cLine; omega
  have hu2 : X.A.in1.in1.units < cLine := by show X.A.units + 1 + 1 < cLine; omega
  have one : ∀ x y v u, EqL1 X.K H x y → RelV x v → RelV y u → SeqAt.EqAt X.A.in1 s v u true := fun x y v u h rx ry => by
    rcases h with h | ⟨a, b, xs, ys, rfl, rfl, ha, hb, hp⟩
    · exact sameV_at h rx ry
    · cases (show v = Value.ref a from rx)
      cases (show u = Value.ref b from ry)
      by_cases e : a = b
      · subst e
        exact SeqAt.EqAt.same _
      · obtain ⟨us, r1, p1, _⟩ := I.list ha
        obtain ⟨ws, r2, p2, _⟩ := I.list hb
        have hsz : us.toArray.size = ws.toArray.size := by
          rw [List.size_toArray, List.size_toArray, ← r1.length, ← r2.length]
          exact Paired.length hp
        refine SeqAt.EqAt.of_refs e ?_
        have := SeqAt.RcAt.lists (A := X.A.in1) (e := fun _ => true) p1.isList p2.isList hsz hu1 (fun j h1 h2 => by
          have k := paired_at (P := X.prog) (w := X.w) (A := X.A.in1.in1) (s := s) (fun x y v u h r1 r2 => sameV_at h r1 r2) hp r1 r2 j (by simpa using h1) (by simpa using h2)
          simpa using k)
        rw [show ((List.range us.toArray.size).all fun _ => true) = true from List.all_eq_true.mpr fun _ _ => rfl] at this
        exact this
  have := SeqAt.RcNeAt.lists (A := X.A) (e := fun _ => true) p1.isList p2.isList hsz (by omega) (fun j h1 h2 => by
    have k := paired_at (P := X.prog) (w := X.w) (A := X.A.in1) (s := s) one hp r1 r2 j (by simpa using h1) (by simpa using h2)
    simpa using k)
  rw [show ((List.range us.toArray.size).all fun _ => true) = true from List.all_eq_true.mpr fun _ _ => rfl] at this
  exact this X.prog X.w _ _ ⟨.bl false, H, I, rfl, q⟩
end
def boolS (b : Bool) : Str := if b then PySem.Str.ofString "True" else PySem.Str.ofString "False"
theorem call_str_bl {X : Cx} : CallR X (.type "str") (fun xs H Q => ∃ b, xs = [.bl b] ∧ Q (.str (boolS b)) H) := by
  intro pins s σ H xs us Q I r ⟨b, e, q⟩
  subst e
  obtain ⟨u, rfl, ru⟩ := vals1 r
  obtain rfl : u = Value.bool b := ru
  exact P.str_of_bool ⟨.str (boolS b), H, I.tok _, ⟨_, rfl⟩, q⟩
end Rw
namespace Rw
open PySem PySem.Spec PyProof.Rows L2 ClX
/-! ### what is told of a text, as data -/
def tellR (S : List Rl) : PyData := .list [.str "rules", .tuple (S.map rd)]
def tellL (n : Int) : PyData := .list [.str "line", .int n]
theorem shaped_tellR {S : List Rl} (h : ∀ r ∈ S, IsR r) : SeqAt.shaped (tellR S) = true := by
  obtain ⟨i1, i2⟩ := lay_rdsAll h
  refine shaped_of ?_ ?_
  · simp [tellR, PyData.canLay0, PyData.canLayAll0, i1]
    decide +kernel
  · simp [tellR, PyData.depth, PyData.depthAll]
    omega
theorem shaped_tellL (n : Int) : SeqAt.shaped (tellL n) = true := shaped_of (by simp [tellL, PyData.canLay0, PyData.canLayAll0]; decide +kernel) (by simp [tellL, PyData.depth, PyData.depthAll])
/-- all that is asked or due of a text comes to this -/
def Tells (z : Str) (d : PyData) : Prop := ∀ (K : PySem.W.Frag) (H : Hp) (Q : VK), (∀ H' p, Same H H' → Dp K H' (.ref p) d → Q (.ref p) H') → Told K z H Q
section
variable {K : PySem.W.Frag} {H : Hp}
theorem dp_tellR {p t : Addr} {ys : List V} {S : List Rl} (hp : H p = some (.lst [.str "rules", .ref t])) (ht : SqT K H t ys) (hy : DpAll K H ys (S.map rd)) : Dp K H (.ref p) (tellR S) := .lst (SqL.of hp) (.cons (.str _) (.cons (.tup ht hy) .nil))
theorem dp_tellL {p : Addr} {n : Int} (hp : H p = some (.lst [.str "line", .int n])) : Dp K H (.ref p) (tellL n) := .lst (SqL.of hp) (.cons (.str _) (.cons (.int _) .nil))
end
theorem tells_rules {z : Str} {rs S : List Rl} (ne : z ≠ Str.empty) (e : rs.map wtS = Txt.split z sNl) (hI : ∀ r ∈ rs, IsR r) (hS : ∀ S2, Srt S2 rs → S2 = S) : Tells z (tellR S) := fun K H Q q => .inr (.inl ⟨ne, rs, e, hI, fun H' p t S2 ys s hp ht hy hS2 => q H' p s (by rw [← hS S2 hS2]; exact dp_tellR hp ht hy)⟩)
theorem tells_empty : Tells Str.empty (tellR []) := fun K H Q q => .inl ⟨rfl, fun H' p t s hp ht => q H' p s (dp_tellR hp ht .nil)⟩
theorem tells_line {z l : Str} {i : Nat} {rs : List Rl} (ne : z ≠ Str.empty) (hl : (Txt.split z sNl)[i]? = some l) (e : rs.map wtS = (Txt.split z sNl).take i) (hI : ∀ r ∈ rs, IsR r) (no : ∀ r, IsR r → wtS r ≠ l) : Tells z (tellL ((i : Int) + 1)) := fun K H Q q => .inr (.inr ⟨ne, i, rs, l, hl, e, hI, no, fun H' p s hp => q H' p s (dp_tellL hp)⟩)
theorem tells_any (z : Str) : ∃ d, SeqAt.shaped d = true ∧ Tells z d := by
  by_cases e : z = Str.empty
  · subst e
    exact ⟨_, shaped_tellR (S := []) (fun _ z => nomatch z), tells_empty⟩
  · rcases lines_or (Txt.split z sNl) with ⟨rs, h1, h2⟩ | ⟨i, rs, l, h1, h2, h3, h4⟩
    · by_cases c : ∃ S, Srt S rs
      · obtain ⟨S, hS⟩ := c
        exact ⟨_, shaped_tellR (S := S) fun r hr => h2 r ((hS.mem r).mp hr), tells_rules e h1 h2 fun S2 h => h.one hS fun _ => Iff.rfl⟩
      · exact ⟨tellL 0, shaped_tellL _, fun K H Q q => .inr (.inl ⟨e, rs, h1, h2, fun H' p t S2 ys s hp ht hy hS2 => absurd ⟨S2, hS2⟩ c⟩)⟩
    · exact ⟨_, shaped_tellL _, tells_line e h1 h2 h3 h4⟩
/-- a written program, asked -/
theorem tells_all {L S : List Rl} (hI : ∀ r ∈ L, IsR r) (h5 : ∀ r ∈ L, Sm5 r) (hS : Srt S L) : Tells (wtAll L) (tellR S) := by
  by_cases e : L = []
  · subst e
    obtain rfl : S = [] := List.eq_nil_iff_forall_not_mem.mpr fun r hr => nomatch (hS.mem r).mp hr
    exact tells_empty
  · exact tells_rules (all_ne e) (split_all hI h5 e).symm hI fun S2 h => h.one hS fun _ => Iff.rfl
theorem read_all {K : PySem.W.Frag} {C CU : Addr} {H : Hp} {Q : VK} {E : XK} {L S : List Rl} (hI : ∀ r ∈ L, IsR r) (h5 : ∀ r ∈ L, Sm5 r) (h6 : L.length ≤ 6) (hS : Srt S L) (q : ∀ H' v, Same H H' → PgAt K C H' v S → Q v H') : spRead K C CU [.ref C, .str (wtAll L)] H Q E := by
  obtain ⟨b1, b2, b3, _⟩ := (fit_all hI h5 h6).lines (by decide)
  refine ⟨_, rfl, .inr ⟨_, rfl, b1, Nat.lt_of_lt_of_le b2 (by decide), b3, ?_⟩⟩
  by_cases e : L = []
  · subst e
    obtain rfl : S = [] := List.eq_nil_iff_forall_not_mem.mpr fun r hr => nomatch (hS.mem r).mp hr
    exact .inl ⟨rfl, q⟩
  · exact .inr (.inl ⟨all_ne e, L, (split_all hI h5 e).symm, hI, fun H' v S2 s hS2 _ hv => q H' v s (by rw [hS.one hS2 fun _ => Iff.rfl]; exact hv)⟩)
def kwBehind (vs zs : List V) : List V := vs ++ zs
def names5 : W := ["a", "b", "no", "nota", "eightlet"]
theorem cut1 (xs : List V) : cutV xs none (some 1) = xs.take 1 := by
  unfold cutV
  show (xs.drop 0).take (HT.sIx xs.length xs.length (some 1) - 0) = _
  have e : HT.sIx xs.length xs.length (some 1) = min 1 xs.length := rfl
  rw [e, List.drop_zero, Nat.sub_zero]
  cases xs with
  | nil => rfl
  | cons x xs => rfl
theorem sm5_of {ns : W} (hn : ns.length ≤ 5) {r : Rl} (h : ROf ns r) : Sm5 r := by
  have key : ∀ w : W, IsW w → (∀ z ∈ w, z ∈ ns) → w.length ≤ 5 := fun w hw hs => Nat.le_trans (len_le (upX_nodup hw.up) hs) hn
  obtain ⟨⟨i1, i2, i3, i4⟩, hp⟩ := h
  exact ⟨key _ i1 (hp _ (by simp [parts])), key _ i2 (hp _ (by simp [parts])), key _ i3 (hp _ (by simp [parts])), key _ i4 (hp _ (by simp [parts]))⟩
theorem mem_names {ns : W} {L : List Rl} (h : ∀ r ∈ L, ROf ns r) : ∀ z ∈ namesL L, z ∈ ns := fun z hz => by
  obtain ⟨r, hr, hz⟩ := List.mem_flatMap.mp hz
  obtain ⟨t, ht, hz⟩ := List.mem_flatMap.mp hz
  exact (h r hr).2 t ht z hz
theorem isW_5 : NmW names5 := ⟨by decide +kernel, by decide⟩
/-! the fixed texts -/
def ruleA : Rl := (["a"], ["b"], ["c"], ["d"])
def rule0 : Rl := ([], [], [], [])
def fixA : Str := "a | not b :- c, not d."
def fixB : Str := ":-."
def fixC : Str := "a.\n"
theorem isW_1 {z : Str} (h : nameB z = true) : IsW [z] := ⟨fun x hx => by rw [List.mem_singleton.mp hx]; exact h, List.pairwise_singleton _ _, by show 1 ≤ 60; decide⟩
theorem isR_A : IsR ruleA := ⟨isW_1 (by decide +kernel), isW_1 (by decide +kernel), isW_1 (by decide +kernel), isW_1 (by decide +kernel)⟩
theorem isR_0 : IsR rule0 := ⟨isW_nil, isW_nil, isW_nil, isW_nil⟩
theorem srt_1 (r : Rl) : Srt [r] [r] := ⟨by simp, by show Rising [rd r]; exact List.pairwise_singleton _ _, fun _ => Iff.rfl⟩
theorem one_all (r : Rl) : wtAll [r] = wtS r := str_ext (by
  show (Txt.join sNl ([r].map wtS)).cps.toList = _
  rw [join_list]
  rfl)
theorem tells_A : Tells fixA (tellR [ruleA]) := by
  have h := tells_all (L := [ruleA]) (S := [ruleA]) (fun r hr => by rw [List.mem_singleton.mp hr]; exact isR_A) (fun r hr => by rw [List.mem_singleton.mp hr]; unfold Sm5 ruleA; decide) (srt_1 _)
  rw [one_all, show wtS ruleA = fixA by decide +kernel] at h
  exact h
theorem tells_B : Tells fixB (tellR [rule0]) := by
  have h := tells_all (L := [rule0]) (S := [rule0]) (fun r hr => by rw [List.mem_singleton.mp hr]; exact isR_0) (fun r hr => by rw [List.mem_singleton.mp hr]; unfold Sm5 rule0; decide) (srt_1 _)
  rw [one_all, show wtS rule0 = fixB by decide +kernel] at h
  exact h
def ruleC : Rl := (["a"], [], [], [])
theorem tells_C : Tells fixC (tellL 2) := by
  have hs : Txt.split fixC sNl = [("a." : Str), ""] := by decide +kernel
  refine tells_line (i := 1) (l := "") (rs := [ruleC]) (by decide +kernel) (by rw [hs]; rfl) ?_ (fun r hr => ?_) fun r _ e => ?_
  · rw [hs]
    show [wtS ruleC] = [("a." : Str)]
    rw [show wtS ruleC = "a." by decide +kernel]
  · rw [List.mem_singleton.mp hr]
    exact ⟨isW_1 (by decide +kernel), isW_nil, isW_nil, isW_nil⟩
  · have : (wtS r).cps.toList = [] := by rw [e]; rfl
    exact wtL_ne r this
theorem fit_fix (z : Str) (h : z.length ≤ 2000 ∧ cnt 44 z ≤ 54 ∧ cnt 124 z ≤ 54 ∧ cnt 10 z ≤ 5) : Fit 0 z := ⟨by omega, by omega, by omega, by omega⟩
theorem fit_A : Fit 0 fixA := fit_fix _ (by decide +kernel)
theorem fit_B : Fit 0 fixB := fit_fix _ (by decide +kernel)
theorem fit_C : Fit 0 fixC := fit_fix _ (by decide +kernel)
/-- asked of a text -/
theorem asked_ok {K : PySem.W.Frag} {H : Hp} {Q : VK} {E : XK} {z : Str} {d : PyData} {n : Nat} (fz : Fit n z) (hn : n ≤ 5) (t : Tells z d) (q : ∀ H' p, Same H H' → Dp K H' (.ref p) d → Q (.ref p) H') : spLawAsked K [.str z] H Q E := by
  obtain ⟨b1, b2, b3, _⟩ := fz.lines hn
  exact ⟨_, rfl, .inr ⟨z, rfl, b1, Nat.lt_of_lt_of_le b2 (by decide), b3, t K H Q q⟩⟩
theorem due_ok {K : PySem.W.Frag} {H : Hp} {Q : VK} {E : XK} {z : Str} {d : PyData} {n : Nat} (fz : Fit n z) (hn : n ≤ 5) (t : Tells z d) (q : ∀ H' p, Same H H' → Dp K H' (.ref p) d → Q (.ref p) H') : spLawDue K [.str z] H Q E := by
  obtain ⟨b1, b2, _, b4⟩ := fz.lines hn
  exact ⟨z, rfl, b1, Nat.lt_of_lt_of_le b2 (by decide), b4, t K H Q q⟩
/-! ### law -/
abbrev nLaw : List Str := ["script", "names", "at", "purse", "rows", "made", "lines", "mixed", "again", "turn", "words", "odd", "row"]
theorem scLaw : FnScope nLaw ["script"] (defScope sLaw) := ⟨rfl, rfl, rfl, by decide +kernel, rfl, by decide +kernel, by decide +kernel⟩
section
variable {P : Program} {w : World} {K : PySem.W.Frag} {mg : Str → Option Value} {base : Heap} {f : Addr} {fd : FuncData} {k : Nat}
theorem neS (z : Str) : V.bl (!decide (V.str z = V.str z)) = V.bl false := by rw [decide_eq_true rfl]; rfl
theorem neI (z : Int) : V.bl (!decide (V.int z = V.int z)) = V.bl false := by rw [decide_eq_true rfl]; rfl
def spLaw (K : PySem.W.Frag) : Sp := fun vs H Q _ => ∃ (a : Addr) (ns : List Int), vs = [.ref a] ∧ SqL K H a (ns.map V.int) ∧ ns.length ≤ 63 ∧ ∀ H', Q (.bl true) H'
theorem ok_law {C CU CP pO fO pRd fRd gE gA gL gW pR fR pN fN pK fK f1 f2 f3 f4 f5 f6 f7 : Addr} {mc : Value} {fdRd fdW fdR fdN fdK fd1 fd2 fd3 fd4 fd5 fd6 fd7 : FuncData} {ggR : List Value → List Value → List Value} (F : Fun K "law" "law" sLaw f fd) (T : Bl mg) (G : PgC K mg C) (nA : NoAttr K C "_rules") (cr : CRead K C mc)
    (cmO : CMet K C mc "of" pO fO) (GO : FnR P w K mg base CX0 (k + 1) fO (spOf K C))
    (cmR : CMet K C mc "read" pRd fRd) (GRd : FnR P w K mg base (L2.CX P w) (k + 1) fRd (spRead K C CU)) (GRk : FnOk P w K mg base (L2.CX P w) (k + 1) fRd fdRd ["cls", "text"] (spRead K C CU)) (kbR : KBn K fdRd ["cls", "text"] 1 ["text"] ggR kwBehind)
    (hmW : Meth K C "written" gW) (GW : FnOk P w K mg base CX0 (k + 1) gW fdW ["self"] (spWritten K C)) (bW : Binds K fdW ["self"] [])
    (N : NeC K C gE) (FE : FnR P w K mg base CX0 k gE (spPEqG K C))
    (hsf : PySem.W.selfFirst K C = true) (hsA : PySem.W.findIn K (.ref C) "__add__" = some (some (.ref gA))) (hfA : PySem.W.isFn K (.ref gA) = true) (FA : FnR P w K mg base (L2.CX P w) (k + 1) gA (spAdd K C CP))
    (hsL : PySem.W.findIn K (.ref C) "__len__" = some (some (.ref gL))) (hfL : PySem.W.isFn K (.ref gL) = true) (FL : FnR P w K mg base CX0 k gL (spPLen K C))
    (hpR : PropOf K C "rules" pR fR) (GR : FnOk P w K mg base CX0 k fR fdR ["self"] (spRules K C)) (bR : Binds K fdR ["self"] [])
    (hpN : PropOf K C "names" pN fN) (GN : FnOk P w K mg base CX0 k fN fdN ["self"] (spNames K C)) (bN : Binds K fdN ["self"] [])
    (hpK : PropOf K C "kind" pK fK) (GK : FnOk P w K mg base CX0 k fK fdK ["self"] (spKind K C)) (bK : Binds K fdK ["self"] [])
    (G1 : FnOk P w K mg base CX0 (k + 1) f1 fd1 ["script", "at"] (spLawPurse K)) (b1 : Binds K fd1 ["script", "at"] []) (k1 : PySem.W.keepIn K (.ref f1) = true) (m1 : mg "_law_purse" = some (.ref f1))
    (G2 : FnOk P w K mg base CX0 (k + 1) f2 fd2 ["purse", "out_of"] spLawDraw) (b2 : Binds K fd2 ["purse", "out_of"] []) (k2 : PySem.W.keepIn K (.ref f2) = true) (m2 : mg "_law_draw" = some (.ref f2))
    (G3 : FnOk P w K mg base CX0 (k + 1) f3 fd3 ["purse", "names", "most"] (spLawRows K)) (b3 : Binds K fd3 ["purse", "names", "most"] []) (k3 : PySem.W.keepIn K (.ref f3) = true) (m3 : mg "_law_rows" = some (.ref f3))
    (G4 : FnOk P w K mg base CX0 (k + 1) f4 fd4 ["row"] (spWritten1 K)) (b4 : Binds K fd4 ["row"] []) (k4 : PySem.W.keepIn K (.ref f4) = true) (m4 : mg "_law_written" = some (.ref f4))
    (G5 : FnOk P w K mg base CX0 (k + 1) f5 fd5 ["words"] (spLawAsked K)) (b5 : Binds K fd5 ["words"] []) (k5 : PySem.W.keepIn K (.ref f5) = true) (m5 : mg "_law_asked" = some (.ref f5))
    (G6 : FnOk P w K mg base CX0 (k + 1) f6 fd6 ["purse", "words"] (spLawBent K)) (b6 : Binds K fd6 ["purse", "words"] []) (k6 : PySem.W.keepIn K (.ref f6) = true) (m6 : mg "_law_bent" = some (.ref f6))
    (G7 : FnOk P w K mg base CX0 (k + 1) f7 fd7 ["words"] (spLawDue K)) (b7 : Binds K fd7 ["words"] []) (k7 : PySem.W.keepIn K (.ref f7) = true) (m7 : mg "_law_due" = some (.ref f7)) :
    FnOk P w K mg base CX0 (k + 2) f fd ["script"] (spLaw K) := by
  refine F.ok scLaw (fun vs H Q E h => ?_) (fun cdv A outer s H vs Q E hr h => ?_)
  · obtain ⟨a, ns, rfl, _⟩ := h
    rfl
  obtain ⟨a, ns, rfl, hS, hl, q⟩ := h
  refine ⟨_, (pss_cons (ps_set (i := 1) scLaw.nd rfl (.inl rfl) (pe_tup (pa_cons pe_str (pa_cons pe_str (pa_cons pe_str (pa_cons pe_str (pa_cons pe_str pa_nil))))))) (pss_cons (ps_for PassesOwn.never rfl (pi_range1 rfl T.range (pa_cons (pe_op op_add pe_int (pe_callB (call_min2 rfl) (by rfl) T.min (by decide +kernel) (pa_cons pe_int (pa_cons (pe_callB call_len_seq (by rfl) T.len PySem.boot_len (pa_cons (pv 0) pa_nil)) pa_nil)))) pa_nil)) (pg_name (i := 2) scLaw.nd rfl (.inl rfl)) (pss_cons (ps_set (i := 3) scLaw.nd rfl (.inl rfl) (pe_call G1 hr (by rfl) m1 k1 b1 .nil pass0 (pa_cons (pv 0) (pa_cons (pv 2) pa_nil)))) (pss_cons (ps_set (i := 4) scLaw.nd rfl (.inl rfl) (pe_call G3 hr (by rfl) m3 k3 b3 .nil pass0 (pa_cons (pv 3) (pa_cons (pv 1) (pa_cons pe_int pa_nil))))) (pss_cons (ps_set (i := 5) scLaw.nd rfl (.inl rfl) (pe_cmeth (pe_glob (v := .ref C) (by rfl) G.m rfl) cr cmO GO hr pass0 (pa_cons (pv 4) pa_nil))) (pss_cons (ps_setLc (i := 6) (own := [("row", 12)]) (g := gName 12) (by rfl) scLaw.nd rfl rfl (sw_true rfl rfl rfl (by decide +kernel)) (pi_list (pe_callB (cr_sortR rfl hr.units) (by rfl) T.sorted (by decide +kernel) (pa_cons (pe_callTy (T := "set")  (cr_setR rfl hr.units) (by rfl) T.set (by decide +kernel) (pa_cons (pv 4) pa_nil)) pa_nil))) (blkOk_by (N := nLaw) (sc := defScope sLaw) (by decide +kernel)) (fun _ _ _ _ _ => (pg_name (i := 12) scLaw.nd rfl (Or.inl rfl))) (fun _ _ _ _ _ => pts_nil) (fun _ _ _ _ _ => (pe_call G4 hr (by rfl) m4 k4 b4 .nil pass0 (pa_cons (pv 12) pa_nil)))) (pss_cons (ps_if (PW.pt (pw_or (pt_cmpR  op_ne (pe_meth0 (pv 5) G.cls hmW GW hr bW .nil pass0) (pe_join pe_str (pv 6)) (nomark _)) (pw_or1 (pt_cmpR  (op_neD hr.units) (pe_call G5 hr (by rfl) m5 k5 b5 .nil pass0 (pa_cons (pe_join pe_str (pv 6)) pa_nil)) (pe_lst (pa_cons pe_str (pa_cons (pe_prop (pv 5) G.cls hpR GR hr bR .nil pass0 rfl) pa_nil))) (nomark _))))) pss_never pss_nil) (pss_cons (ps_set (i := 7) scLaw.nd rfl (.inl rfl) (pe_op op_cat (pe_revL (pv 6)) (pe_slice sl_list (pv 6) po_none (po_some pe_int)))) (pss_mid (ps_if (PW.pt (pw_or (PW.pt (pw_and (pt_cmpR (r := rNeE K) (op_neE hr.units) (pv 6) (pe_lst pa_nil) (nomark _)) (pw_and1 (pt_cmpR  (op_neP N FE hr pass0) (pe_cmeth (pe_glob (v := .ref C) (by rfl) G.m rfl) cr cmR GRd hr passNo (pa_cons (pe_join pe_str (pv 7)) pa_nil)) (pv 5) (nomark _))))) (pw_or1 (pt_cmpR  (op_neP N FE hr pass0) (pe_cmethK (pe_glob (v := .ref C) (by rfl) G.m rfl) cr cmR GRk hr kbR passNo (pk_cons (pe_meth0 (pv 5) G.cls hmW GW hr bW .nil pass0) pk_nil)) (pv 5) (nomark _))))) pss_never pss_nil) (pss_cons (ps_set (i := 8) scLaw.nd rfl (.inl rfl) (pe_cmeth (pe_glob (v := .ref C) (by rfl) G.m rfl) cr cmR GRd hr passNo (pa_cons (pe_join pe_str (pv 7)) pa_nil))) (pss_cons (ps_if (PW.pt (pw_or (pt_cmpR  op_ne (pe_meth0 (pv 8) G.cls hmW GW hr bW .nil pass0) (pe_join pe_str (pv 6)) (nomark _)) (pw_or1 (pt_cmpR  op_ne (pe_callB (call_lenP hsL hfL FL hr pass0) (by rfl) T.len PySem.boot_len (pa_cons (pv 8) pa_nil)) (pe_callB call_len_seq (by rfl) T.len PySem.boot_len (pa_cons (pv 6) pa_nil)) (nomark _))))) pss_never pss_nil) (pss_cons (ps_if (pt_cmpR  (op_neD hr.units) (pe_tup (pa_cons (pe_prop (pv 8) G.cls hpN GN hr bN .nil pass0 rfl) (pa_cons (pe_prop (pv 8) G.cls hpK GK hr bK .nil pass0 rfl) pa_nil))) (pe_tup (pa_cons (pe_prop (pv 5) G.cls hpN GN hr bN .nil pass0 rfl) (pa_cons (pe_prop (pv 5) G.cls hpK GK hr bK .nil pass0 rfl) pa_nil))) (nomark _)) pss_never pss_nil) (pss_cons (ps_if (pt_cmpR  op_ne (pe_meth0 (pe_op (op_binP hsf hsA hfA FA hr passNo) (pv 8) (pv 5)) G.cls hmW GW hr bW .nil pass0) (pe_join pe_str (pv 6)) (nomark _)) pss_never pss_nil) (pss_cons (ps_for PassesOwn.never rfl (pi_range1 rfl T.range (pa_cons pe_int pa_nil)) (pg_name (i := 9) scLaw.nd rfl (.inl rfl)) (pss_cons (ps_set (i := 10) scLaw.nd rfl (.inl rfl) (pe_call G6 hr (by rfl) m6 k6 b6 .nil pass0 (pa_cons (pv 3) (pa_cons (pe_join pe_str (pv 7)) pa_nil)))) (pss_one (ps_if (pt_cmpR  (op_neD hr.units) (pe_call G5 hr (by rfl) m5 k5 b5 .nil pass0 (pa_cons (pv 10) pa_nil)) (pe_call G7 hr (by rfl) m7 k7 b7 .nil pass0 (pa_cons (pv 10) pa_nil)) (nomark _)) pss_never pss_nil)))) (pss_cons (ps_set (i := 11) scLaw.nd rfl (.inl rfl) (pe_ix ix_list (pe_lst (pa_cons pe_non (pa_cons pe_int (pa_cons (pe_lst (pa_cons pe_str pa_nil)) (pa_cons (pe_tup (pa_cons pe_str pa_nil)) (pa_cons pe_bl pa_nil)))))) (pe_call G2 hr (by rfl) m2 k2 b2 .nil pass0 (pa_cons (pv 3) (pa_cons pe_int pa_nil))) (fun _ _ => rfl))) (pss_one (ps_if (pt_cmpR  (op_neD hr.units) (pe_call G5 hr (by rfl) m5 k5 b5 .nil pass0 (pa_cons (pv 11) pa_nil)) (pe_lst (pa_cons pe_str (pa_cons pe_int pa_nil))) (nomark _)) pss_never pss_nil)))))))))))))))) (pss_cons (ps_if (pt_cmpR  (op_neD hr.units) (pe_call G5 hr (by rfl) m5 k5 b5 .nil pass0 (pa_cons pe_str pa_nil)) (pe_lst (pa_cons pe_str (pa_cons (pe_tup (pa_cons (pe_tup (pa_cons (pe_tup (pa_cons pe_str pa_nil)) (pa_cons (pe_tup (pa_cons pe_str pa_nil)) (pa_cons (pe_tup (pa_cons pe_str pa_nil)) (pa_cons (pe_tup (pa_cons pe_str pa_nil)) pa_nil))))) pa_nil)) pa_nil))) (nomark _)) pss_never pss_nil) (pss_one (ps_ret (pe_and (pe_cmpR  (op_eqD hr.units) (pe_call G5 hr (by rfl) m5 k5 b5 .nil pass0 (pa_cons pe_str pa_nil)) (pe_lst (pa_cons pe_str (pa_cons (pe_tup (pa_cons (pe_tup (pa_cons (pe_tup pa_nil) (pa_cons (pe_tup pa_nil) (pa_cons (pe_tup pa_nil) (pa_cons (pe_tup pa_nil) pa_nil))))) pa_nil)) pa_nil))) (nomark _)) (pe_one (pe_cmpR  (op_eqD hr.units) (pe_call G5 hr (by rfl) m5 k5 b5 .nil pass0 (pa_cons pe_str pa_nil)) (pe_lst (pa_cons pe_str (pa_cons pe_int pa_nil))) (nomark _))))))))), ?_⟩
  refine ⟨by show 5 ≤ sizeLine; decide, fun tN htN => ?_⟩
  have sN := same_new htN (.tup (names5.map V.str))
  obtain ⟨n0, hn0, hn6⟩ : ∃ n0 : Nat, (1 + (if ((ns.map V.int).length : Int) < 5 then ((ns.map V.int).length : Int) else 5)) = (n0 : Int) ∧ n0 ≤ 6 := by
    rw [List.length_map]
    by_cases c : (ns.length : Int) < 5
    · rw [if_pos c]
      exact ⟨1 + ns.length, by omega, by omega⟩
    · rw [if_neg c]
      exact ⟨6, by omega, by omega⟩
  refine ⟨.ref a, rfl, a, _, rfl, .inl (sN.seq hS), 5, ((ns.map V.int).length : Int), rfl, _, _, rfl, rfl, _, rfl, ?_⟩
  rw [hn0]
  refine ⟨by omega, by omega, ?_⟩
  let H00 : Hp := upd H tN (.tup (names5.map V.str))
  have hTN : SqT K H00 tN (names5.map V.str) := SqT.of upd_same
  have hS0 : SqL K H00 a (ns.map V.int) := sN.seq hS
  refine for_range (n := (n0 : Int).toNat) (fun i σ H1 => (∃ y2 y3 y4 y5 y6 y7 y8 y9 y10 y11, σ = [some (.ref a), some (.ref tN), y2, y3, y4, y5, y6, y7, y8, y9, y10, y11, none]) ∧ Same H00 H1) ⟨⟨_, _, _, _, _, _, _, _, _, _, rfl⟩, fun _ _ e => e⟩ (fun i0 σ HA hi hI => ?_) (fun σ H1 hI => ?_)
  · obtain ⟨⟨y2, y3, y4, y5, y6, y7, y8, y9, y10, y11, rfl⟩, smA⟩ := hI
    have hi6 : i0 < 6 := by omega
    -- the purse
    refine ⟨.ref a, rfl, .int (0 + (i0 : Int)), rfl, a, ns, i0, ?_, smA.seq hS0, hl, by omega, fun HB p sAB hpn hP0 => ?_⟩
    · rw [Int.zero_add]
      rfl
    have up : ∀ H', Bar p HB H' → Same H00 H' := fun H' b c u e => b c u (fun z => by
      have := smA _ _ e
      rw [z, hpn] at this
      cases this) (sAB _ _ (smA _ _ e))
    -- the rules
    refine ⟨.ref p, rfl, .ref tN, rfl, p, tN, _, 5, names5, rfl, by decide, by decide, hP0, by omega, same_tup (up HB (fun _ _ _ e => e)) hTN, by decide, isW_5, fun HC aR L bar1 pu1 naR hRL few5 hRO => ?_⟩
    obtain ⟨ysR, hlR, hysR⟩ := id hRL
    have isR1 : ∀ r ∈ L, IsR r := fun r hr => (hRO r hr).1
    have sm1 : ∀ r ∈ L, Sm5 r := fun r hr => sm5_of (by decide) (hRO r hr)
    have l5 : L.length ≤ 5 := by omega
    -- the program
    refine ⟨rfl, .ref aR, rfl, aR, ysR, L, rfl, .inr (SqL.of hlR), hysR, isR1, by omega, fun HD v S s1 hS1 few1 hv => ?_⟩
    have isS : ∀ r ∈ S, IsR r := fun r hr => isR1 r ((hS1.mem r).mp hr)
    have smS : ∀ r ∈ S, Sm5 r := fun r hr => sm1 r ((hS1.mem r).mp hr)
    have lS : S.length ≤ 5 := Nat.le_trans (len_le hS1.nd fun r hr => (hS1.mem r).mp hr) l5
    have hSS : Srt S S := ⟨hS1.nd, hS1.ris, fun _ => Iff.rfl⟩
    have nmS : ∀ z ∈ namesL S, z ∈ names5 := mem_names fun r hr => hRO r ((hS1.mem r).mp hr)
    -- the lines
    refine ⟨.ref aR, rfl, aR, ysR, L, rfl, .inl (SqL.of (s1 _ _ hlR)), dpAll_same s1 _ _ hysR, by omega, fun aS M haS hM isP hall => ?_⟩
    have sa := same_new haS (TSetO w aS M)
    refine ⟨aS, M, L, rfl, upd_same, (fun e he => ⟨(hM e he).1, (Stay.same sa).dp _ _ (hM e he).1.ok (hM e he).2⟩), isP, hall, fun zs S2 l hS2 hSl hzs hln => ?_⟩
    obtain rfl : S2 = S := hS2.one hS1 fun _ => Iff.rfl
    have sl := same_new hln (.lst zs)
    let HE : Hp := upd (upd HD aS (TSetO w aS M)) l (.lst zs)
    have hzl : HE l = some (.lst zs) := upd_same
    have hzs2 : DpAll K HE zs (S2.map rd) := dpAll_same sl _ _ hzs
    have sHE : Same HD HE := sa.trans sl
    refine ⟨l, rfl, ⟨zs, SqL.of hzl⟩, fun D hD => ?_⟩
    have zl : zs.length = S2.length := by rw [dpAll_len hzs, List.length_map]
    refine lc_list (xs := zs) (fun i H1 => Same HE H1 ∧ H1 D = some (.lst (((S2.take i).map wtS).map V.str))) ⟨same_new hD _, upd_same⟩ (fun i H1 _ hI => SqL.of (hI.1 _ _ hzl)) (fun i x H1 hx hI => ?_) (fun HQ hI => ?_)
    · obtain ⟨sm, hd⟩ := hI
      obtain ⟨dd, hdd, hxd⟩ := dpAll_at' hzs2 hx
      obtain ⟨r, hr0, rfl⟩ := map_at hdd
      have il : i < S2.length := (List.getElem?_eq_some_iff.mp hr0).1
      refine ⟨rfl, x, rfl, x, r, rfl, dp_same sm _ _ hxd, isS r (List.mem_of_getElem? hr0), fun H2 s2 => ?_⟩
      refine ⟨_, s2 _ _ hd, small_line' (by rw [List.length_map, List.length_map, List.length_take]; omega), same_put (sm.trans s2) hD, ?_⟩
      rw [upd_same, take_snoc hr0, List.map_append, List.map_append]
      rfl
    obtain ⟨sEQ, hDq⟩ := hI
    rw [zl, List.take_length] at hDq
    have hv := hv.same (sHE.trans sEQ)
    have sHQ := s1.trans (sHE.trans sEQ)
    have hP1 := pu1.same sHQ
    have barQ : Bar p HB HQ := bar1.trans (.same sHQ)
    have nD : D ≠ p := fun z => by
      obtain ⟨x1, x2, x3, x4, _⟩ := hP1
      rw [z, x4] at hDq
      injection hDq with e
      injection e with e
      cases S2 with
      | nil => cases e
      | cons r S2 => cases e
    clear hS2 hall isP hM hzs hzs2 hzl haS hln
    have jb : ∀ {L : List Rl}, (∀ r ∈ L, IsR r) → L.length ≤ 6 → ((L.map wtS).map fun z => z.length).sum + (L.map wtS).length * sNl.length ≤ 16777216 := fun {L} hI h6 => by
      have := wtAll_sum hI
      have l1 : sNl.length = 1 := by decide +kernel
      rw [List.length_map, l1]
      omega
    have jS := jb isS (by omega)
    -- written, asked
    obtain ⟨va, dxv, tv, ysv, rfl, h1, h2, h3⟩ := id hv
    refine ⟨.ref va, rfl, va, dxv, _, rfl, h1, rfl, .ref va, S2, rfl, hv, isS, few1, fun H1 z1 => ?_⟩
    refine ⟨⟨_, rfl⟩, .ref D, rfl, sNl, D, S2.map wtS, rfl, rfl, .inl (SqL.of (z1 _ _ hDq)), jS, ?_⟩
    refine ⟨rfl, false, neS _, iteF ?_⟩
    refine ⟨⟨_, rfl⟩, .ref D, rfl, sNl, D, S2.map wtS, rfl, rfl, .inl (SqL.of (z1 _ _ hDq)), jS, ?_⟩
    dsimp only [tNil]
    refine asked_ok (n := 0) (fit_all isS smS (by omega)) (by decide) (tells_all isS smS hSS) fun H2 p2 z2 hd2 => ?_
    refine ⟨.ref va, rfl, va, dxv, _, rfl, (z1.trans z2) _ _ h1, .ref va, S2, rfl, hv.same (z1.trans z2), fun t ys ht hy => ?_⟩
    refine ⟨by show 2 ≤ sizeLine; decide, fun p3 hp3 => ?_⟩
    have z3 := same_new hp3 (.lst [.str "rules", .ref t])
    refine ⟨tellR S2, tellR S2, dp_same z3 _ _ hd2, dp_tellR upd_same (same_tup z3 ht) (dpAll_same z3 _ _ hy), shaped_tellR isS, shaped_tellR isS, _, rfl, ?_⟩
    rw [eqv_self (shaped_tellR isS)]
    refine iteF ?_
    have z123 := z1.trans (z2.trans z3)
    generalize upd H2 p3 (.lst [.str "rules", .ref t]) = H3 at z123 ⊢
    -- mixed
    let xs : List V := (S2.map wtS).map V.str
    have xl : xs.length = S2.length := by
      show ((S2.map wtS).map V.str).length = _
      rw [List.length_map, List.length_map]
    refine ⟨.ref D, rfl, D, xs, rfl, SqL.of (z123 _ _ hDq), fun lr hlr => ?_⟩
    have y1 := same_new hlr (.lst xs.reverse)
    refine ⟨.ref D, rfl, 1, rfl, D, xs, rfl, SqL.of ((z123.trans y1) _ _ hDq), fun lc hlc => ?_⟩
    have y2 := same_new hlc (.lst (cutV xs none (some 1)))
    refine ⟨lr, lc, _, _, rfl, rfl, y2 _ _ upd_same, upd_same, small_line (by rw [cut1, List.length_reverse, List.length_take]; omega), fun lM hlM => ?_⟩
    have y3 := same_new hlM (.lst (xs.reverse ++ cutV xs none (some 1)))
    let M : List Rl := S2.reverse ++ S2.take 1
    have isM : ∀ r ∈ M, IsR r := fun r hr => by
      rcases List.mem_append.mp hr with h | h
      · exact isS r (List.mem_reverse.mp h)
      · exact isS r (List.mem_of_mem_take h)
    have smM : ∀ r ∈ M, Sm5 r := fun r hr => by
      rcases List.mem_append.mp hr with h | h
      · exact smS r (List.mem_reverse.mp h)
      · exact smS r (List.mem_of_mem_take h)
    have lM6 : M.length ≤ 6 := by
      show (S2.reverse ++ S2.take 1).length ≤ 6
      rw [List.length_append, List.length_reverse, List.length_take]
      omega
    have hSM : Srt S2 M := ⟨hS1.nd, hS1.ris, fun r => ⟨fun h => List.mem_append_left _ (List.mem_reverse.mpr h), fun h => by
      rcases List.mem_append.mp h with h | h
      · exact List.mem_reverse.mp h
      · exact List.mem_of_mem_take h⟩⟩
    have jM := jb isM lM6
    have eM : xs.reverse ++ cutV xs none (some 1) = (M.map wtS).map V.str := by
      rw [cut1]
      show ((S2.map wtS).map V.str).reverse ++ ((S2.map wtS).map V.str).take 1 = ((S2.reverse ++ S2.take 1).map wtS).map V.str
      rw [List.map_append, List.map_append, List.map_reverse, List.map_reverse, List.map_take, List.map_take]
    have hMl : (upd (upd (upd H3 lr (.lst xs.reverse)) lc (.lst (cutV xs none (some 1)))) lM (.lst (xs.reverse ++ cutV xs none (some 1)))) lM = some (.lst ((M.map wtS).map V.str)) := by
      rw [← eM]
      exact upd_same
    have sQM := z123.trans (y1.trans (y2.trans y3))
    have nlM : lM ≠ p := (hP1.same (z123.trans (y1.trans y2))).some hlM
    generalize upd (upd (upd H3 lr (.lst xs.reverse)) lc (.lst (cutV xs none (some 1)))) lM (.lst (xs.reverse ++ cutV xs none (some 1))) = HM at hMl sQM ⊢
    have hv := hv.same sQM
    have h1 := sQM _ _ h1
    have hDq := sQM _ _ hDq
    have hP2 := hP1.same sQM
    have barM : Bar p HB HM := barQ.trans (.same sQM)
    clear z123 y1 y2 y3 hlM hlc hlr z1 z2 z3
    refine ⟨fun σ H => σ = [some (.ref a), some (.ref tN), some (.int (0 + (i0 : Int))), some (.ref p), some (.ref aR), some (.ref va), some (.ref D), some (.ref lM), y8, y9, y10, y11, none] ∧ Same HM H, ?_, ?_⟩
    · refine ⟨.ref D, rfl, by show 0 ≤ sizeLine; decide, fun e he => ?_⟩
      have x1 := same_new he (.lst [])
      refine ⟨D, e, _, rfl, rfl, SqL.of (x1 _ _ hDq), SqL.of upd_same, _, rfl, ite2 (fun c => ?_) (fun c => ?_)⟩
      · refine ⟨rfl, ⟨_, rfl⟩, .ref lM, rfl, sNl, lM, M.map wtS, rfl, rfl, .inl (SqL.of (x1 _ _ hMl)), jM, ?_⟩
        refine read_all isM smM lM6 hSM fun H5 v5 x2 hv5 => ?_
        obtain ⟨a5, dx5, t5, ys5, rfl, g1, g2, g3⟩ := id hv5
        refine ⟨.ref va, rfl, a5, dx5, _, va, dxv, _, rfl, rfl, g1, (x1.trans x2) _ _ h1, .ref a5, .ref va, S2, rfl, hv5, isS, .inl ⟨S2, hv.same (x1.trans x2), isS, _, rfl, _, rfl, ?_⟩⟩
        rw [decide_eq_true rfl]
        refine iteF ?_
        have x3 := x1.trans x2
        refine ⟨rfl, .ref va, rfl, va, dxv, _, rfl, x3 _ _ h1, rfl, .ref va, S2, rfl, hv.same x3, isS, few1, fun H6 x4 => ⟨rfl, ?_⟩⟩
        refine read_all isS smS (by omega) hSS fun H7 v7 x5 hv7 => ?_
        obtain ⟨a7, dx7, t7, ys7, rfl, k1', k2', k3'⟩ := id hv7
        have x6 := x3.trans (x4.trans x5)
        refine ⟨.ref va, rfl, a7, dx7, _, va, dxv, _, rfl, rfl, k1', x6 _ _ h1, .ref a7, .ref va, S2, rfl, hv7, isS, .inl ⟨S2, hv.same x6, isS, _, rfl, _, rfl, ?_⟩⟩
        rw [decide_eq_true rfl]
        exact iteF ⟨rfl, x6⟩
      · refine ⟨rfl, .ref va, rfl, va, dxv, _, rfl, x1 _ _ h1, rfl, .ref va, S2, rfl, hv.same x1, isS, few1, fun H6 x4 => ⟨rfl, ?_⟩⟩
        refine read_all isS smS (by omega) hSS fun H7 v7 x5 hv7 => ?_
        obtain ⟨a7, dx7, t7, ys7, rfl, k1', k2', k3'⟩ := id hv7
        have x6 := x1.trans (x4.trans x5)
        refine ⟨.ref va, rfl, a7, dx7, _, va, dxv, _, rfl, rfl, k1', x6 _ _ h1, .ref a7, .ref va, S2, rfl, hv7, isS, .inl ⟨S2, hv.same x6, isS, _, rfl, _, rfl, ?_⟩⟩
        rw [decide_eq_true rfl]
        exact iteF ⟨rfl, x6⟩
    rintro σ HN ⟨rfl, sMN⟩
    have hv := hv.same sMN
    have h1 := sMN _ _ h1
    have hDq := sMN _ _ hDq
    have hMl := sMN _ _ hMl
    have hP3 := hP2.same sMN
    have barN : Bar p HB HN := barM.trans (.same sMN)
    -- again
    refine ⟨rfl, ⟨_, rfl⟩, .ref lM, rfl, sNl, lM, M.map wtS, rfl, rfl, .inl (SqL.of hMl), jM, ?_⟩
    refine read_all isM smM lM6 hSM fun H5 v5 x1 hv5 => ?_
    obtain ⟨a5, dx5, t5, ys5, rfl, g1, g2, g3⟩ := id hv5
    refine ⟨.ref a5, rfl, a5, dx5, _, rfl, g1, rfl, .ref a5, S2, rfl, hv5, isS, few1, fun H6 x2 => ?_⟩
    refine ⟨⟨_, rfl⟩, .ref D, rfl, sNl, D, S2.map wtS, rfl, rfl, .inl (SqL.of ((x1.trans x2) _ _ hDq)), jS, ?_⟩
    refine ⟨rfl, false, neS _, iteF ?_⟩
    refine ⟨.ref a5, rfl, a5, dx5, _, rfl, x2 _ _ g1, .ref a5, S2, rfl, hv5.same x2, (S2.length : Int), rfl, by omega, by omega, ?_⟩
    refine ⟨.ref D, rfl, D, _, rfl, .inl (SqL.of ((x1.trans x2) _ _ hDq)), ?_⟩
    refine ⟨rfl, false, by rw [List.length_map, List.length_map]; exact neI _, iteF ?_⟩
    -- names and kind
    have x12 := x1.trans x2
    have hv5b := hv5.same x2
    have hvb := hv.same x12
    refine ⟨.ref a5, rfl, a5, dx5, _, rfl, x2 _ _ g1, .ref a5, S2, names5, rfl, hv5b, isS, nmS, by decide, fun H7 t7 n7 x3 ht7 hn7 hm7 => ?_⟩
    refine ⟨.ref a5, rfl, a5, dx5, _, rfl, (x2.trans x3) _ _ g1, .ref a5, S2, rfl, hv5b.same x3, few1, fun H8 x4 => ?_⟩
    refine ⟨by show 2 ≤ sizeLine; decide, fun t8 ht8 => ?_⟩
    have x5 := same_new ht8 (.tup [.ref t7, .str (kindS S2)])
    have x35 := x3.trans (x4.trans x5)
    refine ⟨.ref va, rfl, va, dxv, _, rfl, (x12.trans x35) _ _ h1, .ref va, S2, names5, rfl, hvb.same x35, isS, nmS, by decide, fun H9 t9 n9 x6 ht9 hn9 hm9 => ?_⟩
    refine ⟨.ref va, rfl, va, dxv, _, rfl, (x12.trans (x35.trans x6)) _ _ h1, .ref va, S2, rfl, hvb.same (x35.trans x6), few1, fun H10 x7 => ?_⟩
    refine ⟨by show 2 ≤ sizeLine; decide, fun t10 ht10 => ?_⟩
    have x8 := same_new ht10 (.tup [.ref t9, .str (kindS S2)])
    have x68 := x6.trans (x7.trans x8)
    obtain rfl : n7 = n9 := upX_one hn7.up hn9.up fun z => (hm7 z).trans (hm9 z).symm
    have shp : SeqAt.shaped (.tuple [wd n7, .str (kindS S2)]) = true := by
      refine shaped_of ?_ ?_
      · have e1 : (wd n7).canLay0 = true := lay_wd hn7.names
        have e2 : (PyData.str (kindS S2)).canLay0 = true := by
          unfold kindS
          split
          · decide +kernel
          · split <;> decide +kernel
        simp [PyData.canLay0, PyData.canLayAll0, e1]
        exact e2
      · have e3 := depth_wd n7
        simp [PyData.depth, PyData.depthAll, e3]
    refine ⟨.tuple [wd n7, .str (kindS S2)], .tuple [wd n7, .str (kindS S2)], .tup (same_tup x68 (SqT.of upd_same)) (.cons (to_wd (same_tup ((x4.trans x5).trans x68) ht7)) (.cons (.str _) .nil)), .tup (SqT.of upd_same) (.cons (to_wd (same_tup (x7.trans x8) ht9)) (.cons (.str _) .nil)), shp, shp, _, rfl, ?_⟩
    rw [eqv_self shp]
    refine iteF ?_
    have x18 := x12.trans (x35.trans x68)
    generalize upd H10 t10 (.tup [.ref t9, .str (kindS S2)]) = HU at x18 x68 ⊢
    have hv5c := hv5b.same (x35.trans x68)
    have hvc := hv.same x18
    have g1c := (x2.trans (x35.trans x68)) _ _ g1
    have h1c := x18 _ _ h1
    -- again + made
    refine ⟨.ref a5, rfl, .ref va, rfl, a5, dx5, _, va, dxv, _, rfl, rfl, g1c, h1c, .ref a5, .ref va, S2, rfl, hv5c, isS, .inl ⟨S2, hvc, isS, by omega, fun HV v9 S9 w1 hS9 few9 hv9 => ?_⟩⟩
    have e9 : S9 = S2 := hS9.one hSS fun r => by simp
    rw [e9] at hv9
    obtain ⟨a9, dx9, t9', ys9, rfl, k91, k92, k93⟩ := id hv9
    refine ⟨a9, dx9, _, rfl, k91, rfl, .ref a9, S2, rfl, hv9, isS, few1, fun HW w2 => ?_⟩
    have w12 := x18.trans (w1.trans w2)
    refine ⟨⟨_, rfl⟩, .ref D, rfl, sNl, D, S2.map wtS, rfl, rfl, .inl (SqL.of (w12 _ _ hDq)), jS, ?_⟩
    refine ⟨rfl, false, neS _, iteF ?_⟩
    have hMl := w12 _ _ hMl
    have hP4 := hP3.same w12
    have barW : Bar p HB HW := barN.trans (.same w12)
    -- the bends
    refine ⟨6, rfl, by decide, by decide, for_range (n := 6) (fun j σ H1 => (∃ y9 y10, σ = [some (.ref a), some (.ref tN), some (.int (0 + (i0 : Int))), some (.ref p), some (.ref aR), some (.ref va), some (.ref D), some (.ref lM), some (.ref a5), y9, y10, y11, none]) ∧ Bar p HW H1 ∧ Pur H1 p (115000 + 20 * j)) ⟨⟨_, _, rfl⟩, .same fun _ _ e => e, hP4.le (by omega)⟩ (fun j σ HX hj hI => ?_) (fun σ HX hI => ?_)⟩
    · obtain ⟨⟨y9, y10, rfl⟩, bX, puX⟩ := hI
      have hMx := bX _ _ nlM hMl
      refine ⟨.ref p, rfl, ⟨_, rfl⟩, .ref lM, rfl, sNl, lM, M.map wtS, rfl, rfl, .inl (SqL.of hMx), jM, ?_⟩
      dsimp only [tNil]
      refine ⟨p, wtAll M, _, rfl, puX, by omega, fit_all isM smM lM6, fun HY z' bY puY fz => ?_⟩
      obtain ⟨d, sh, td⟩ := tells_any z'
      refine ⟨.str z', rfl, ?_⟩
      dsimp only [tNil]
      refine asked_ok fz (by decide) td fun H2 p2 w3 hd2 => ?_
      refine ⟨.str z', rfl, ?_⟩
      dsimp only [tNil]
      refine due_ok fz (by decide) td fun H3 p3 w4 hd3 => ?_
      refine ⟨d, d, dp_same w4 _ _ hd2, hd3, sh, sh, _, rfl, ?_⟩
      rw [eqv_self sh]
      have w34 := w3.trans w4
      exact iteF ⟨⟨_, _, rfl⟩, bX.trans (bY.trans (.same w34)), (puY.same w34).le (by omega)⟩
    obtain ⟨⟨y9', y10', rfl⟩, bX, puX⟩ := hI
    -- odd
    refine ⟨by show 1 ≤ sizeLine; decide, fun u1 hu1 => ?_⟩
    have q1 := same_new hu1 (.lst [.str "a."])
    refine ⟨by show 1 ≤ sizeLine; decide, fun u2 hu2 => ?_⟩
    have q2 := same_new hu2 (.tup [.str "a."])
    refine ⟨by show 5 ≤ sizeLine; decide, fun u3 hu3 => ?_⟩
    have q3 := same_new hu3 (.lst [.non, .int 7, .ref u1, .ref u2, .bl true])
    have q13 := q1.trans (q2.trans q3)
    have nu1 : u1 ≠ p := puX.some hu1
    have nu3 : u3 ≠ p := (puX.same (q1.trans q2)).some hu3
    have e1 := (q2.trans q3) _ _ upd_same
    have e2 := SqT.of (K := K) (q3 _ _ upd_same)
    have e3 : (upd (upd (upd HX u1 (.lst [.str "a."])) u2 (.tup [.str "a."])) u3 (.lst [.non, .int 7, .ref u1, .ref u2, .bl true])) u3 = some (.lst [.non, .int 7, .ref u1, .ref u2, .bl true]) := upd_same
    have puZ := puX.same q13
    generalize upd (upd (upd HX u1 (.lst [.str "a."])) u2 (.tup [.str "a."])) u3 (.lst [.non, .int 7, .ref u1, .ref u2, .bl true]) = HZ at q13 e1 e2 e3 puZ ⊢
    refine ⟨.ref p, rfl, p, 5, _, rfl, puZ, by omega, by decide, by decide, fun r us r0 r1 pu9 => ?_⟩
    obtain ⟨m, rfl⟩ := Int.eq_ofNat_of_zero_le r0
    have bD : Bar p HZ (upd HZ p (.lst us)) := .draw
    have fin : ∀ H', Bar p HZ H' → Same H00 H' := fun H' b => up H' (barW.trans (bX.trans ((Bar.same q13).trans b)))
    have e3' := bD _ _ nu3 e3
    have lt : m < 5 := by omega
    obtain ⟨x, hx, hnt⟩ : ∃ x, ([V.non, .int 7, .ref u1, .ref u2, .bl true] : List V)[m]? = some x ∧ NotT K (upd HZ p (.lst us)) x "str" := by
      rcases m with _ | _ | _ | _ | _ | m
      · exact ⟨_, rfl, _, .base .non, kit_ty (by decide +kernel)⟩
      · exact ⟨_, rfl, _, .base (.int _), kit_ty (by decide +kernel)⟩
      · exact ⟨_, rfl, _, tyx_dp (d := .list [.str "a."]) (.lst (SqL.of (bD _ _ nu1 e1)) (.cons (.str _) .nil)), kit_ty (by decide +kernel)⟩
      · exact ⟨_, rfl, _, tyx_tup ((bD.stay puZ.mut).seq e2), kit_ty (by decide +kernel)⟩
      · exact ⟨_, rfl, _, .base (.bl _), kit_ty (by decide +kernel)⟩
      · omega
    refine ⟨u3, _, m, x, rfl, rfl, SqL.of e3', atI_nat hx, ?_⟩
    have finD := fin _ bD
    generalize upd HZ p (.lst us) = HO at hnt finD ⊢
    refine ⟨x, rfl, ?_⟩
    dsimp only [tNil]
    refine ⟨x, rfl, .inl ⟨hnt, fun H2 p2 w3 hp2 => ?_⟩⟩
    refine ⟨by show 2 ≤ sizeLine; decide, fun p3 hp3 => ?_⟩
    have w4 := same_new hp3 (.lst [.str "line", .int 0])
    refine ⟨tellL 0, tellL 0, dp_same w4 _ _ (dp_tellL hp2), dp_tellL upd_same, shaped_tellL 0, shaped_tellL 0, _, rfl, ?_⟩
    rw [eqv_self (shaped_tellL 0)]
    exact iteF ⟨⟨_, _, _, _, _, _, _, _, _, _, rfl⟩, finD.trans (w3.trans w4)⟩
  · obtain ⟨⟨y2, y3, y4, y5, y6, y7, y8, y9, y10, y11, rfl⟩, smA⟩ := hI
    -- the first
    dsimp only [tSeq, tIfS, tTest, tOp, tCall, tCons, tC, tNil]
    refine asked_ok fit_A (by decide) tells_A fun H2 p2 z0 hd2 => ?_
    refine ⟨by show 1 ≤ sizeLine; decide, fun u1 hu1 => ?_⟩
    have q1 := same_new hu1 (.tup [.str "a"])
    refine ⟨by show 1 ≤ sizeLine; decide, fun u2 hu2 => ?_⟩
    have q2 := same_new hu2 (.tup [.str "b"])
    refine ⟨by show 1 ≤ sizeLine; decide, fun u3 hu3 => ?_⟩
    have q3 := same_new hu3 (.tup [.str "c"])
    refine ⟨by show 1 ≤ sizeLine; decide, fun u4 hu4 => ?_⟩
    have q4 := same_new hu4 (.tup [.str "d"])
    refine ⟨by show 4 ≤ sizeLine; decide, fun u5 hu5 => ?_⟩
    have q5 := same_new hu5 (.tup [.ref u1, .ref u2, .ref u3, .ref u4])
    refine ⟨by show 1 ≤ sizeLine; decide, fun u6 hu6 => ?_⟩
    have q6 := same_new hu6 (.tup [.ref u5])
    refine ⟨by show 2 ≤ sizeLine; decide, fun u7 hu7 => ?_⟩
    have q7 := same_new hu7 (.lst [.str "rules", .ref u6])
    have q67 := q6.trans q7
    have q57 := q5.trans q67
    have q47 := q4.trans q57
    have q37 := q3.trans q47
    have q27 := q2.trans q37
    have q17 := q1.trans q27
    have shA : SeqAt.shaped (tellR [ruleA]) = true := shaped_tellR fun r hr => by rw [List.mem_singleton.mp hr]; exact isR_A
    have sh0 : SeqAt.shaped (tellR [rule0]) = true := shaped_tellR fun r hr => by rw [List.mem_singleton.mp hr]; exact isR_0
    refine ⟨tellR [ruleA], tellR [ruleA], dp_same q17 _ _ hd2, dp_tellR upd_same (SqT.of (q7 _ _ upd_same)) (.cons (to_rd (SqT.of (q67 _ _ upd_same)) (to_wd (ns := ["a"]) (SqT.of (q27 _ _ upd_same))) (to_wd (ns := ["b"]) (SqT.of (q37 _ _ upd_same))) (to_wd (ns := ["c"]) (SqT.of (q47 _ _ upd_same))) (to_wd (ns := ["d"]) (SqT.of (q57 _ _ upd_same)))) .nil), shA, shA, _, rfl, ?_⟩
    rw [eqv_self shA]
    refine iteF ?_
    -- the second
    dsimp only [tNext, tRet, tAndV, tOp, tCall, tCons, tC, tNil]
    refine asked_ok fit_B (by decide) tells_B fun H3 p3 z1 hd3 => ?_
    refine ⟨by show 0 ≤ sizeLine; decide, fun v1 hv1 => ?_⟩
    have r1 := same_new hv1 (.tup [])
    refine ⟨by show 0 ≤ sizeLine; decide, fun v2 hv2 => ?_⟩
    have r2 := same_new hv2 (.tup [])
    refine ⟨by show 0 ≤ sizeLine; decide, fun v3 hv3 => ?_⟩
    have r3 := same_new hv3 (.tup [])
    refine ⟨by show 0 ≤ sizeLine; decide, fun v4 hv4 => ?_⟩
    have r4 := same_new hv4 (.tup [])
    refine ⟨by show 4 ≤ sizeLine; decide, fun v5 hv5 => ?_⟩
    have r5 := same_new hv5 (.tup [.ref v1, .ref v2, .ref v3, .ref v4])
    refine ⟨by show 1 ≤ sizeLine; decide, fun v6 hv6 => ?_⟩
    have r6 := same_new hv6 (.tup [.ref v5])
    refine ⟨by show 2 ≤ sizeLine; decide, fun v7 hv7 => ?_⟩
    have r7 := same_new hv7 (.lst [.str "rules", .ref v6])
    have r67 := r6.trans r7
    have r57 := r5.trans r67
    have r47 := r4.trans r57
    have r37 := r3.trans r47
    have r27 := r2.trans r37
    have r17 := r1.trans r27
    refine ⟨tellR [rule0], tellR [rule0], dp_same r17 _ _ hd3, dp_tellR upd_same (SqT.of (r7 _ _ upd_same)) (.cons (to_rd (SqT.of (r67 _ _ upd_same)) (to_wd (ns := []) (SqT.of (r27 _ _ upd_same))) (to_wd (ns := []) (SqT.of (r37 _ _ upd_same))) (to_wd (ns := []) (SqT.of (r47 _ _ upd_same))) (to_wd (ns := []) (SqT.of (r57 _ _ upd_same)))) .nil), sh0, sh0, true, congrArg V.bl (eqv_self sh0), ?_⟩
    refine iteT ?_
    -- the third
    refine asked_ok fit_C (by decide) tells_C fun H4 p4 z2 hd4 => ?_
    refine ⟨by show 2 ≤ sizeLine; decide, fun t7 ht7 => ?_⟩
    have w7 := same_new ht7 (.lst [.str "line", .int 2])
    refine ⟨tellL 2, tellL 2, dp_same w7 _ _ hd4, dp_tellL upd_same, shaped_tellL 2, shaped_tellL 2, ?_⟩
    rw [eqv_self (shaped_tellL 2)]
    exact q _
end
end Rw
namespace Rw
open PySem PySem.Spec PyProof.Rows L2 ClX
theorem emptyB_ok {K : PySem.W.Frag} {a : Addr} (h : emptyB K a = true) (H : Hp) : SqT K H a [] := by
  unfold emptyB at h
  split at h
  · rename_i c _ its n _ e
    rw [Bool.and_eq_true] at h
    obtain ⟨h1, h2⟩ := h
    have h1 := of_decide_eq_true h1
    subst h1
    have h2 : its.toList = [] := List.isEmpty_iff.mp h2
    refine .inr ⟨_, its, n, e, rfl, rfl, ?_, ?_⟩
    · rw [← Array.length_toList, h2]
      decide
    · rw [h2]
      exact .nil
  · exact nomatch h
theorem exL_at {K : PySem.W.Frag} {C : Addr} (h : (exL K C).all id = true) (i : Nat) {b : Bool} (e : (exL K C)[i]? = some b) : b = true := List.all_eq_true.mp h b (List.mem_of_getElem? e)
theorem pgC_of {K : PySem.W.Frag} {mg : Str → Option Value} {C : Addr} (h : pgP K C) (m : mg "Program" = some (.ref C)) (c : Cls K C) : PgC K mg C := by
  obtain ⟨h1, h2, h3, h4, h5, h6, h7, h8, h9, h10, h11, h12⟩ := h
  exact ⟨h1, h2, h3, h4, h5, h6, h7, h8, m, c, h9, h10, h11, h12⟩
theorem hfacts {P : Program} {w : World} {K : PySem.W.Frag} {h : Heap} {mg : Str → Option Value} {f : Addr} (X : K.In h) (G : h.Ns mainGlobals mg) (hfa_ : mg ("law" : Str) = some (.ref f)) (c : He5.SaysA hfa hfn K) (ce : exB K = true) :
    ∃ fd : FuncData, (∀ (s : Shared) (v : Value), BindsTo s fd ⟨[v], []⟩ [("script", v)]) ∧ ∀ base : Heap, K.In base → base.Ns mainGlobals mg → FnOk P w K mg base CX0 9 f fd ["script"] (spLaw K) := by
  obtain ⟨fd0, D0⟩ := c.def_ 0 (d := dOf "is_name" sIsName) rfl
  have F0 : Fun K "is_name" "is_name" sIsName _ fd0 := fun_of D0
  have B0 := D0.bindsN (ps := ["thing"]) fun _ _ _ _ _ _ us hl => match us, hl with | [_], _ => rfl
  have M0 : mg "is_name" = _ := He.glo_ok X G (c.fact 20 (f := .glo "is_name") rfl)
  obtain ⟨fd1, D1⟩ := c.def_ 1 (d := dOf "_are_names" sAreNames) rfl
  have F1 : Fun K "_are_names" "_are_names" sAreNames _ fd1 := fun_of D1
  have B1 := D1.bindsN (ps := ["thing"]) fun _ _ _ _ _ _ us hl => match us, hl with | [_], _ => rfl
  have M1 : mg "_are_names" = _ := He.glo_ok X G (c.fact 21 (f := .glo "_are_names") rfl)
  obtain ⟨fd2, D2⟩ := c.def_ 2 (d := dOf "_set_of" sSetOf) rfl
  have F2 : Fun K "_set_of" "_set_of" sSetOf _ fd2 := fun_of D2
  have B2 := D2.bindsN (ps := ["names"]) fun _ _ _ _ _ _ us hl => match us, hl with | [_], _ => rfl
  have M2 : mg "_set_of" = _ := He.glo_ok X G (c.fact 22 (f := .glo "_set_of") rfl)
  obtain ⟨fd3, D3⟩ := c.def_ 3 (d := dOf "is_world" sIsWorld) rfl
  have F3 : Fun K "is_world" "is_world" sIsWorld _ fd3 := fun_of D3
  have B3 := D3.bindsN (ps := ["thing"]) fun _ _ _ _ _ _ us hl => match us, hl with | [_], _ => rfl
  have M3 : mg "is_world" = _ := He.glo_ok X G (c.fact 23 (f := .glo "is_world") rfl)
  obtain ⟨fd4, D4⟩ := c.def_ 4 (d := dOf "is_rule" sIsRule) rfl
  have F4 : Fun K "is_rule" "is_rule" sIsRule _ fd4 := fun_of D4
  have B4 := D4.bindsN (ps := ["thing"]) fun _ _ _ _ _ _ us hl => match us, hl with | [_], _ => rfl
  have M4 : mg "is_rule" = _ := He.glo_ok X G (c.fact 24 (f := .glo "is_rule") rfl)
  obtain ⟨fd5, D5⟩ := c.def_ 5 (d := dOf "_written_rule" sWritten1) rfl
  have F5 : Fun K "_written_rule" "_written_rule" sWritten1 _ fd5 := fun_of D5
  have B5 := D5.bindsN (ps := ["row"]) fun _ _ _ _ _ _ us hl => match us, hl with | [_], _ => rfl
  have M5 : mg "_written_rule" = _ := He.glo_ok X G (c.fact 25 (f := .glo "_written_rule") rfl)
  obtain ⟨fd6, D6⟩ := c.def_ 6 (d := dOf "_with_not" sWithNot) rfl
  have F6 : Fun K "_with_not" "_with_not" sWithNot _ fd6 := fun_of D6
  have B6 := D6.bindsN (ps := ["plain", "negated"]) fun _ _ _ _ _ _ us hl => match us, hl with | [_, _], _ => rfl
  have M6 : mg "_with_not" = _ := He.glo_ok X G (c.fact 26 (f := .glo "_with_not") rfl)
  obtain ⟨fd7, D7⟩ := c.def_ 7 (d := dOf "_read_rule" sReadRule) rfl
  have F7 : Fun K "_read_rule" "_read_rule" sReadRule _ fd7 := fun_of D7
  have B7 := D7.bindsN (ps := ["line"]) fun _ _ _ _ _ _ us hl => match us, hl with | [_], _ => rfl
  have M7 : mg "_read_rule" = _ := He.glo_ok X G (c.fact 27 (f := .glo "_read_rule") rfl)
  obtain ⟨fd8, D8⟩ := c.def_ 8 (d := dOf "_halves" sHalves) rfl
  have F8 : Fun K "_halves" "_halves" sHalves _ fd8 := fun_of D8
  have B8 := D8.bindsN (ps := ["line"]) fun _ _ _ _ _ _ us hl => match us, hl with | [_], _ => rfl
  have M8 : mg "_halves" = _ := He.glo_ok X G (c.fact 28 (f := .glo "_halves") rfl)
  obtain ⟨fd9, D9⟩ := c.def_ 9 (d := dOf "_without_not" sWithout) rfl
  have F9 : Fun K "_without_not" "_without_not" sWithout _ fd9 := fun_of D9
  have B9 := D9.bindsN (ps := ["half", "mark"]) fun _ _ _ _ _ _ us hl => match us, hl with | [_, _], _ => rfl
  have M9 : mg "_without_not" = _ := He.glo_ok X G (c.fact 29 (f := .glo "_without_not") rfl)
  obtain ⟨fd10, D10⟩ := c.def_ 10 (d := dOf "_law_at" sLawAt) rfl
  have F10 : Fun K "_law_at" "_law_at" sLawAt _ fd10 := fun_of D10
  have B10 := D10.bindsN (ps := ["script", "k"]) fun _ _ _ _ _ _ us hl => match us, hl with | [_, _], _ => rfl
  have M10 : mg "_law_at" = _ := He.glo_ok X G (c.fact 30 (f := .glo "_law_at") rfl)
  obtain ⟨fd11, D11⟩ := c.def_ 11 (d := dOf "_law_mixed" sLawMixed) rfl
  have F11 : Fun K "_law_mixed" "_law_mixed" sLawMixed _ fd11 := fun_of D11
  have B11 := D11.bindsN (ps := ["cell", "k"]) fun _ _ _ _ _ _ us hl => match us, hl with | [_, _], _ => rfl
  have M11 : mg "_law_mixed" = _ := He.glo_ok X G (c.fact 31 (f := .glo "_law_mixed") rfl)
  obtain ⟨fd12, D12⟩ := c.def_ 12 (d := dOf "_law_purse" sLawPurse) rfl
  have F12 : Fun K "_law_purse" "_law_purse" sLawPurse _ fd12 := fun_of D12
  have B12 := D12.bindsN (ps := ["script", "at"]) fun _ _ _ _ _ _ us hl => match us, hl with | [_, _], _ => rfl
  have M12 : mg "_law_purse" = _ := He.glo_ok X G (c.fact 32 (f := .glo "_law_purse") rfl)
  obtain ⟨fd13, D13⟩ := c.def_ 13 (d := dOf "_law_draw" sLawDraw) rfl
  have F13 : Fun K "_law_draw" "_law_draw" sLawDraw _ fd13 := fun_of D13
  have B13 := D13.bindsN (ps := ["purse", "out_of"]) fun _ _ _ _ _ _ us hl => match us, hl with | [_, _], _ => rfl
  have M13 : mg "_law_draw" = _ := He.glo_ok X G (c.fact 33 (f := .glo "_law_draw") rfl)
  obtain ⟨fd14, D14⟩ := c.def_ 14 (d := dOf "_law_some" sLawSome) rfl
  have F14 : Fun K "_law_some" "_law_some" sLawSome _ fd14 := fun_of D14
  have B14 := D14.bindsN (ps := ["purse", "names", "most"]) fun _ _ _ _ _ _ us hl => match us, hl with | [_, _, _], _ => rfl
  have M14 : mg "_law_some" = _ := He.glo_ok X G (c.fact 34 (f := .glo "_law_some") rfl)
  obtain ⟨fd15, D15⟩ := c.def_ 15 (d := dOf "_law_row" sLawRow) rfl
  have F15 : Fun K "_law_row" "_law_row" sLawRow _ fd15 := fun_of D15
  have B15 := D15.bindsN (ps := ["purse", "names", "way"]) fun _ _ _ _ _ _ us hl => match us, hl with | [_, _, _], _ => rfl
  have M15 : mg "_law_row" = _ := He.glo_ok X G (c.fact 35 (f := .glo "_law_row") rfl)
  obtain ⟨fd16, D16⟩ := c.def_ 16 (d := dOf "_law_rows" sLawRows) rfl
  have F16 : Fun K "_law_rows" "_law_rows" sLawRows _ fd16 := fun_of D16
  have B16 := D16.bindsN (ps := ["purse", "names", "most"]) fun _ _ _ _ _ _ us hl => match us, hl with | [_, _, _], _ => rfl
  have M16 : mg "_law_rows" = _ := He.glo_ok X G (c.fact 36 (f := .glo "_law_rows") rfl)
  obtain ⟨fd17, D17⟩ := c.def_ 17 (d := dOf "_law_written" sLawWritten) rfl
  have F17 : Fun K "_law_written" "_law_written" sLawWritten _ fd17 := fun_of D17
  have B17 := D17.bindsN (ps := ["row"]) fun _ _ _ _ _ _ us hl => match us, hl with | [_], _ => rfl
  have M17 : mg "_law_written" = _ := He.glo_ok X G (c.fact 37 (f := .glo "_law_written") rfl)
  obtain ⟨fd18, D18⟩ := c.def_ 18 (d := dOf "_law_is_world" sLawIsWorld) rfl
  have F18 : Fun K "_law_is_world" "_law_is_world" sLawIsWorld _ fd18 := fun_of D18
  have B18 := D18.bindsN (ps := ["names"]) fun _ _ _ _ _ _ us hl => match us, hl with | [_], _ => rfl
  have M18 : mg "_law_is_world" = _ := He.glo_ok X G (c.fact 38 (f := .glo "_law_is_world") rfl)
  obtain ⟨fd19, D19⟩ := c.def_ 19 (d := dOf "_law_split" sLawSplit) rfl
  have F19 : Fun K "_law_split" "_law_split" sLawSplit _ fd19 := fun_of D19
  have B19 := D19.bindsN (ps := ["words", "between"]) fun _ _ _ _ _ _ us hl => match us, hl with | [_, _], _ => rfl
  have M19 : mg "_law_split" = _ := He.glo_ok X G (c.fact 39 (f := .glo "_law_split") rfl)
  obtain ⟨fd20, D20⟩ := c.def_ 20 (d := dOf "_law_read" sLawRead) rfl
  have F20 : Fun K "_law_read" "_law_read" sLawRead _ fd20 := fun_of D20
  have B20 := D20.bindsN (ps := ["line"]) fun _ _ _ _ _ _ us hl => match us, hl with | [_], _ => rfl
  have M20 : mg "_law_read" = _ := He.glo_ok X G (c.fact 40 (f := .glo "_law_read") rfl)
  obtain ⟨fd21, D21⟩ := c.def_ 21 (d := dOf "_law_due" sLawDue) rfl
  have F21 : Fun K "_law_due" "_law_due" sLawDue _ fd21 := fun_of D21
  have B21 := D21.bindsN (ps := ["words"]) fun _ _ _ _ _ _ us hl => match us, hl with | [_], _ => rfl
  have M21 : mg "_law_due" = _ := He.glo_ok X G (c.fact 41 (f := .glo "_law_due") rfl)
  obtain ⟨fd22, D22⟩ := c.def_ 22 (d := dOf "_law_asked" sLawAsked) rfl
  have F22 : Fun K "_law_asked" "_law_asked" sLawAsked _ fd22 := fun_of D22
  have B22 := D22.bindsN (ps := ["words"]) fun _ _ _ _ _ _ us hl => match us, hl with | [_], _ => rfl
  have M22 : mg "_law_asked" = _ := He.glo_ok X G (c.fact 42 (f := .glo "_law_asked") rfl)
  obtain ⟨fd23, D23⟩ := c.def_ 23 (d := dOf "_law_bent" sLawBent) rfl
  have F23 : Fun K "_law_bent" "_law_bent" sLawBent _ fd23 := fun_of D23
  have B23 := D23.bindsN (ps := ["purse", "words"]) fun _ _ _ _ _ _ us hl => match us, hl with | [_, _], _ => rfl
  have M23 : mg "_law_bent" = _ := He.glo_ok X G (c.fact 43 (f := .glo "_law_bent") rfl)
  obtain ⟨fd24, D24⟩ := c.def_ 24 (d := dOf "law" sLaw) rfl
  have F24 : Fun K "law" "law" sLaw _ fd24 := fun_of D24
  have B24 := D24.bindsN (ps := ["script"]) fun _ _ _ _ _ _ us hl => match us, hl with | [_], _ => rfl
  have M24 : mg "law" = _ := He.glo_ok X G (c.fact 44 (f := .glo "law") rfl)
  obtain ⟨fdInit, DInit⟩ := c.def_ 25 (d := dMInit) rfl
  have FInit : Fun K "__init__" "Program.__init__" sInit _ fdInit := fun_of DInit
  obtain ⟨fdOf, DOf⟩ := c.def_ 26 (d := dMOf) rfl
  have FOf : Fun K "of" "Program.of" sOf _ fdOf := fun_of DOf
  have BOf := DOf.bindsN (ps := ["cls", "rules"]) fun _ _ _ _ _ _ us hl => match us, hl with | [_, _], _ => rfl
  obtain ⟨fdRead, DRead⟩ := c.def_ 27 (d := dMRead) rfl
  have FRead : Fun K "read" "Program.read" sRead _ fdRead := fun_of DRead
  have BRead := DRead.bindsN (ps := ["cls", "text"]) fun _ _ _ _ _ _ us hl => match us, hl with | [_, _], _ => rfl
  obtain ⟨fdWritten, DWritten⟩ := c.def_ 28 (d := dMWritten) rfl
  have FWritten : Fun K "written" "Program.written" sWritten _ fdWritten := fun_of DWritten
  have BWritten := DWritten.bindsN (ps := ["self"]) fun _ _ _ _ _ _ us hl => match us, hl with | [_], _ => rfl
  obtain ⟨fdRules, DRules⟩ := c.def_ 29 (d := dMRules) rfl
  have FRules : Fun K "rules" "Program.rules" sRules _ fdRules := fun_of DRules
  have BRules := DRules.bindsN (ps := ["self"]) fun _ _ _ _ _ _ us hl => match us, hl with | [_], _ => rfl
  obtain ⟨fdNames, DNames⟩ := c.def_ 30 (d := dMNames) rfl
  have FNames : Fun K "names" "Program.names" sNames _ fdNames := fun_of DNames
  have BNames := DNames.bindsN (ps := ["self"]) fun _ _ _ _ _ _ us hl => match us, hl with | [_], _ => rfl
  obtain ⟨fdKind, DKind⟩ := c.def_ 31 (d := dMKind) rfl
  have FKind : Fun K "kind" "Program.kind" sKind _ fdKind := fun_of DKind
  have BKind := DKind.bindsN (ps := ["self"]) fun _ _ _ _ _ _ us hl => match us, hl with | [_], _ => rfl
  obtain ⟨fdAdd, DAdd⟩ := c.def_ 32 (d := dMAdd) rfl
  have FAdd : Fun K "__add__" "Program.__add__" sAdd _ fdAdd := fun_of DAdd
  have BAdd := DAdd.bindsN (ps := ["self", "other"]) fun _ _ _ _ _ _ us hl => match us, hl with | [_, _], _ => rfl
  obtain ⟨fdPLen, DPLen⟩ := c.def_ 33 (d := dMPLen) rfl
  have FPLen : Fun K "__len__" "Program.__len__" sPLen _ fdPLen := fun_of DPLen
  have BPLen := DPLen.bindsN (ps := ["self"]) fun _ _ _ _ _ _ us hl => match us, hl with | [_], _ => rfl
  obtain ⟨fdPEq, DPEq⟩ := c.def_ 34 (d := dMPEq) rfl
  have FPEq : Fun K "__eq__" "Program.__eq__" sPEq _ fdPEq := fun_of DPEq
  have BPEq := DPEq.bindsN (ps := ["self", "other"]) fun _ _ _ _ _ _ us hl => match us, hl with | [_, _], _ => rfl
  obtain ⟨fdENotProg, DENotProg⟩ := c.def_ 35 (d := dMENotProg) rfl
  have EENotProg : FunD K "__init__" "NotAProgram.__init__" (defArgs sENotProg) (defBody sENotProg) (defScope sENotProg) [.non] [] _ fdENotProg := DENotProg
  obtain ⟨dsENotProg, vENotProg, BENotProg⟩ := EENotProg.binds1 (ps := ["self", "thing"]) 2 1 (by simp) rfl fun T kV doc pm an cdv ct us its h1 h2 => match us, its, h1, h2 with | [_, _], [_], _, _ => ⟨_, rfl, rfl⟩
  cases vENotProg
  obtain ⟨fdEUnread, DEUnread⟩ := c.def_ 36 (d := dMEUnread) rfl
  have EEUnread : FunD K "__init__" "Unreadable.__init__" (defArgs sEUnread) (defBody sEUnread) (defScope sEUnread) [.non] [] _ fdEUnread := DEUnread
  obtain ⟨dsEUnread, vEUnread, BEUnread⟩ := EEUnread.binds1 (ps := ["self", "line"]) 2 1 (by simp) rfl fun T kV doc pm an cdv ct us its h1 h2 => match us, its, h1, h2 with | [_, _], [_], _, _ => ⟨_, rfl, rfl⟩
  cases vEUnread
  have mProgram : mg "Program" = _ := He.glo_ok X G (c.fact 16 (f := .glo "Program") rfl)
  have mNotAProgram : mg "NotAProgram" = _ := He.glo_ok X G (c.fact 17 (f := .glo "NotAProgram") rfl)
  have mUnreadable : mg "Unreadable" = _ := He.glo_ok X G (c.fact 18 (f := .glo "Unreadable") rfl)
  have mRuleError : mg "RuleError" = _ := He.glo_ok X G (c.fact 19 (f := .glo "RuleError") rfl)
  have T : Bl mg := ⟨He.free_ok X G (c.fact 0 (f := .free "len") rfl), He.free_ok X G (c.fact 1 (f := .free "isinstance") rfl), He.free_ok X G (c.fact 2 (f := .free "all") rfl), He.free_ok X G (c.fact 3 (f := .free "any") rfl), He.free_ok X G (c.fact 4 (f := .free "tuple") rfl), He.free_ok X G (c.fact 5 (f := .free "list") rfl), He.free_ok X G (c.fact 6 (f := .free "sorted") rfl), He.free_ok X G (c.fact 7 (f := .free "set") rfl), He.free_ok X G (c.fact 8 (f := .free "str") rfl), He.free_ok X G (c.fact 9 (f := .free "int") rfl), He.free_ok X G (c.fact 10 (f := .free "max") rfl), He.free_ok X G (c.fact 11 (f := .free "min") rfl), He.free_ok X G (c.fact 12 (f := .free "range") rfl), He.free_ok X G (c.fact 13 (f := .free "enumerate") rfl)⟩
  have mL := He.str_ok X G (c.fact 14 (f := .str "LETTERS" lettersS) rfl)
  have mNt := He.str_ok X G (c.fact 15 (f := .str "NOT" notSp) rfl)
  have cP := He.cls_ok (c.fact 45 (f := .cls "Program") rfl)
  have nR := He.noat_ok (c.fact 46 (f := .noat "Program" "_rules") rfl)
  have MK := He.mkr_ok (c.fact 47 (f := .mkr "Program") rfl)
  have noNotAProgram := He.noat_ok (c.fact 48 (f := .noat "NotAProgram" "thing") rfl)
  have exNotAProgram := He.exm_ok (c.fact 50 (f := .exm "NotAProgram" "RuleError" true) rfl)
  have noUnreadable := He.noat_ok (c.fact 49 (f := .noat "Unreadable" "line") rfl)
  have exUnreadable := He.exm_ok (c.fact 51 (f := .exm "Unreadable" "RuleError" true) rfl)
  have ce' : (exL K (He.ga K "Program")).all id = true := ce
  have PG := pgC_of (of_decide_eq_true (exL_at ce' 0 rfl)) mProgram cP
  obtain ⟨rd1, rd2⟩ := (of_decide_eq_true (exL_at ce' 1 rfl))
  have CR : CRead K (He.ga K "Program") (.type "type") := ⟨rd1, rd2⟩
  have sf := (exL_at ce' 2 rfl)
  have NEC := neC_of (exL_at ce' 21 rfl) (exL_at ce' 22 rfl)
  have MW : Meth K (He.ga K "Program") "written" (He.ma K (He.ga K "Program") "written") := ⟨(of_decide_eq_true (exL_at ce' 29 rfl)), (exL_at ce' 30 rfl), (exL_at ce' 31 rfl)⟩
  have CO := He5.cmet_of (exL_at ce' 17 rfl) (exL_at ce' 18 rfl)
  have CRd := He5.cmet_of (exL_at ce' 19 rfl) (exL_at ce' 20 rfl)
  have PR := propP_ok (of_decide_eq_true (exL_at ce' 11 rfl)) (exL_at ce' 12 rfl)
  have PN := propP_ok (of_decide_eq_true (exL_at ce' 13 rfl)) (exL_at ce' 14 rfl)
  have PK := propP_ok (of_decide_eq_true (exL_at ce' 15 rfl)) (exL_at ce' 16 rfl)
  have heq := (of_decide_eq_true (exL_at ce' 23 rfl))
  have jeq := (exL_at ce' 24 rfl)
  have hadd := (of_decide_eq_true (exL_at ce' 25 rfl))
  have jadd := (exL_at ce' 26 rfl)
  have hlen := (of_decide_eq_true (exL_at ce' 27 rfl))
  have jlen := (exL_at ce' 28 rfl)
  obtain ⟨iNotAProgram1, iNotAProgram2⟩ := (of_decide_eq_true (exL_at ce' 4 rfl))
  obtain ⟨iUnreadable1, iUnreadable2⟩ := (of_decide_eq_true (exL_at ce' 7 rfl))
  have EU : ErrU K mg (He.ga K "Unreadable") (He.ga K "RuleError") := ⟨mUnreadable, mRuleError, exUnreadable, excP_ok (of_decide_eq_true (exL_at ce' 8 rfl)), noUnreadable, (of_decide_eq_true (exL_at ce' 9 rfl)), (of_decide_eq_true (exL_at ce' 10 rfl))⟩
  have e := hfa_.symm.trans M24
  cases e
  refine ⟨fd24, fun s v => ?_, fun base _ _ => ?_⟩
  · exact FunD.bindsA (ps := ["script"]) D24 (fun _ _ _ _ _ _ us hl => match us, hl with | [_], _ => rfl) s [v] rfl
  have gIsName : ∀ k, FnOk P w K mg base CX0 (k + 1) _ fd0 ["thing"] (spIsName K) := fun k => ok_isName (k := k) F0 T mL
  have gAre : ∀ k, FnOk P w K mg base CX0 (k + 2) _ fd1 ["thing"] (spAreNames K) := fun k => ok_areNames (k := k + 1) F1 T (gIsName k) B0 F0.kp M0
  have gSet : ∀ k, FnOk P w K mg base CX0 (k + 1) _ fd2 ["names"] (spSetOf K) := fun k => ok_setOf (k := k) F2 T
  have gIsW : ∀ k, FnOk P w K mg base CX0 (k + 3) _ fd3 ["thing"] (spIsWorld K) := fun k => ok_isWorld (k := k + 2) F3 T (gAre k) B1 F1.kp M1 (gSet (k + 1)) B2 F2.kp M2
  have gIsR : ∀ k, FnOk P w K mg base CX0 (k + 4) _ fd4 ["thing"] (spIsRule K) := fun k => ok_isRule (k := k + 3) F4 T (gIsW k) B3 F3.kp M3
  have gIsWX : ∀ k, FnOk P w K mg base CX0 (k + 3) _ fd3 ["thing"] (spIsWorldX K) := fun k => ok_isWorldX (gIsW k) (ok_isWorldN (k := k + 2) F3 T (gAre k) B1 F1.kp M1 (gSet (k + 1)) B2 F2.kp M2)
  have gIsRX : ∀ k, FnOk P w K mg base CX0 (k + 4) _ fd4 ["thing"] (spIsRuleX K) := fun k => ok_isRuleX (k := k + 3) F4 T (gIsWX k) B3 F3.kp M3
  have gWithNot : ∀ k, FnOk P w K mg base CX0 (k + 1) _ fd6 ["plain", "negated"] (spWithNot K) := fun k => ok_withNot (k := k) F6 T mNt
  have gWr1 : ∀ k, FnOk P w K mg base CX0 (k + 2) _ fd5 ["row"] (spWritten1 K) := fun k => ok_written1 (k := k + 1) F5 (gWithNot k) B6 F6.kp M6
  have gHalves : ∀ k, FnOk P w K mg base CX0 (k + 1) _ fd8 ["line"] (spHalves K) := fun k => ok_halves (k := k) F8
  have gWithout : ∀ k, FnOk P w K mg base CX0 (k + 1) _ fd9 ["half", "mark"] (spWithout K) := fun k => ok_without (k := k) F9 T mNt
  have gReadRule : ∀ k, FnOk P w K mg base CX0 (k + 5) _ fd7 ["line"] (spReadRule K) := fun k => ok_readRule (k := k + 4) F7 (gHalves (k + 3)) B8 F8.kp M8 (gWithout (k + 3)) B9 F9.kp M9 (gIsRX k) B4 F4.kp M4 (gWr1 (k + 2)) B5 F5.kp M5
  have xNotAProgram : ∀ k, ErrT P w K mg base (k + 1) "NotAProgram" "thing" (He.ga K "NotAProgram") := fun k => ⟨oexB_ok (exL_at ce' 3 rfl), ⟨_, _, iNotAProgram1, iNotAProgram2, ok_eNotProg (k := k) EENotProg (oexB_ok (exL_at ce' 3 rfl)) noNotAProgram, BENotProg⟩, mNotAProgram⟩
  have xUnreadable : ∀ k, ErrT P w K mg base (k + 1) "Unreadable" "line" (He.ga K "Unreadable") := fun k => ⟨oexB_ok (exL_at ce' 6 rfl), ⟨_, _, iUnreadable1, iUnreadable2, ok_eUnread (k := k) EEUnread (oexB_ok (exL_at ce' 6 rfl)) noUnreadable, BEUnread⟩, mUnreadable⟩
  have gInit : ∀ k, FnR P w K mg base CX0 (k + 5) _ (spInit K (He.ga K "Program")) := fun k => by
    obtain ⟨oc, od, kV, doc, pm, an, cdv, ct, osl, e, lk, hcd⟩ := FInit.ex
    subst e
    exact ok_init (k := k + 4) lk hcd T cP nR (gIsR k) B4 F4.kp M4
  have gOf : ∀ k, FnR P w K mg base CX0 (k + 7) _ (spOf K (He.ga K "Program")) := fun k => fnr_of (ok_of (k := k + 5) FOf MK (gInit k)) BOf
  have gReadF : ∀ k, FnOk P w K mg base (L2.CX P w) (k + 7) _ fdRead ["cls", "text"] (spRead K (He.ga K "Program") (He.ga K "Unreadable")) := fun k => ok_read (k := k + 5) FRead T (xUnreadable (k + 4)) MK (gInit k) (gReadRule (k + 1)) B7 F7.kp M7
  have gRead : ∀ k, FnR P w K mg base (L2.CX P w) (k + 7) _ (spRead K (He.ga K "Program") (He.ga K "Unreadable")) := fun k => fnr_of (gReadF k) BRead
  have gWritten : ∀ k, FnOk P w K mg base CX0 (k + 3) _ fdWritten ["self"] (spWritten K (He.ga K "Program")) := fun k => ok_written (k := k + 2) FWritten cP nR (gWr1 k) B5 F5.kp M5
  have gRules : ∀ k, FnOk P w K mg base CX0 (k + 1) _ fdRules ["self"] (spRules K (He.ga K "Program")) := fun k => ok_rules (k := k) FRules cP nR
  have gNames : ∀ k, FnOk P w K mg base CX0 (k + 1) _ fdNames ["self"] (spNames K (He.ga K "Program")) := fun k => ok_names (k := k) FNames T cP nR
  have gKind : ∀ k, FnOk P w K mg base CX0 (k + 1) _ fdKind ["self"] (spKind K (He.ga K "Program")) := fun k => ok_kind (k := k) FKind T cP nR
  have gAdd : ∀ k, FnR P w K mg base (L2.CX P w) (k + 7) _ (spAdd K (He.ga K "Program") (He.ga K "NotAProgram")) := fun k => fnr_of (ok_add (k := k + 5) FAdd T PG nR (xNotAProgram (k + 4)) MK (gInit k)) BAdd
  have gLen : ∀ k, FnR P w K mg base CX0 (k + 1) _ (spPLen K (He.ga K "Program")) := fun k => fnr_of (ok_pLen (k := k) FPLen T cP nR) BPLen
  have gEq : ∀ k, FnR P w K mg base CX0 (k + 1) _ (spPEqG K (He.ga K "Program")) := fun k => fnr_of (ok_pEqG (k := k) FPEq T PG nR) BPEq
  have kbR := kbn_fun (ps := ["cls", "text"]) FRead 1 ["text"] (fun us ws => us ++ ws) kwBehind (fun _ _ _ _ _ _ us ws h1 h2 => match us, ws, h1, h2 with | [_], [_], _, _ => rfl) fun a b => a.append b
  have gAt : ∀ k, FnOk P w K mg base CX0 (k + 1) _ fd10 ["script", "k"] (spLawAt K) := fun k => ok_lawAt (k := k) F10 T
  have gMix : ∀ k, FnOk P w K mg base CX0 (k + 1) _ fd11 ["cell", "k"] (spLawMixed) := fun k => ok_lawMixed (k := k) F11 T
  have gPur : ∀ k, FnOk P w K mg base CX0 (k + 2) _ fd12 ["script", "at"] (spLawPurse K) := fun k => ok_lawPurse (k := k + 1) F12 T (gAt k) B10 F10.kp M10
  have gDraw : ∀ k, FnOk P w K mg base CX0 (k + 2) _ fd13 ["purse", "out_of"] (spLawDraw) := fun k => ok_lawDraw (k := k + 1) F13 T (gMix k) B11 F11.kp M11
  have gSome : ∀ k, FnOk P w K mg base CX0 (k + 3) _ fd14 ["purse", "names", "most"] (spLawSome K) := fun k => ok_lawSome (k := k + 2) F14 T (gDraw k) B13 F13.kp M13
  have gRow : ∀ k, FnOk P w K mg base CX0 (k + 4) _ fd15 ["purse", "names", "way"] (spLawRow K) := fun k => ok_lawRow (k := k + 3) F15 T (gDraw (k + 1)) B13 F13.kp M13 (gSome k) B14 F14.kp M14
  have gRows : ∀ k, FnOk P w K mg base CX0 (k + 5) _ fd16 ["purse", "names", "most"] (spLawRows K) := fun k => ok_lawRows (k := k + 4) F16 T (gDraw (k + 2)) B13 F13.kp M13 (gRow k) B15 F15.kp M15
  have gLWr : ∀ k, FnOk P w K mg base CX0 (k + 1) _ fd17 ["row"] (spWritten1 K) := fun k => ok_lawWritten (k := k) F17 T
  have gLWor : ∀ k, FnOk P w K mg base CX0 (k + 1) _ fd18 ["names"] (spLawIsWorld K) := fun k => ok_lawIsWorld (k := k) F18 T
  have gSplit : ∀ k, FnOk P w K mg base CX0 (k + 1) _ fd19 ["words", "between"] (spLawSplit K) := fun k => ok_lawSplit (k := k) F19 T
  have gLRead : ∀ k, FnOk P w K mg base CX0 (k + 2) _ fd20 ["line"] (spReadP K) := fun k => ok_lawRead (k := k + 1) F20 T (gSplit k) B19 F19.kp M19 (gLWor k) B18 F18.kp M18 (gLWr k) B17 F17.kp M17
  have gDue : ∀ k, FnOk P w K mg base CX0 (k + 3) _ fd21 ["words"] (spLawDue K) := fun k => ok_lawDue (k := k + 2) F21 T (gLRead k) B20 F20.kp M20
  have gLAsk : ∀ k, FnOk P w K mg base CX0 (k + 8) _ fd22 ["words"] (spLawAsked K) := fun k => ok_lawAsked (k := k + 6) F22 T EU mProgram cP CR CRd (gRead k) PR (gRules (k + 5)) BRules
  have gBent : ∀ k, FnOk P w K mg base CX0 (k + 3) _ fd23 ["purse", "words"] (spLawBent K) := fun k => ok_lawBent (k := k + 2) F23 T (gDraw k) B13 F13.kp M13
  exact ok_law (k := 7) F24 T PG nR CR CO (gOf 1) CRd (gRead 1) (gReadF 1) kbR MW (gWritten 5) BWritten NEC (gEq 6) sf hadd jadd (gAdd 1) hlen jlen (gLen 6) PR (gRules 6) BRules PN (gNames 6) BNames PK (gKind 6) BKind (gPur 6) B12 F12.kp M12 (gDraw 6) B13 F13.kp M13 (gRows 3) B16 F16.kp M16 (gLWr 7) B17 F17.kp M17 (gLAsk 0) B22 F22.kp M22 (gBent 5) B23 F23.kp M23 (gDue 5) B21 F21.kp M21
end Rw
open PySem PySem.W PySem.Calls PyProof.Rows
theorem PySem.Challenge.cw_ruleworlds_k03_programs_written_and_read_holds : PySem.Challenge.rw_ruleworlds_k03_programs_written_and_read.Holds := by
  w_on; o_law
  refine HandSHeadRun.head_any (r := OpenLaw.row PySem.Challenge.rw_ruleworlds_k03_programs_written_and_read) (q := view (OpenLaw.row PySem.Challenge.rw_ruleworlds_k03_programs_written_and_read).prog [35]) (H := Rw.hH) (ob := Rw.hob) (M := 9000) (loose := Rw.hloose) (d := HandSHeadRun.topDef (OpenLaw.row PySem.Challenge.rw_ruleworlds_k03_programs_written_and_read).prog 35) (kwd := []) Rw.hob_eq
    (by kernel_rfl) (fun s => by kernel_rfl) Rw.hrun (by kernel_rfl) (by kernel_rfl) (by kernel_rfl) (by rfl) (by first | assumption | decide +kernel) (by decide +kernel) ⟨rfl, rfl, rfl, rfl, rfl, by decide +kernel⟩ ?hw ?hc
  case hw => w_witness2
  case hc =>
    refine L2.walk_ofE (l := PySem.Challenge.rw_ruleworlds_k03_programs_written_and_read) (n := 63) (k := 9) (x := "script") (CX := L2.CX0) rfl (by decide) (by kernel_rfl) ⟨rfl, by decide, by decide⟩ ?F (fun _ _ _ _ z => z)
    intro w mg fa h Y G hmg0
    obtain ⟨K, KX, c, ce⟩ := Y
    have hmg : mg ("law" : PySem.Str) = some (.ref fa) := by
      have e : (HandSHeadRun.topDef (OpenLaw.row PySem.Challenge.rw_ruleworlds_k03_programs_written_and_read).prog 35).name = ("law" : PySem.Str) := by kernel_rfl
      rw [← e]
      exact hmg0
    obtain ⟨fd, hb, hF⟩ := Rw.hfacts (P := (PySem.Challenge.rw_ruleworlds_k03_programs_written_and_read).prog) (w := w) KX G hmg c ce
    exact ⟨K, fd, Rw.spLaw K, KX, hb, fun H a ns hl _ hS => ⟨a, ns, rfl, hS, hl, fun _ => rfl⟩, hF⟩
