import PyProof.Rows.All
import Wide.All
import OpenK.AllK
import Wide.FinOn
import HandS.TupSets
import KE.KeyNested
import KE.KDictKeyed
import KE.SortData
import HandS.SetTxt0
import KE.DataCmp
import HandS.ForMost
import HandS.DictComp
import KE.GoesComp
import KE.GoesMore
import HandS.IsInst
import HandS.Defaults
import HandS.TupAny
import HandS.Deep
import HandS.Style
import HandS.Star
import HandS.ClsMeth
import HandS.Property
import HandS.CallLocal
import HandS.Exc
import HandS.ExcInit
import HandS.ExcValue
import HandS.ExcIs
import HandS.ExcField
import HandS.SlotsOwn
import HandS.WordsExc
import PySem.Challenge.RW_ruleworlds_k27_what_sets_of_pairs_refuse
import HandS.DeepEq
import HandS.ExcOwn
import HandS.TryOnly
import KE.KStateDown
import HandS.Head0
import HandS.Head1
import HandS.Head2
import HandS.HeadEnd
import HandS.HeadHook1
import HandS.HeadHook2
import HandS.HeadHook3
import HandS.HeadHook4
import HandS.HeadNt
set_option Elab.async false
set_option linter.all false
set_option maxRecDepth 100000
set_option maxHeartbeats 0
/-! Sets whose members are texts, or tuples of texts and of such tuples: made of a list or a tuple, and gathered again. -/
namespace Rw
open PySem PySem.Spec PyProof.Rows L2
abbrev NK := NestedKey
section
variable {P : Program} {w : World}
/-! no class statement stands in a key -/
mutual
theorem noCls : ∀ (k : NK) (v : Value) (n : Nat) (A : Around) (E : Value → Shared → Prop) (s : Shared) (Q : Bool → Shared → Prop), NestedIs s.heap k v → k.depth ≤ n → Q false s → wpAny (model P w) A (ofAClassStatement n v) Q E s
  | .none, _, n, A, E, s, Q, x, _, h => by
    cases x
    cases n <;> exact wpAny_pure h
  | .num i, _, n, A, E, s, Q, x, _, h => by
    cases x <;> cases n <;> exact wpAny_pure h
  | .text y, _, n, A, E, s, Q, x, _, h => by
    cases x
    cases n <;> exact wpAny_pure h
  | .tup ks, _, n, A, E, s, Q, x, hn, h => by
    cases x with
    | @tup a o vs m _ hg hc hd hk =>
      simp only [NestedKey.depth] at hn
      cases n with
      | zero => omega
      | succ n =>
        have hT : s.TypeIs (.ref a) "tuple" := ⟨o, hg, hc⟩
        unfold ofAClassStatement
        refine wpAny_bind (wpAny_typeOf hT ?_)
        dsimp only
        have e : (("tuple" : String) == "tuple") = true := by decide
        simp only [e, if_true, Bool.not_true, Bool.false_eq_true, if_false]
        try refine wpAny_bind (wpAny_pure ?_)
        try simp only [Bool.not_true, Bool.false_eq_true, if_false]
        show wpAny _ _ (seqItems? (.ref a) >>= _) _ _ s
        refine wpAny_bind (wpAny_seqItems hg hd ?_)
        dsimp only
        refine wpAny_bind ?_
        show wpAny _ _ (forIn vs _ _) _ _ s
        rw [← Array.forIn_toList]
        refine noClsAll ks vs.toList n A E s _ hk (by omega) ?_
        exact wpAny_pure h
theorem noClsAll : ∀ (ks : List NK) (vs : List Value) (n : Nat) (A : Around) (E : Value → Shared → Prop) (s : Shared) (Q : Option Bool × Unit → Shared → Prop), NestedAll s.heap ks vs → NestedKey.depthAll ks ≤ n → Q (none, ()) s →
    wpAny (model P w) A (forIn vs ((none, ()) : Option Bool × Unit) fun y r => do if ← ofAClassStatement n y then pure (ForInStep.done (some true, ())) else pure (ForInStep.yield (none, ()))) Q E s
  | [], _, n, A, E, s, Q, x, _, h => by
    cases x
    exact wpAny_pure h
  | k :: ks, _, n, A, E, s, Q, x, hn, h => by
    cases x with
    | cons x1 x2 =>
      simp only [NestedKey.depthAll] at hn
      rw [List.forIn_cons]
      refine wpAny_bind (wpAny_bind (noCls k _ n A E s _ x1 (by omega) ?_))
      simp only [Bool.false_eq_true, if_false]
      refine wpAny_pure ?_
      exact noClsAll ks _ n A E s Q x2 (by omega) h
end
/-! whether a key is hashed by its value: either answer -/
mutual
theorem byVal : ∀ (k : NK) (v : Value) (n : Nat) (A : Around) (E : Value → Shared → Prop) (s : Shared) (Q : Bool → Shared → Prop), NestedIs s.heap k v → (∀ b, Q b s) → wpAny (model P w) A (hashByValue n v) Q E s
  | .none, _, n, A, E, s, Q, x, h => by
    cases x
    cases n <;> exact wpAny_pure (h _)
  | .num i, _, n, A, E, s, Q, x, h => by
    cases x <;> cases n <;> exact wpAny_pure (h _)
  | .text y, _, n, A, E, s, Q, x, h => by
    cases x
    cases n <;> exact wpAny_pure (h _)
  | .tup ks, _, n, A, E, s, Q, x, h => by
    cases x with
    | @tup a o vs m _ hg hc hd hk =>
      cases n with
      | zero => exact wpAny_pure (h _)
      | succ n =>
        have hT : s.TypeIs (.ref a) "tuple" := ⟨o, hg, hc⟩
        unfold hashByValue
        refine wpAny_bind (wpAny_specialOf hT F.slot_tuple_hash.lookup ?_)
        show wpAny _ _ (seqItems? (.ref a) >>= _) _ _ s
        refine wpAny_bind (wpAny_seqItems hg hd ?_)
        refine wpAny_bind ?_
        show wpAny _ _ (forIn vs _ _) _ _ s
        rw [← Array.forIn_toList]
        refine byValAll ks vs.toList n A E s _ hk ?_ ?_
        · exact wpAny_pure (h _)
        · exact wpAny_pure (h _)
theorem byValAll : ∀ (ks : List NK) (vs : List Value) (n : Nat) (A : Around) (E : Value → Shared → Prop) (s : Shared) (Q : Option Bool × Unit → Shared → Prop), NestedAll s.heap ks vs → Q (none, ()) s → Q (some false, ()) s →
    wpAny (model P w) A (forIn vs ((none, ()) : Option Bool × Unit) fun y r => do if !(← hashByValue n y) then pure (ForInStep.done (some false, ())) else pure (ForInStep.yield (none, ()))) Q E s
  | [], _, n, A, E, s, Q, x, h, _ => by
    cases x
    exact wpAny_pure h
  | k :: ks, _, n, A, E, s, Q, x, h, h2 => by
    cases x with
    | cons x1 x2 =>
      rw [List.forIn_cons]
      refine wpAny_bind (wpAny_bind (byVal k _ n A E s _ x1 fun b => ?_))
      cases b with
      | true =>
        simp only [Bool.not_true, Bool.false_eq_true, if_false]
        refine wpAny_pure ?_
        exact byValAll ks _ n A E s Q x2 h h2
      | false =>
        simp only [Bool.not_false, if_true]
        exact wpAny_pure (wpAny_pure h2)
end
end
/-! ### sets of tuples -/
/-- a tuple that is a key, not too deep -/
def TupK (h : Heap) (k : NK) (a : Addr) : Prop := NestedIs h k (.ref a) ∧ k.depth ≤ 8
theorem TupK.one {h : Heap} {k k' : NK} {a : Addr} (x : TupK h k a) (y : TupK h k' a) : k = k' := NestedIs.inj _ _ _ x.1 y.1
theorem TupK.kept {h h' : Heap} {k : NK} {a : Addr} (x : TupK h k a) (u : ∀ b o, h.get? b = some o → h'.get? b = some o) : TupK h' k a :=
  ⟨NestedIs.at (fun b o _ _ e _ => u b o e) _ _ x.1, x.2⟩
/-- all but a set stays -/
theorem TupK.butSet {h h' : Heap} {k : NK} {a b : Addr} {o : Obj} {es : Array (Int × Value)} {ep : Nat} {t : SetTable} (x : TupK h k b) (ho : h.get? a = some o) (hd : o.data = .set es ep t) (sb : Heap.SameBut a h h') : TupK h' k b := by
  refine ⟨NestedIs.at (fun c u vs n e es' => (sb.2 c ?_).trans e) _ _ x.1, x.2⟩
  intro z
  subst z
  have q : u = o := Option.some.inj (e.symm.trans ho)
  rw [q, hd] at es'
  exact nomatch es'
/-- the entries of a table -/
def ents (w : World) (L : List (Addr × NK)) : List (Int × Value) := L.map fun p => (p.2.hash w, Value.ref p.1)
def hashes (w : World) (L : List (Addr × NK)) : List Int := L.map fun p => p.2.hash w
theorem ents_len (w : World) (L : List (Addr × NK)) : (ents w L).length = L.length := List.length_map _
theorem hashes_len (w : World) (L : List (Addr × NK)) : (hashes w L).length = L.length := List.length_map _
structure TSet (P : Program) (w : World) (h : Heap) (a : Addr) (L : List (Addr × NK)) (es : Array (Int × Value)) (ep : Nat) (t : SetTable) : Prop where
  ob : ∃ o, h.get? a = some o ∧ o.ExactSet ∧ o.data = .set es ep t
  en : es.toList = ents w L
  tab : TabOk t (hashes w L)
  nd : (L.map (·.2)).Nodup
  ks : ∀ p ∈ L, TupK h p.2 p.1
  led : w.params.followText "set-order" = true ∨ t.led = true
  room : L.length * 5 < t.mask * 3
  few : L.length < 64
section
variable {P : Program} {w : World} {A : Around} {E : Value → Shared → Prop} {s : Shared} {a : Addr} {L : List (Addr × NK)} {es : Array (Int × Value)} {ep : Nat} {t : SetTable}
theorem size_of_ents (h : es.toList = ents w L) : es.size = L.length := by
  rw [← Array.length_toList, h, ents_len]
theorem TSet.fits (R : TSet P w s.heap a L es ep t) : t.fits es.size = true := by
  have a1 := R.tab.sz
  have a2 := size_of_ents R.en
  have a3 := R.room
  rw [hashes_len] at a1
  unfold SetTable.fits SetTable.fill
  rw [R.tab.dm, Bool.and_eq_true, beq_iff_eq, decide_eq_true_eq]
  refine ⟨by omega, ?_⟩
  show t.place.size + 0 ≤ t.mask
  omega
theorem TSet.at (R : TSet P w s.heap a L es ep t) {i : Nat} {p : Addr × NK} (h : L[i]? = some p) : es[i]? = some (p.2.hash w, Value.ref p.1) := by
  rw [← Array.getElem?_toList, R.en]
  unfold ents
  rw [List.getElem?_map, h]
  rfl
/-- nobody sees a search among such tuples -/
theorem unseen {k : NK} {b : Addr} {Q : Bool → Shared → Prop} (hk : TupK s.heap k b) {ys : List Value} (hy : ∀ y ∈ ys, ∃ k' c, y = Value.ref c ∧ TupK s.heap k' c) (h : Q false s) : wpAny (model P w) A (searchCouldBeSeen (.ref b) ys) Q E s := by
  unfold searchCouldBeSeen
  refine wpAny_bind ?_
  refine wpAny_forIn_list _ (fun rest r s' => r.1 = none ∧ s' = s ∧ ∀ y ∈ rest, ∃ k' c, y = Value.ref c ∧ TupK s.heap k' c) _ ?turn ?last _ _ ⟨rfl, rfl, hy⟩
  case turn =>
    rintro v rest r s' ⟨hr, rfl, all⟩
    obtain ⟨k', c, rfl, hc⟩ := all v List.mem_cons_self
    have more : ∀ y ∈ rest, ∃ k' c, y = Value.ref c ∧ TupK s'.heap k' c := fun u hu => all u (List.mem_cons_of_mem _ hu)
    dsimp only
    by_cases hv : (b == c || (carriedByValue (.ref b) && carriedByValue (.ref c))) = true
    · exact wp_if_pos hv (wpAny_pure ⟨rfl, rfl, more⟩)
    · refine wp_if_neg hv (wpAny_bind ((nestedKind P w).quiet (k := k) hk ?_))
      simp only [Bool.not_true, Bool.false_eq_true, if_false]
      refine wpAny_bind ((nestedKind P w).quiet (k := k') hc ?_)
      simp only [Bool.not_true, Bool.false_eq_true, if_false]
      refine wpAny_bind (noCls k _ 8 _ _ _ _ hk.1 hk.2 ?_)
      simp only [Bool.false_eq_true, if_false]
      refine wpAny_bind (noCls k' _ 8 _ _ _ _ hc.1 hc.2 ?_)
      simp only [Bool.false_eq_true, if_false]
      exact wpAny_pure ⟨rfl, rfl, more⟩
  case last =>
    rintro ⟨r1, r2⟩ s' ⟨hr, rfl, _⟩
    simp only at hr
    subst hr
    exact wpAny_pure h
end
/-! ### the search -/
/-- the states of a search for the hash g, one after the other -/
def st (m : Nat) (g : Int) (c : Nat) : SetTable.Probe := nth m (runAt m (SetTable.bits g % (m + 1)) (SetTable.bits g)) c
theorem st_way (m : Nat) (g : Int) (c : Nat) : (st m g c).j = way m g c := rfl
theorem st_more (m : Nat) (g : Int) (c q : Nat) : nth m (st m g c) q = st m g (c + q) := (nth_add m c _ q).symm
theorem nth_dummy (m : Nat) : ∀ (n : Nat) (p : SetTable.Probe), p.dummy = none → (nth m p n).dummy = none
  | 0, _, h => h
  | n + 1, p, h => nth_dummy m n (adv m p) (by unfold adv; split <;> exact h)
theorem st_dummy (m : Nat) (g : Int) (c : Nat) : (st m g c).dummy = none := nth_dummy m c _ rfl
section
variable {P : Program} {w : World} {A : Around} {E : Value → Shared → Prop} {s : Shared} {a : Addr} {L : List (Addr × NK)} {es : Array (Int × Value)} {ep : Nat} {t : SetTable}
theorem hunt (R : TSet P w s.heap a L es ep t) {x : Addr} {k : NK} (hx : TupK s.heap k x) (hu : A.units + 8 < cLine) {g : Int} (hg : g = k.hash w) {K : Nat} (hf : K < 10 * SetTable.turns t.mask)
    (free : way t.mask g K ∉ t.place.toList) (full : ∀ c, c < K → way t.mask g c ∈ t.place.toList) {Q : SetFound → Shared → Prop}
    (yes : k ∈ L.map (·.2) → Q (.there none) s) (no : k ∉ L.map (·.2) → Q (.free (way t.mask g K) false) s) :
    ∀ (f c : Nat) (stand : Option SetTable.Probe), stand.getD (t.probeStart g) = st t.mask g c → c ≤ K → K - c < f →
      (∀ (i : Nat) p, L[i]? = some p → p.2 = k → ∃ c', c ≤ c' ∧ c' < K ∧ t.place.toList[i]? = some (way t.mask g c')) →
      wpAny (model P w) A (setSearchFrom a (.ref x) g true f stand) Q E s
  | 0, c, stand, _, _, h, _ => absurd h (Nat.not_lt_zero _)
  | f + 1, c, stand, hst, hc, hlt, ahead => by
    obtain ⟨o, ho, hex, hd⟩ := R.ob
    have big := R.fits
    have hashOf : ∀ (i : Nat) p, L[i]? = some p → (es[i]?.map (·.1)).getD 0 = p.2.hash w := fun i p hp => by
      rw [R.at hp]
      rfl
    have oddM := mask_odd R.tab.mok
    rw [setSearchFrom_succ]
    refine wpAny_bind (wpAny_setState_of ho hd big ?_)
    dsimp only
    refine wp_if_neg (by unfold SetTable.gaveWay; rw [oddM]; decide) ?_
    try refine wpAny_bind (wpAny_pure ?_)
    have jAt : ∀ q, (nth t.mask (st t.mask g c) q).j = way t.mask g (c + q) := fun q => congrArg SetTable.Probe.j (st_more t.mask g c q)
    rcases go_spec t R.tab.ris R.tab.dm (fun i => (es[i]?.map (·.1)).getD 0) g (10 * SetTable.turns t.mask) (K - c) (st t.mask g c) (st_dummy _ _ _) (by omega)
      (fun q hq => by rw [jAt]; exact full (c + q) (by omega)) (by rw [jAt, show c + (K - c) = K by omega]; exact free) with ⟨q, i, hq, hi, hh, first, met⟩ | ⟨none_, met⟩
    · -- an entry of this hash
      have met' : t.probe (fun i => (es[i]?.map (·.1)).getD 0) g (stand.getD (t.probeStart g)) = some (.candidate (way t.mask g (c + q)) i (st t.mask g (c + (q + 1)))) := by
        rw [hst, ← jAt, ← st_more]
        exact met
      rw [met']
      dsimp only
      rw [jAt] at hi
      have il : i < L.length := by
        have z1 : i < t.place.toList.length := (List.getElem?_eq_some_iff.mp hi).1
        have z2 := R.tab.sz
        rw [hashes_len] at z2
        rw [Array.length_toList] at z1
        omega
      obtain ⟨p, hp⟩ : ∃ p, L[i]? = some p := ⟨L[i], List.getElem?_eq_getElem il⟩
      have pm : p ∈ L := List.mem_of_getElem? hp
      have pk := R.ks p pm
      have go : wpAny (model P w) A (searchRest a (.ref x) g true f es t (way t.mask g (c + q)) i (st t.mask g (c + (q + 1)))) Q E s := by
        unfold searchRest
        rw [R.at hp]
        dsimp only
        refine wpAny_bind (wpAny_holding ((nestedKind P w).eqBool (x := p.2) (y := k) hu pk hx ?_))
        refine wpAny_bind (wpAny_setState_of ho hd big ?_)
        dsimp only
        by_cases same : p.2 = k
        · refine wp_if_pos (by simp [same]) (wpAny_pure (yes ?_))
          exact List.mem_map.mpr ⟨p, pm, same⟩
        · refine wp_if_neg (by simp [same]) ?_
          try refine wpAny_bind (wpAny_pure ?_)
          rw [sameMem]
          dsimp only
          have live : t.slot (way t.mask g (c + q)) = .live i := slot_live R.tab.ris hi
          simp only [if_true, live, R.at hp]
          refine wpAny_bind (wpAny_isSame_ref_self (wpAny_bind (wpAny_pure ?_)))
          simp only [if_true]
          refine wp_if_neg (by simp [same]) ?_
          refine hunt R hx hu hg hf free full yes no f (c + (q + 1)) _ rfl (by omega) (by omega) fun i0 p0 h0 k0 => ?_
          obtain ⟨c', b1, b2, b3⟩ := ahead i0 p0 h0 k0
          refine ⟨c', ?_, b2, b3⟩
          by_cases ec : c' = c + q
          · exfalso
            rw [ec] at b3
            have l0 := slot_live R.tab.ris b3
            rw [live] at l0
            injection l0 with l0
            rw [← l0, hp] at h0
            exact same ((congrArg Prod.snd (Option.some.inj h0)).trans k0)
          · by_cases lt : c' < c + q
            · exfalso
              refine first (c' - c) i0 (by omega) (by rw [jAt, show c + (c' - c) = c' by omega]; exact b3) ?_
              show (es[i0]?.map (·.1)).getD 0 = g
              rw [hashOf i0 p0 h0, k0, hg]
            · omega
      by_cases hl : t.led = true
      · refine wp_if_neg (by simp [hl]) ?_
        try refine wpAny_bind (wpAny_pure ?_)
        exact go
      · refine wp_if_pos (by simp [hl]) (wpAny_bind (unseen hx (fun y hy => ?_) ?_))
        · obtain ⟨e, he, ee⟩ := List.mem_map.mp hy
          have he1 : e ∈ es ∧ e.1 = g := by simpa using he
          have he2 : e ∈ es.toList := by simpa using he1.1
          rw [R.en] at he2
          obtain ⟨p2, hp2, e2⟩ := List.mem_map.mp he2
          exact ⟨p2.2, p2.1, by rw [← ee, ← e2], R.ks p2 hp2⟩
        · refine wp_if_neg (by decide) ?_
          try refine wpAny_bind (wpAny_pure ?_)
          exact go
    · -- a free slot
      have met' : t.probe (fun i => (es[i]?.map (·.1)).getD 0) g (stand.getD (t.probeStart g)) = some (.empty (way t.mask g K) none) := by
        have e2 : way t.mask g K = (nth t.mask (st t.mask g c) (K - c)).j := by
          rw [jAt, show c + (K - c) = K by omega]
        rw [hst, e2]
        exact met
      rw [met']
      dsimp only
      refine wpAny_pure (no fun hm => ?_)
      obtain ⟨p0, m0, k0⟩ := List.mem_map.mp hm
      obtain ⟨i0, hi0, e0⟩ := List.getElem_of_mem m0
      have h0 : L[i0]? = some p0 := by rw [List.getElem?_eq_getElem hi0, e0]
      obtain ⟨c', b1, b2, b3⟩ := ahead i0 p0 h0 k0
      refine none_ (c' - c) i0 (by omega) (by rw [jAt, show c + (c' - c) = c' by omega]; exact b3) ?_
      show (es[i0]?.map (·.1)).getD 0 = g
      rw [hashOf i0 p0 h0, k0, hg]
theorem hunted (R : TSet P w s.heap a L es ep t) {x : Addr} {k : NK} (hx : TupK s.heap k x) (hu : A.units + 8 < cLine) {Q : SetFound → Shared → Prop} (yes : k ∈ L.map (·.2) → Q (.there none) s)
    (no : ∀ K, k ∉ L.map (·.2) → way t.mask (k.hash w) K ∉ t.place.toList → (∀ c, c < K → way t.mask (k.hash w) c ∈ t.place.toList) → Q (.free (way t.mask (k.hash w) K) false) s) :
    wpAny (model P w) A (setSearch a (.ref x) (k.hash w) true) Q E s := by
  have space := R.room
  obtain ⟨K, kf, free, full⟩ := R.tab.first (by rw [hashes_len]; omega) (k.hash w)
  have small : K < 100000 := by
    have : 10 * SetTable.turns t.mask ≤ 1420 := by
      unfold SetTable.turns
      rcases R.tab.mok with e | e | e <;> omega
    omega
  unfold setSearch
  refine hunt R hx hu rfl kf free full yes (fun hn => no K hn free full) 100000 0 none rfl (Nat.zero_le _) (by omega) fun i p hp hk => ?_
  have hi : (hashes w L)[i]? = some (k.hash w) := by
    unfold hashes
    rw [List.getElem?_map, hp, ← hk]
    rfl
  have il : i < t.place.toList.length := by
    have z1 : i < L.length := (List.getElem?_eq_some_iff.mp hp).1
    have z2 := R.tab.sz
    rw [hashes_len] at z2
    rw [Array.length_toList]
    omega
  have hj := List.getElem?_eq_getElem il
  obtain ⟨c, hc, e⟩ := R.tab.before free hi hj
  exact ⟨c, Nat.zero_le _, hc, by rw [hj, e]⟩
end
/-! ### one put in -/
theorem relist {w : World} (L : List (Addr × NK)) (es : Array (Int × Value)) (order : Array Nat) (he : es.toList = ents w L) (hp : order.toList.Perm (List.range L.length)) :
    ∃ L2, (order.filterMap (es[·]?)).toList = ents w L2 ∧ L2.Perm L ∧ hashes w L2 = order.toList.map fun i => (es.map (·.1)).getD i 0 := by
  have one : ∀ i (h : i < L.length), es[i]? = some ((L[i]).2.hash w, Value.ref (L[i]).1) := fun i h => by
    rw [← Array.getElem?_toList, he]
    unfold ents
    rw [List.getElem?_map, List.getElem?_eq_getElem h]
    rfl
  have all : ∀ l : List Nat, (∀ i ∈ l, i < L.length) → l.filterMap (fun i => es[i]?) = ents w (l.filterMap fun i => L[i]?) ∧ hashes w (l.filterMap fun i => L[i]?) = l.map fun i => (es.map (·.1)).getD i 0 := by
    intro l
    induction l with
    | nil => exact fun _ => ⟨rfl, rfl⟩
    | cons i l ih =>
      intro hl
      have hi := hl i List.mem_cons_self
      obtain ⟨e1, e2⟩ := ih fun j hj => hl j (List.mem_cons_of_mem _ hj)
      rw [List.filterMap_cons_some (List.getElem?_eq_getElem hi), List.filterMap_cons_some (one i hi), e1, List.map_cons, ← e2]
      refine ⟨rfl, ?_⟩
      have e5 : (es.map (·.1))[i]? = some ((L[i]).2.hash w) := by
        rw [Array.getElem?_map, one i hi]
        rfl
      have e4 : (es.map (·.1)).getD i 0 = (L[i]).2.hash w := by simp [Array.getD_eq_getD_getElem?, e5]
      rw [e4]
      rfl
  obtain ⟨e1, e2⟩ := all order.toList fun i hi => List.mem_range.mp (hp.mem_iff.mp hi)
  refine ⟨order.toList.filterMap fun i => L[i]?, by first | (rw [Array.toList_filterMap]; exact e1) | simpa using e1, ?_, e2⟩
  have z := hp.filterMap fun i => L[i]?
  rw [List.filterMap_getElem?_range_length] at z
  exact z
theorem TabOk.unplain {t : SetTable} {hs : List Int} (T : TabOk t hs) : TabOk { t with plain := false } hs := ⟨T.ris, T.dm, T.sz, T.mok, T.bd, T.reach⟩
section
variable {P : Program} {w : World} {A : Around} {E : Value → Shared → Prop} {s : Shared} {a : Addr} {L : List (Addr × NK)} {es : Array (Int × Value)} {ep : Nat} {t : SetTable}
theorem relaid_at {o : Obj} (ho : s.heap.get? a = some o) (hex : o.ExactSet) (hd : o.data = .set es ep t) (en : es.toList = ents w L) (tab : TabOk t (hashes w L)) (hfl : L.length ≤ t.mask)
    (nd : (L.map (·.2)).Nodup) (ks : ∀ p ∈ L, TupK s.heap p.2 p.1) (ld : w.params.followText "set-order" = true ∨ t.led = true) (few : L.length < 64) {wanted M : Nat}
    (hw : SetTable.sizeAbove wanted - 1 = M) (hM : MaskOk M) (hw2 : SetTable.sizeAbove wanted ≤ 128) (hn : L.length * 5 < M * 3) {Q : Unit → Shared → Prop}
    (hQ : ∀ h' L' es' ep' t', Heap.SameBut a s.heap h' → TSet P w h' a L' es' ep' t' → L'.Perm L → Q () { s with heap := h' }) : wpAny (model P w) A (setRelay a wanted) Q E s := by
  have hsl := size_of_ents en
  have hps : t.place.size = es.size := by rw [tab.sz, hashes_len, hsl]
  have fits : t.fits es.size = true := by
    unfold SetTable.fits SetTable.fill
    rw [tab.dm, Bool.and_eq_true, beq_iff_eq, decide_eq_true_eq]
    refine ⟨hps, ?_⟩
    show t.place.size + 0 ≤ t.mask
    omega
  obtain ⟨t', order, e, hp, T, em, el, _, _⟩ := relaid_ok t (hs := es.map (·.1)) (wanted := wanted) hw hM (by rw [Array.size_map, hsl]; omega)
  rw [Array.size_map, hsl] at hp
  obtain ⟨L2, r1, r2, r3⟩ := relist L es order en hp
  rw [← r3] at T
  have hs2 : (order.filterMap (es[·]?)).size = es.size := by rw [size_of_ents r1, r2.length_eq, hsl]
  rw [setRelay_eq]
  refine wpAny_bind (wpAny_setState_of ho hd fits ?_)
  dsimp only
  refine wp_if_neg (by rw [sizeLine_eq]; omega) ?_
  try refine wpAny_bind (wpAny_pure ?_)
  rw [e]
  dsimp only
  refine wpAny_bind (wp_if_neg (by rw [hs2]; simp) ?_)
  try refine wpAny_bind (wpAny_pure ?_)
  refine wpAny_pure ?_
  dsimp only
  refine wpAny_storeSet_of ho hd ?_ (by rw [hs2, hsl, sizeLine_eq]; omega)
  have sb : Heap.SameBut a s.heap (s.heap.update a (Obj.putSet (order.filterMap (es[·]?)) t')) := Heap.SameBut.update ..
  refine hQ _ L2 (order.filterMap (es[·]?)) (ep + 1) t' sb ⟨⟨_, store_at ho hd, ⟨hex.1, hex.2.1, hex.2.2⟩, rfl⟩, r1, T, (r2.map (·.2)).nodup_iff.mpr nd, fun p hpm => (ks p (r2.mem_iff.mp hpm)).butSet ho hd sb, by rw [el]; exact ld, ?_, by rw [r2.length_eq]; exact few⟩ r2
  rw [r2.length_eq, em]
  exact hn
/-- adding -/
theorem added (R : TSet P w s.heap a L es ep t) {x : Addr} {k : NK} (hx : TupK s.heap k x) (hu : A.units + 8 < cLine) (hfew : L.length + 1 < 64) {Q : Bool → Shared → Prop}
    (hQ : ∀ b h' L' es' ep' t', Heap.SameBut a s.heap h' → TSet P w h' a L' es' ep' t' → (k ∈ L.map (·.2) → L' = L) → (k ∉ L.map (·.2) → L'.Perm ((x, k) :: L)) → Q b { s with heap := h' }) :
    wpAny (model P w) A (setAddHashed a (.ref x) (k.hash w)) Q E s := by
  obtain ⟨o, ho, hex, hd⟩ := R.ob
  have hsl := size_of_ents R.en
  have hroom := R.room
  unfold setAddHashed
  refine wpAny_holding ?_
  rw [show (100000 : Nat) = 99999 + 1 from rfl, setAddHashedIn_succ]
  refine wpAny_bind (wpAny_setState_of ho hd R.fits ?_)
  dsimp only
  refine wp_if_neg (by simp [byScan, Value.scannable]) ?_
  try refine wpAny_bind (wpAny_pure ?_)
  refine wpAny_bind (hunted R hx hu (fun hm => ?_) fun K hm hK hb => ?_)
  · dsimp only
    exact wpAny_pure (hQ false s.heap L es ep t (Heap.SameBut.refl a s.heap) R (fun _ => rfl) fun z => absurd hm z)
  · dsimp only
    refine wpAny_bind (wpAny_setState_of ho hd R.fits ?_)
    dsimp only
    obtain ⟨q1, q2, q3, q4, q5, _, _, _, q9⟩ := R.tab.put hK hb
    generalize hpt : t.put (way t.mask (k.hash w) K) = pt at q1 q3 q4 q5 q9 ⊢
    obtain ⟨t1, p⟩ := pt
    dsimp only at q1 q3 q4 q5 q9 ⊢
    subst q1
    generalize hpp : SetTable.below t.place (way t.mask (k.hash w) K) = p at q2 q3 ⊢
    have hin : (SetTable.insertAt es p (k.hash w, Value.ref x)).toList = ents w (L.take p ++ (x, k) :: L.drop p) := by
      rw [SetTable.toList_insertAt, R.en]
      unfold ents
      rw [List.map_append, List.map_cons, List.map_take, List.map_drop]
    have pm := put_perm L p (x, k)
    have hlen : (L.take p ++ (x, k) :: L.drop p).length = L.length + 1 := pm.length_eq
    have hhs : hashes w (L.take p ++ (x, k) :: L.drop p) = (hashes w L).take p ++ k.hash w :: (hashes w L).drop p := by
      unfold hashes
      rw [List.map_append, List.map_cons, List.map_take, List.map_drop]
    rw [← hhs] at q3
    have nd1 : ((L.take p ++ (x, k) :: L.drop p).map (·.2)).Nodup := by
      refine (pm.map (·.2)).nodup_iff.mpr ?_
      rw [List.map_cons]
      exact List.nodup_cons.mpr ⟨hm, R.nd⟩
    have hes : (SetTable.insertAt es p (k.hash w, Value.ref x)).size = L.length + 1 := by rw [size_of_ents hin, hlen]
    generalize SetTable.insertAt es p (k.hash w, Value.ref x) = es1 at hin hes ⊢
    generalize L.take p ++ (x, k) :: L.drop p = L1 at pm hlen q3 nd1 hin
    have ld1 : w.params.followText "set-order" = true ∨ t1.led = true := by rw [q5]; exact R.led
    -- behind the question whether the hash is by value: t2 is t1, but for one mark
    have rest : ∀ t2 : SetTable, TabOk t2 (hashes w L1) → t2.mask = t.mask → t2.fill = L.length + 1 → (w.params.followText "set-order" = true ∨ t2.led = true) →
        wpAny (model P w) A (do
          storeSet a es1 t2
          if (!false && t2.tooFull) = true then do
              setRelay a (SetTable.grown (es.size + 1))
              pure true
            else pure true) Q E s := by
      intro t2 T2 m2 f2 l2
      refine wpAny_bind (wpAny_storeSet_of ho hd ?_ (by rw [hes, sizeLine_eq]; omega))
      have sb : Heap.SameBut a s.heap (s.heap.update a (Obj.putSet es1 t2)) := Heap.SameBut.update ..
      have ho1 := store_at (es' := es1) (t' := t2) ho hd
      generalize s.heap.update a (Obj.putSet es1 t2) = h1 at sb ho1 ⊢
      have ks1 : ∀ p ∈ L1, TupK h1 p.2 p.1 := fun p hp => by
        rcases List.mem_cons.mp (pm.mem_iff.mp hp) with e | hp
        · rw [e]
          exact hx.butSet ho hd sb
        · exact (R.ks p hp).butSet ho hd sb
      by_cases hf : t2.tooFull = true
      · refine wp_if_pos (by simp [hf]) ?_
        have hfull : (L.length + 1) * 5 ≥ t2.mask * 3 := by
          have h := hf
          unfold SetTable.tooFull at h
          rw [decide_eq_true_eq, f2] at h
          exact h
        rw [hsl]
        have two : (t.mask = 7 ∧ L.length = 4) ∨ (t.mask = 31 ∧ L.length = 18) := by
          rcases R.tab.mok with e | e | e
          · left; rw [m2, e] at hfull; rw [e] at hroom; exact ⟨e, by omega⟩
          · right; rw [m2, e] at hfull; rw [e] at hroom; exact ⟨e, by omega⟩
          · exfalso; rw [m2, e] at hfull; omega
        have go : ∀ M, SetTable.sizeAbove (SetTable.grown (L.length + 1)) - 1 = M → MaskOk M → SetTable.sizeAbove (SetTable.grown (L.length + 1)) ≤ 128 → (L.length + 1) * 5 < M * 3 →
            wpAny (model P w) A (do setRelay a (SetTable.grown (L.length + 1)); pure true) Q E { s with heap := h1 } := fun M e1 e2 e3 e4 => by
          refine wpAny_bind (relaid_at (s := { s with heap := h1 }) ho1 ⟨hex.1, hex.2.1, hex.2.2⟩ rfl hin T2 (by rw [hlen, m2]; rcases two with ⟨e, e'⟩ | ⟨e, e'⟩ <;> omega) nd1 ks1 l2 (by rw [hlen]; exact hfew) e1 e2 e3 (by rw [hlen]; exact e4) ?_)
          intro h2 L2 es2 ep2 t2 sb2 R2 pm2
          exact wpAny_pure (hQ true h2 L2 es2 ep2 t2 (sb.trans sb2) R2 (fun z => absurd z hm) fun _ => pm2.trans pm)
        rcases two with ⟨_, e2⟩ | ⟨_, e2⟩
        · exact go 31 (by rw [e2, size_20]) (.inr (.inl rfl)) (by rw [e2, size_20]; decide) (by omega)
        · exact go 127 (by rw [e2, size_76]) (.inr (.inr rfl)) (by rw [e2, size_76]; decide) (by omega)
      · refine wp_if_neg (by simp [hf]) ?_
        refine wpAny_pure (hQ true h1 L1 es1 (ep + 1) t2 sb ⟨⟨_, ho1, ⟨hex.1, hex.2.1, hex.2.2⟩, rfl⟩, hin, T2, nd1, ks1, l2, ?_, by rw [hlen]; exact hfew⟩ (fun z => absurd z hm) fun _ => pm)
        have h := hf
        unfold SetTable.tooFull at h
        rw [decide_eq_true_eq, f2] at h
        rw [hlen]
        omega
    have f1 : t1.fill = L.length + 1 := by rw [q9, hashes_len]
    have close : ∀ b : Bool, wpAny (model P w) A (do
          storeSet a es1 (if b = true then t1 else { t1 with plain := false })
          if (!false && (if b = true then t1 else { t1 with plain := false }).tooFull) = true then do
              setRelay a (SetTable.grown (es.size + 1))
              pure true
            else pure true) Q E s := fun b => by
      cases b with
      | true => exact rest t1 q3 q4 f1 ld1
      | false => exact rest { t1 with plain := false } (TabOk.unplain q3) q4 f1 ld1
    by_cases hpl : t1.plain = true
    · first
        | exact wpAny_bind (wp_if_pos hpl (byVal k _ 8 _ _ _ _ hx.1 fun b => close b))
        | exact wp_if_pos hpl (wpAny_bind (byVal k _ 8 _ _ _ _ hx.1 fun b => close b))
    · first
        | exact wpAny_bind (wp_if_neg hpl (wpAny_pure (close true)))
        | exact wp_if_neg hpl (wpAny_bind (wpAny_pure (close true)))
end
end Rw
namespace Rw
open PySem PySem.Spec PyProof.Rows L2
/-! ### set(xs): filled item by item -/
/-- a new set -/
abbrev newSetObj (w : World) : Obj := { cls := .type "set", dict := none, data := .set #[] 0 (.fresh 0 0 (!w.params.followText "set-order")) }
/-- G i: the set at S has got the first i items -/
structure Fill (P : Program) (w : World) (S : Addr) (h0 : Heap) (items : List Value) (G : Nat → Heap → Prop) : Prop where
  start : ∀ h, h.get? S = some (newSetObj w) → G 0 h
  keep : ∀ i h h', G i h → (∀ o, h.get? S = some o → h'.get? S = some o) → (∀ b o, h0.get? b = some o → h'.get? b = some o) → G i h'
  put : ∀ i v (A : Around) (E : Value → Shared → Prop) (s : Shared) (Q : Bool → Shared → Prop), A.units + 8 < cLine → items[i]? = some v → G i s.heap → (∀ b o, h0.get? b = some o → s.heap.get? b = some o) →
    (∀ b h' tk, s.toks ≤ tk → Heap.SameBut S s.heap h' → G (i + 1) h' → Q b { s with heap := h', toks := tk }) → wpAny (model P w) A (setAdd S v) Q E s
section
variable {P : Program} {w : World} {A : Around} {E : Value → Shared → Prop} {s : Shared}
theorem fill_loop {I : Addr} {fp wr : List Addr} {GG : Array GenState → Array GenState → Prop} {n : Nat} {Pv : Nat → Value → Prop} {St : Nat → Shared → Prop} {R : Result → Shared → Prop} {S : Addr} {h0 : Heap} {items : List Value} {G : Nat → Heap → Prop}
    (W : WalksS P w A.in1 I fp wr GG n Pv St) (hSf : S ∉ fp) (T : Fill P w S h0 items G) (hval : ∀ i v, Pv i v → items[i]? = some v) (hS0 : h0.get? S = none) (hw0 : ∀ b ∈ wr, h0.get? b = none) (hu : A.in1.units + 8 < cLine) :
    ∀ (k i : Nat) (s : Shared), n - i = k → i ≤ n → St i s → (∀ b o, h0.get? b = some o → s.heap.get? b = some o) → G i s.heap →
      (∀ s', Moved (S :: wr) GG s s' → G n s'.heap → (∀ b o, h0.get? b = some o → s'.heap.get? b = some o) → R (.ok (.ret .none)) s') →
      codeAny (model P w) A (.builtin "set.update.loop" ⟨[.ref S, .ref I], []⟩) R s := by
  have hSw : S ∉ wr := fun h => hSf (W.sub _ h)
  have wider : ∀ b ∈ wr, b ∈ S :: wr := fun b hb => List.mem_cons_of_mem _ hb
  have old : ∀ {s s' : Shared}, Moved wr GG s s' → (∀ b o, h0.get? b = some o → s.heap.get? b = some o) → ∀ b o, h0.get? b = some o → s'.heap.get? b = some o := fun hm hkp b o e =>
    hm.heap b o (fun hb => by rw [hw0 b hb] at e; cases e) (hkp b o e)
  intro k
  induction k with
  | zero =>
    intro i s hk' hi hst hkp g hR
    have hin : i = n := by omega
    subst hin
    refine codeAny_builtin F.entry_set_update_loop ?_
    rw [Around.under_plainId F.plain_set_update_loop _]
    show wpAny _ A.in1 (pyNext (.ref I) >>= _) _ _ s
    refine wpAny_bind (W.done s _ _ hst fun s' hm => ?_)
    show wpAny _ A.in1 (ret Value.none) _ _ s'
    exact wpAny_pure (hR s' (hm.mono wider) (T.keep _ _ _ g (fun o e => hm.heap S o hSw e) (old hm hkp)) (old hm hkp))
  | succ k ih =>
    intro i s hk' hi hst hkp g hR
    have hlt : i < n := by omega
    refine codeAny_builtin F.entry_set_update_loop ?_
    rw [Around.under_plainId F.plain_set_update_loop _]
    show wpAny _ A.in1 (pyNext (.ref I) >>= _) _ _ s
    refine wpAny_bind (W.item i s _ _ hlt hst fun v s' hP hst' hm => ?_)
    have hkp' := old hm hkp
    show wpAny _ A.in1 (holding [v] (setAdd S v) >>= _) _ _ s'
    refine wpAny_bind (wpAny_holding (T.put i v A.in1 _ s' _ hu (hval i v hP) (T.keep _ _ _ g (fun o e => hm.heap S o hSw e) hkp') hkp' fun b h' tk htk hsb g' => ?_))
    have hkp2 : ∀ b o, h0.get? b = some o → h'.get? b = some o := fun b o e => (hsb.2 b (fun z => by rw [z, hS0] at e; cases e)).trans (hkp' b o e)
    refine wpAny_pure ⟨plainId_quiet F.plain_set_update_loop _, ih (i + 1) _ (by omega) hlt (W.frame _ s' _ _ hst' htk fun b hb o e => ?_) hkp2 g' fun s'' hm'' g'' hkp'' => ?_⟩
    · rw [hsb.2 b (fun h : b = S => hSf (by rw [← h]; exact hb))]
      exact e
    · refine hR s'' (Moved.trans W.gtrans ((hm.mono wider).then_heap htk fun b o hb e => ?_) hm'') g'' hkp''
      rw [hsb.2 b (fun h : b = S => hb (by rw [h]; exact List.mem_cons_self))]
      exact e
theorem call_fill_list {l : Addr} {items : Array Value} {G : Nat → Heap → Prop} {Q : Value → Shared → Prop} (hh : A.handled = none) (hl : s.heap.IsList l items) (T : Fill P w s.heap.objs.size s.heap items.toList G) (hu : A.units + 16 < cLine)
    (h : ∀ (h' : Heap) (tk : Nat), G items.size h' → (∀ b o, s.heap.get? b = some o → h'.get? b = some o) → Q (.ref s.heap.objs.size) { s with heap := h', toks := tk }) :
    wpAny (model P w) A (call (.type "set") [.ref l]) Q E s := by
  obtain ⟨c, tl, hmro⟩ := F.called_set.mro
  have hmade := F.called_set.made
  have hsub := F.called_set.sub
  refine wpAny_call (codeAny_of_tree ?_)
  show wpAny _ _ (callAny (.type "set") _) _ _ _
  refine wpAny_pure ⟨Code.quiet_builtin _ (by decide +kernel), codeAny_builtin F.entry_type_call ?_⟩
  rw [Around.under_plain (weight_type_call_type "set" [.ref l] []) rfl]
  have f1 := F.called_set.notType
  have f2 := F.called_set.canCreate
  have f3 := F.typeCall_set_1 (.ref l)
  repeat (any_goals (first | assumption | wp_step))
  refine codeAny_mono (code_set_led1 (.ref l) (E := E) (Q₁ := fun obj s₁ => obj = .ref s.heap.objs.size ∧ s₁ = { s with heap := s.heap.push (newSetObj w) }) ⟨rfl, rfl⟩) fun r s₁ hr => ?_
  cases r with
  | error e => exact hr
  | ok fl =>
    cases fl with
    | ret obj =>
      obtain ⟨rfl, rfl⟩ := hr
      have hS : (s.heap.push (newSetObj w)).get? s.heap.objs.size = some (newSetObj w) := Heap.get?_push_size _ rfl
      have hT : Shared.TypeIs { s with heap := s.heap.push (newSetObj w) } (.ref s.heap.objs.size) "set" := ⟨_, hS, rfl⟩
      have f4 := F.called_set.init.lookup
      have f5 := F.called_set.init.bind (.ref s.heap.objs.size)
      repeat (any_goals (first | assumption | wp_step))
      refine codeAny_mono (codeAny_call_builtin (R := wants (fun r s₂ => r = .none ∧ ∃ h' tk, s₂ = { s with heap := h', toks := tk } ∧ G items.size h' ∧ (∀ b o, s.heap.get? b = some o → h'.get? b = some o)) E) F.called_set.init.plain F.entry_set_init (check_set_init_1 hT ?_)) fun r₂ s₂ hr₂ => ?_
      · obtain ⟨ol, hol, hcl, nl, hdl⟩ := hl
        obtain ⟨ocls, odict, odata, oslots⟩ := ol
        simp only at hcl hdl
        subst hcl; subst hdl
        have hol' : (s.heap.push (newSetObj w)).get? l = some { cls := .type "list", dict := odict, data := .seq items nl, slots := oslots } := Heap.get?_push_of_some _ hol
        have f6 := F.sub_list_set
        have f7 := F.sub_list_frozenset
        have f8 : (Value.type "list" == Value.type "dict") = false := by decide
        have hl1 : (s.heap.push (newSetObj w)).IsList l items := ⟨_, hol', rfl, nl, rfl⟩
        unfold Builtin.«set.__init__» noKeywords Builtin.Frozenset.updateFrom
        generalize hPI : pyIter = PI
        wp_walk
        subst hPI
        refine wpAny_pyIter_list hl1 ?_
        refine wpAny_bind (wpAny_runValue ?_)
        have hlS : l < s.heap.objs.size := Heap.lt_size hol
        have hh3 : A.in1.in1.in1.handled = none := by simp [hh]
        have hz1 : (s.heap.push (newSetObj w)).objs.size = s.heap.objs.size + 1 := Heap.size_push ..
        have hneI : l ≠ (s.heap.push (newSetObj w)).objs.size := by
          rw [Heap.size_push]
          exact Nat.ne_of_lt (Nat.lt_succ_of_lt hlS)
        have hSf : s.heap.objs.size ∉ [(s.heap.push (newSetObj w)).objs.size, l] := by
          rw [Heap.size_push]
          simp only [List.mem_cons, List.mem_singleton, List.not_mem_nil, or_false, not_or]
          exact ⟨Nat.ne_of_lt (Nat.lt_succ_self _), Nat.ne_of_gt hlS⟩
        have none_of : ∀ b, s.heap.objs.size ≤ b → s.heap.get? b = none := fun b hb => by
          cases q : s.heap.get? b with
          | none => rfl
          | some o => exact absurd (Nat.lt_of_lt_of_le (Heap.lt_size q) hb) (Nat.lt_irrefl _)
        refine fill_loop ((Walks.list hh3 _ l hneI items).toS) hSf T (fun i v hv => by rw [Array.getElem?_toList]; exact hv) (none_of _ (Nat.le_refl _)) (fun b hb => none_of b (by
            rw [List.mem_singleton.mp hb, Heap.size_push]
            exact Nat.le_succ _)) (by simp only [Around.in1_units]; omega) (items.size - 0) 0 _ (by omega) (Nat.zero_le _)
          ⟨⟨_, Heap.get?_push_size _ rfl, rfl, rfl⟩, (hl1.push _)⟩ (fun b o e => Heap.get?_push_of_some _ (Heap.get?_push_of_some _ e)) (T.start _ (Heap.get?_push_of_some _ hS)) ?hR
        intro s' hm g' hkp
        obtain ⟨h', g2, d', tk', os'⟩ := s'
        have eg : g2 = s.gens := hm.gens
        have ed : d' = s.drawn := hm.drawn
        have eo : os' = s.os := hm.os
        subst eg; subst ed; subst eo
        show wpAny _ _ _ _ _ _
        refine wpAny_pure ?_
        show wpAny _ _ (ret Value.none) _ _ _
        exact wpAny_pure ⟨rfl, h', tk', rfl, g', hkp⟩
      · cases r₂ with
        | error e => exact hr₂
        | ok fl₂ =>
          cases fl₂ with
          | ret r =>
            obtain ⟨rfl, h', tk, rfl, g', hk'⟩ := hr₂
            repeat (any_goals (first | assumption | wp_step))
            exact h _ _ g' hk'
          | _ => exact hr₂.elim
    | _ => exact hr.elim
theorem call_fill_tuple {l : Addr} {items : Array Value} {G : Nat → Heap → Prop} {Q : Value → Shared → Prop} (hh : A.handled = none) (hl : s.heap.IsTuple l items) (T : Fill P w s.heap.objs.size s.heap items.toList G) (hu : A.units + 16 < cLine)
    (h : ∀ (h' : Heap) (tk : Nat), G items.size h' → (∀ b o, s.heap.get? b = some o → h'.get? b = some o) → Q (.ref s.heap.objs.size) { s with heap := h', toks := tk }) :
    wpAny (model P w) A (call (.type "set") [.ref l]) Q E s := by
  obtain ⟨c, tl, hmro⟩ := F.called_set.mro
  have hmade := F.called_set.made
  have hsub := F.called_set.sub
  refine wpAny_call (codeAny_of_tree ?_)
  show wpAny _ _ (callAny (.type "set") _) _ _ _
  refine wpAny_pure ⟨Code.quiet_builtin _ (by decide +kernel), codeAny_builtin F.entry_type_call ?_⟩
  rw [Around.under_plain (weight_type_call_type "set" [.ref l] []) rfl]
  have f1 := F.called_set.notType
  have f2 := F.called_set.canCreate
  have f3 := F.typeCall_set_1 (.ref l)
  repeat (any_goals (first | assumption | wp_step))
  refine codeAny_mono (code_set_led1 (.ref l) (E := E) (Q₁ := fun obj s₁ => obj = .ref s.heap.objs.size ∧ s₁ = { s with heap := s.heap.push (newSetObj w) }) ⟨rfl, rfl⟩) fun r s₁ hr => ?_
  cases r with
  | error e => exact hr
  | ok fl =>
    cases fl with
    | ret obj =>
      obtain ⟨rfl, rfl⟩ := hr
      have hS : (s.heap.push (newSetObj w)).get? s.heap.objs.size = some (newSetObj w) := Heap.get?_push_size _ rfl
      have hT : Shared.TypeIs { s with heap := s.heap.push (newSetObj w) } (.ref s.heap.objs.size) "set" := ⟨_, hS, rfl⟩
      have f4 := F.called_set.init.lookup
      have f5 := F.called_set.init.bind (.ref s.heap.objs.size)
      repeat (any_goals (first | assumption | wp_step))
      refine codeAny_mono (codeAny_call_builtin (R := wants (fun r s₂ => r = .none ∧ ∃ h' tk, s₂ = { s with heap := h', toks := tk } ∧ G items.size h' ∧ (∀ b o, s.heap.get? b = some o → h'.get? b = some o)) E) F.called_set.init.plain F.entry_set_init (check_set_init_1 hT ?_)) fun r₂ s₂ hr₂ => ?_
      · obtain ⟨ol, hol, hcl, nl, hdl⟩ := hl
        obtain ⟨ocls, odict, odata, oslots⟩ := ol
        simp only at hcl hdl
        subst hcl; subst hdl
        have hol' : (s.heap.push (newSetObj w)).get? l = some { cls := .type "tuple", dict := odict, data := .seq items nl, slots := oslots } := Heap.get?_push_of_some _ hol
        have f6 := F.sub_tuple_set
        have f7 := F.sub_tuple_frozenset
        have f8 : (Value.type "tuple" == Value.type "dict") = false := by decide
        have hl1 : (s.heap.push (newSetObj w)).IsTuple l items := ⟨_, hol', rfl, nl, rfl⟩
        unfold Builtin.«set.__init__» noKeywords Builtin.Frozenset.updateFrom
        generalize hPI : pyIter = PI
        wp_walk
        subst hPI
        refine wpAny_pyIter_tuple hl1 ?_
        refine wpAny_bind (wpAny_runValue ?_)
        have hlS : l < s.heap.objs.size := Heap.lt_size hol
        have hh3 : A.in1.in1.in1.handled = none := by simp [hh]
        have hz1 : (s.heap.push (newSetObj w)).objs.size = s.heap.objs.size + 1 := Heap.size_push ..
        have hneI : l ≠ (s.heap.push (newSetObj w)).objs.size := by
          rw [Heap.size_push]
          exact Nat.ne_of_lt (Nat.lt_succ_of_lt hlS)
        have hSf : s.heap.objs.size ∉ [(s.heap.push (newSetObj w)).objs.size, l] := by
          rw [Heap.size_push]
          simp only [List.mem_cons, List.mem_singleton, List.not_mem_nil, or_false, not_or]
          exact ⟨Nat.ne_of_lt (Nat.lt_succ_self _), Nat.ne_of_gt hlS⟩
        have none_of : ∀ b, s.heap.objs.size ≤ b → s.heap.get? b = none := fun b hb => by
          cases q : s.heap.get? b with
          | none => rfl
          | some o => exact absurd (Nat.lt_of_lt_of_le (Heap.lt_size q) hb) (Nat.lt_irrefl _)
        refine fill_loop ((Walks.tuple hh3 _ l hneI items).toS) hSf T (fun i v hv => by rw [Array.getElem?_toList]; exact hv) (none_of _ (Nat.le_refl _)) (fun b hb => none_of b (by
            rw [List.mem_singleton.mp hb, Heap.size_push]
            exact Nat.le_succ _)) (by simp only [Around.in1_units]; omega) (items.size - 0) 0 _ (by omega) (Nat.zero_le _)
          ⟨⟨_, Heap.get?_push_size _ rfl, rfl, rfl⟩, (hl1.push _)⟩ (fun b o e => Heap.get?_push_of_some _ (Heap.get?_push_of_some _ e)) (T.start _ (Heap.get?_push_of_some _ hS)) ?hR
        intro s' hm g' hkp
        obtain ⟨h', g2, d', tk', os'⟩ := s'
        have eg : g2 = s.gens := hm.gens
        have ed : d' = s.drawn := hm.drawn
        have eo : os' = s.os := hm.os
        subst eg; subst ed; subst eo
        show wpAny _ _ _ _ _ _
        refine wpAny_pure ?_
        show wpAny _ _ (ret Value.none) _ _ _
        exact wpAny_pure ⟨rfl, h', tk', rfl, g', hkp⟩
      · cases r₂ with
        | error e => exact hr₂
        | ok fl₂ =>
          cases fl₂ with
          | ret r =>
            obtain ⟨rfl, h', tk, rfl, g', hk'⟩ := hr₂
            repeat (any_goals (first | assumption | wp_step))
            exact h _ _ g' hk'
          | _ => exact hr₂.elim
    | _ => exact hr.elim
end
end Rw
namespace Rw
open PySem PySem.Spec PyProof.Rows PySem.W PySem.SeqAt
/-! ### tuples, perhaps empty ones among them, sorted -/
section
variable {prog : Program} {w : World} {A : Around} {E : Value → Shared → Prop} {s : Shared}
/-- each value is a tuple, and these are their first items -/
inductive Firsts (h : Heap) : List Value → List (Option Value) → Prop
  | nil : Firsts h [] []
  | cons {a : Addr} {o : Obj} {xs : Array Value} {n : Nat} {vs : List Value} {fs : List (Option Value)} : h.get? a = some o → o.cls = .type "tuple" → o.data = .seq xs n → Firsts h vs fs → Firsts h (.ref a :: vs) (xs[0]? :: fs)
theorem Firsts.len {h : Heap} {vs : List Value} {fs : List (Option Value)} (x : Firsts h vs fs) : fs.length = vs.length := by
  induction x with
  | nil => rfl
  | cons _ _ _ _ ih => rw [List.length_cons, List.length_cons, ih]
theorem firsts_run {M : Model} : ∀ (vs : List Value) (fs : List (Option Value)) {Q : List (Option Value) → Shared → Prop}, Firsts s.heap vs fs → Q fs s → wpAny M A (vs.mapM firstOfTuple') Q E s
  | _, _, _, .nil, h => by
    rw [List.mapM_nil]
    exact wpAny_pure h
  | _, _, Q, .cons (a := a) (xs := xs) (vs := vs) (fs := fs) ho hc hd t, h => by
    rw [List.mapM_cons]
    refine wpAny_bind ?_
    rw [kas_first_eq]
    refine wpAny_bind (Looks.here (show Looks M s.heap (typeOf (.ref a)) _ from (Looks.ld ho).andThen .now) ?_)
    rw [hc, if_neg (by first | decide | simp)]
    refine wpAny_bind (listItems_at ho hd (wpAny_pure ?_))
    exact wpAny_bind (firsts_run vs fs (Q := fun bs s' => wpAny M A (pure (xs[0]? :: bs)) Q E s') t (wpAny_pure h))
theorem firsts_ty {M : Model} {h : Heap} {vs : List Value} {fs : List (Option Value)} (x : Firsts h vs fs) : ∀ v ∈ vs, Looks M h (typeOf v) (.type "tuple") := by
  induction x with
  | nil => exact fun v hv => nomatch hv
  | cons ho hc hd _ ih =>
    intro v hv
    rcases List.mem_cons.mp hv with rfl | hv
    · show Looks M h (typeOf (Value.ref _)) (Value.type "tuple")
      exact hc ▸ (Looks.ld ho).andThen .now
    · exact ih v hv
/-- an empty one among the others, not the first -/
theorem kind_general {M : Model} {vs : List Value} {fs : List (Option Value)} {f : Value} {Q : SortKind → Shared → Prop} (x : Firsts s.heap vs fs) (h0 : fs[0]? = some (some f)) (hn : none ∈ fs) (h : Q general' s) : wpAny M A (keyKind' vs.toArray) Q E s := by
  rw [kat_kind_eq, List.mapM_toArray, map_eq_pure_bind]
  refine wpAny_bind (wpAny_bind (firsts_run vs fs x (wpAny_pure ?_)))
  have c : ¬ ((fs.toArray.all fun x => x.isSome) = true) := by
    intro q
    rw [List.all_toArray, List.all_eq_true] at q
    exact absurd (q none hn) (by simp)
  rw [if_neg c]
  have c2 : ((fs.toArray[0]?.bind id).isSome) = true := by
    have e : fs.toArray[0]? = some (some f) := by simpa using h0
    rw [e]
    rfl
  rw [if_pos c2]
  exact wpAny_pure h
/-- the first is empty -/
theorem kind_one {M : Model} {vs : List Value} {fs : List (Option Value)} {Q : SortKind → Shared → Prop} (x : Firsts s.heap vs fs) (h0 : fs[0]? = some none) (h : Q oneType' s) : wpAny M A (keyKind' vs.toArray) Q E s := by
  rw [kat_kind_eq, List.mapM_toArray, map_eq_pure_bind]
  refine wpAny_bind (wpAny_bind (firsts_run vs fs x (wpAny_pure ?_)))
  have c : ¬ ((fs.toArray.all fun x => x.isSome) = true) := by
    intro q
    rw [List.all_toArray, List.all_eq_true] at q
    exact absurd (q none (List.mem_of_getElem? h0)) (by simp)
  rw [if_neg c]
  have e : fs.toArray[0]? = some none := by simpa using h0
  have c2 : ¬ ((fs.toArray[0]?.bind id).isSome) = true := by
    rw [e]
    simp
  rw [if_neg c2, oneTypeOnly'_eq, List.mapM_toArray, map_eq_pure_bind]
  refine wpAny_bind (wpAny_bind (wpAny_bind (kas_mapM (r := Value.type "tuple") _ (fun v hv Q' hq => (firsts_ty x v hv).here hq) (wpAny_pure ?_))))
  have all : ((List.map (fun _ => Value.type "tuple") vs).toArray.all fun x => x == Value.type "tuple") = true := by
    simp only [List.all_toArray, List.all_map, List.all_eq_true]
    intro _ _
    show (Value.type "tuple" == Value.type "tuple") = true
    decide
  obtain ⟨v, r, ev⟩ : ∃ v r, vs = v :: r := by
    cases x with
    | nil => simp at h0
    | cons _ _ _ _ => exact ⟨_, _, rfl⟩
  have z : (List.map (fun _ => Value.type "tuple") vs).toArray[0]? = some (Value.type "tuple") := by
    rw [ev]
    simp
  rw [z]
  simp only [all, if_true]
  exact wpAny_pure (wpAny_pure h)
/-- by the type's own < -/
theorem oneLt_tuples {xs ys : List PyData} {a b : Value} {as bs : List Addr} {Q : Bool → Shared → Prop} (ra : Reads s.heap a (.tuple xs) as) (rb : Reads s.heap b (.tuple ys) bs) (hal : alikeAll xs ys = true)
    (hu : A.units + min (PyData.tuple xs).depth (PyData.tuple ys).depth < cLine) (hq : Q (dataLt (.tuple xs) (.tuple ys)) s) : wpAny (model prog w) A (oneLt' true a b) Q E s := by
  cases ra with
  | @tuple l o vs n _ _ h1 h2 h3 h4 =>
    cases rb with
    | @tuple l' o' vs' n' _ _ k1 k2 k3 k4 =>
      have n1 : vs.size = xs.length := by simpa using SeqAt.ReadsAll.length _ _ _ h4
      have n2 : vs'.size = ys.length := by simpa using SeqAt.ReadsAll.length _ _ _ k4
      rw [dataLt_tuple, ← firstLt_toks xs ys hal, ← n1, ← n2] at hq
      rw [oneLt'_eq]
      simp only [if_true]
      refine wpAny_bind (wpAny_cRoomFor (SeqAt.room_here hu) ?_)
      obtain ⟨ocls, odict, odata, oslots⟩ := o
      obtain ⟨pcls, pdict, pdata, pslots⟩ := o'
      simp only at h2 h3 k2 k3
      subst h2 h3 k2 k3
      refine wpAny_bind (wpAny_callSpecialIfBound?_slot (T := "tuple") ⟨_, h1, rfl⟩ F.slot_tuple_lt (call_meets F.slot_tuple_lt ⟨_, h1, rfl⟩ F.entry_tuple_lt (F.args_tuple_lt_2 _ _)
        (SeqAt.tuple_ltAt l l' vs vs' n n' odict pdict oslots pslots (pairEq xs ys) (fun j => dataLt (xs.getD j .none) (ys.getD j .none))) ⟨h1, k1, fun j j1 j2 => ?_, fun j j1 j2 hj => ?_, ?_⟩))
      · have := eqAt_alikeAll xs ys A.in1 s vs.toList vs'.toList _ _ h4 k4 hal (SeqAt.room_in hu) j (by simpa using j1) (by simpa using j2)
        simpa using this
      · have := rcLt_alikeAll xs ys A.in1 s vs.toList vs'.toList _ _ h4 k4 hal (SeqAt.room_in hu) j (by simpa using j1) (by simpa using j2) hj
        simpa using this
      · exact wpAny_truthy_bool hq
theorem firsts_of {h : Heap} : ∀ {vs : List Value} {ds : List PyData}, EachIs (fun v d => ∃ as, Reads h v d as) vs ds → (∀ d ∈ ds, ∃ xs, d = .tuple xs) → ∃ fs, Firsts h vs fs ∧ ∀ i : Nat, fs[i]? = some none ↔ ds[i]? = some (.tuple [])
  | _, _, .nil, _ => ⟨[], .nil, fun i => by simp⟩
  | _, _, .cons (b := d) ⟨as, r⟩ t, ht => by
    obtain ⟨fs, h1, h2⟩ := firsts_of t fun d hd => ht d (List.mem_cons_of_mem _ hd)
    obtain ⟨xs, rfl⟩ := ht d List.mem_cons_self
    cases r with
    | @tuple a o vs n _ _ ho hc hd hr =>
      refine ⟨_, .cons ho hc hd h1, fun i => ?_⟩
      cases i with
      | succ i => simpa using h2 i
      | zero =>
        have hl := SeqAt.ReadsAll.length _ _ _ hr
        rw [Array.length_toList] at hl
        simp only [List.getElem?_cons_zero, Option.some.injEq]
        constructor
        · intro q
          have z : vs.size = 0 := by
            have := Array.getElem?_eq_none_iff.mp q
            omega
          rw [z] at hl
          rw [List.length_eq_zero_iff.mp hl.symm]
        · intro q
          injection q with q
          subst q
          rw [List.length_nil] at hl
          exact Array.getElem?_eq_none (by omega)
/-- tuples of alike data can be sorted, empty ones too -/
theorem SortsAt.tups {vs : List Value} {ds : List PyData} (e : EachIs (fun v d => ∃ as, Reads s.heap v d as) vs ds) (hal : AllAlike ds) (ht : ∀ d ∈ ds, ∃ xs, d = .tuple xs) (hu : ∀ d, d ∈ ds → A.units + d.depth < cLine) : SortsAt prog w A s (dataKind s.heap ds) vs := by
  by_cases full : ∀ d ∈ ds, ∃ x r, d = .tuple (x :: r)
  · exact SortsAt.data e hal (.inl full) hu
  have hollow : PyData.tuple [] ∈ ds := by
    refine Classical.byContradiction fun hn => full fun d hd => ?_
    obtain ⟨xs, rfl⟩ := ht d hd
    cases xs with
    | nil => exact absurd hd hn
    | cons x r => exact ⟨x, r, rfl⟩
  have room : ∀ {d d' : PyData}, d ∈ ds → A.units + min d.depth d'.depth < cLine := fun {d d'} hd => Nat.lt_of_le_of_lt (Nat.add_le_add_left (Nat.min_le_left _ _) _) (hu d hd)
  refine ⟨fun v hv => ?_, ?_⟩
  · obtain ⟨d, hd, as, r⟩ := e.left v hv
    exact ⟨_, dataKind_some hal hd r⟩
  obtain ⟨fs, f1, f2⟩ := firsts_of e ht
  obtain ⟨i0, hi0, ei0⟩ := List.getElem_of_mem hollow
  have hnone : none ∈ fs := List.mem_of_getElem? ((f2 i0).mpr (by rw [List.getElem?_eq_getElem hi0, ei0]))
  have side : ∀ {x y : Value} {a b : List (Int ⊕ List Nat)}, (dataKind s.heap ds).keyOf x = some a → (dataKind s.heap ds).keyOf y = some b →
      ∃ xs ys as bs, Reads s.heap x (.tuple xs) as ∧ Reads s.heap y (.tuple ys) bs ∧ alike (.tuple xs) (.tuple ys) = true ∧ a = keyToks (.tuple xs) ∧ b = keyToks (.tuple ys) ∧ A.units + min (PyData.tuple xs).depth (PyData.tuple ys).depth < cLine := by
    intro x y a b ha hb
    obtain ⟨d, as, hd, ra, rfl⟩ := dataKind_inv ha
    obtain ⟨d', bs, hd', rb, rfl⟩ := dataKind_inv hb
    obtain ⟨xs, rfl⟩ := ht d hd
    obtain ⟨ys, rfl⟩ := ht d' hd'
    exact ⟨xs, ys, as, bs, ra, rb, hal _ hd _ hd', rfl, rfl, room hd⟩
  cases hz : fs[0]? with
  | none =>
    have : fs = [] := by
      cases fs with
      | nil => rfl
      | cons f r => simp at hz
    rw [this] at hnone
    exact nomatch hnone
  | some f =>
    cases f with
    | some f =>
      refine ⟨general', fun E x y a b Q ha hb hq => ?_, fun _ E Q hq => kind_general f1 hz hnone hq⟩
      obtain ⟨xs, ys, as, bs, ra, rb, hh, rfl, rfl, hr⟩ := side ha hb
      show wpAny _ _ (oneLt' false x y) _ _ _
      exact oneLt_alike (fun z => absurd z Bool.false_ne_true) ra rb hh (fun z => nomatch z) hr hq
    | none =>
      refine ⟨oneType', fun E x y a b Q ha hb hq => ?_, fun _ E Q hq => kind_one f1 hz hq⟩
      obtain ⟨xs, ys, as, bs, ra, rb, hh, rfl, rfl, hr⟩ := side ha hb
      rw [keyLt'_oneType]
      exact oneLt_tuples ra rb (by simpa [alike] using hh) hr hq
end
end Rw
namespace Rw
open PySem PySem.Spec PyProof.Rows L2 PySem.Froz
/-! ### filling a set with tuples -/
structure GotN (ks : List (Addr × NK)) (i : Nat) (L : List (Addr × NK)) : Prop where
  sub : ∀ p ∈ L, p ∈ ks.take i
  all : ∀ p ∈ ks.take i, p.2 ∈ L.map (·.2)
  len : L.length ≤ i
theorem take_snoc {α : Type} {l : List α} {i : Nat} {x : α} (h : l[i]? = some x) : l.take (i + 1) = l.take i ++ [x] := by
  rw [List.take_succ, h]
  rfl
theorem GotN.next {ks L L' : List (Addr × NK)} {i : Nat} {x : Addr × NK} (g : GotN ks i L) (h : ks[i]? = some x) (c1 : x.2 ∈ L.map (·.2) → L' = L) (c2 : x.2 ∉ L.map (·.2) → L'.Perm (x :: L)) : GotN ks (i + 1) L' := by
  have ht := take_snoc h
  by_cases hm : x.2 ∈ L.map (·.2)
  · rw [c1 hm]
    refine ⟨fun p hp => ?_, fun p hp => ?_, Nat.le_succ_of_le g.len⟩
    · rw [ht]
      exact List.mem_append_left _ (g.sub p hp)
    · rw [ht] at hp
      rcases List.mem_append.mp hp with z | z
      · exact g.all p z
      · rw [List.mem_singleton.mp z]
        exact hm
  · have pm := c2 hm
    refine ⟨fun p hp => ?_, fun p hp => ?_, ?_⟩
    · rw [ht]
      rcases List.mem_cons.mp (pm.mem_iff.mp hp) with e | z
      · rw [e]
        exact List.mem_append_right _ (List.mem_singleton.mpr rfl)
      · exact List.mem_append_left _ (g.sub p z)
    · rw [(pm.map (·.2)).mem_iff, List.map_cons]
      rw [ht] at hp
      rcases List.mem_append.mp hp with z | z
      · exact List.mem_cons_of_mem _ (g.all p z)
      · rw [List.mem_singleton.mp z]
        exact List.mem_cons_self
    · rw [pm.length_eq, List.length_cons]
      exact Nat.succ_le_succ g.len
theorem led_new (w : World) : w.params.followText "set-order" = true ∨ (!w.params.followText "set-order") = true := by
  cases w.params.followText "set-order"
  · exact .inr rfl
  · exact .inl rfl
section
variable {P : Program} {w : World} {A : Around} {E : Value → Shared → Prop} {s : Shared}
theorem TSet.empty {h : Heap} {a : Addr} (ho : h.get? a = some (newSetObj w)) : TSet P w h a [] #[] 0 (.fresh 0 0 (!w.params.followText "set-order")) where
  ob := ⟨_, ho, ⟨rfl, rfl, rfl⟩, rfl⟩
  en := rfl
  tab := ⟨List.Pairwise.nil, rfl, rfl, .inl rfl, fun x hx => (by cases hx), fun i h j hi => (by simp [hashes] at hi)⟩
  nd := List.nodup_nil
  ks := fun p hp => (by cases hp)
  led := led_new w
  room := by
    show 0 * 5 < 7 * 3
    decide
  few := by
    show 0 < 64
    decide
theorem TSet.moved {h h' : Heap} {a : Addr} {L : List (Addr × NK)} {es : Array (Int × Value)} {ep : Nat} {t : SetTable} (R : TSet P w h a L es ep t) (ha : ∀ o, h.get? a = some o → h'.get? a = some o) (ht : ∀ p ∈ L, TupK h' p.2 p.1) : TSet P w h' a L es ep t := by
  obtain ⟨o, ho, r⟩ := R.ob
  exact ⟨⟨o, ha o ho, r⟩, R.en, R.tab, R.nd, ht, R.led, R.room, R.few⟩
theorem fill_tups (S : Addr) (h0 : Heap) (ks : List (Addr × NK)) (hk : ∀ p ∈ ks, TupK h0 p.2 p.1) (few : ks.length < 64) :
    Fill P w S h0 (ks.map fun p => Value.ref p.1) (fun i h => ∃ L es ep t, TSet P w h S L es ep t ∧ GotN ks i L) where
  start := fun h ho => ⟨[], #[], 0, _, TSet.empty ho, ⟨fun p hp => (by cases hp), fun p hp => (by simp at hp), Nat.le_refl _⟩⟩
  keep := fun i h h' ⟨L, es, ep, t, R, g⟩ ha hold => ⟨L, es, ep, t, R.moved ha fun p hp => (hk p (List.mem_of_mem_take (g.sub p hp))).kept hold, g⟩
  put := fun i v A E s Q hu hv ⟨L, es, ep, t, R, g⟩ hold hQ => by
    rw [List.getElem?_map] at hv
    cases hx : ks[i]? with
    | none => rw [hx] at hv; simp at hv
    | some x =>
      rw [hx] at hv
      obtain rfl : Value.ref x.1 = v := Option.some.inj hv
      have il : i < ks.length := (List.getElem?_eq_some_iff.mp hx).1
      have hxk := (hk x (List.mem_of_getElem? hx)).kept hold
      unfold setAdd
      refine wpAny_holding ?_
      refine wpAny_bind ((nestedKind P w).pyHash (k := x.2) (show A.units + 8 < cLine from hu) hxk ?_)
      refine added (s := { s with toks := s.toks + (nestedKind P w).draws x.2 }) R hxk hu (by have := g.len; omega) fun b h' L' es' ep' t' sb R' c1 c2 => ?_
      exact hQ b h' _ (Nat.le_add_right _ _) sb ⟨L', es', ep', t', R', g.next hx c1 c2⟩
/-! ### filling a set with texts -/
structure XSet (P : Program) (w : World) (h : Heap) (a : Addr) (ms : List Str) (es : Array (Int × Value)) (ep : Nat) (t : SetTable) : Prop where
  ob : h.get? a = some (sObj "set" (es, ep, t))
  ok : TxOk P w (es, ep, t) ms
  nd : ms.Nodup
  ris : Ris t.place.toList
  led : w.params.followText "set-order" = true ∨ t.led = true
theorem add_ris {g : Int} {v : Value} {D : SD} (h : Ris D.2.2.place.toList) : Ris (addTx g v D).2.2.place.toList ∧ (addTx g v D).2.2.led = D.2.2.led := by
  obtain ⟨es, ep, t⟩ := D
  have n1 := layNew_ris t es g v h
  have n2 := layNew_led t es g v
  unfold addTx tailTx
  dsimp only at n1 n2 ⊢
  generalize layNew t es g v = N at n1 n2 ⊢
  obtain ⟨es1, t1, wd, gv⟩ := N
  dsimp only at n1 n2 ⊢
  have m1 : Ris (if t1.plain = true then { t1 with plain := false } else t1).place.toList ∧ (if t1.plain = true then { t1 with plain := false } else t1).led = t.led := by
    split <;> exact ⟨n1, n2⟩
  generalize (if t1.plain = true then { t1 with plain := false } else t1) = t2 at m1 ⊢
  split
  · exact ⟨relayAll_ris t2 es1 _, (relayAll_led t2 es1 _).trans m1.2⟩
  · exact m1
theorem XSet.moved {h h' : Heap} {a : Addr} {ms : List Str} {es : Array (Int × Value)} {ep : Nat} {t : SetTable} (R : XSet P w h a ms es ep t) (ha : ∀ o, h.get? a = some o → h'.get? a = some o) : XSet P w h' a ms es ep t :=
  ⟨ha _ R.ob, R.ok, R.nd, R.ris, R.led⟩
/-- a text that is in the set is put in again -/
theorem again_in {a : Addr} {ms : List Str} {es : Array (Int × Value)} {ep : Nat} {t : SetTable} {k : Str} {u : Tok} {Q : Bool → Shared → Prop} (R : XSet P w s.heap a ms es ep t) (hk : k ∈ ms) (hb : ms.length < scanBound) (h : Q false s) :
    wpAny (model P w) A (setAddHashed a (.str k u) (hashStr w k)) Q E s := by
  have hel : ElemsOf (strKind P w) es.toList := R.ok.el
  have hsz : es.size = ms.length := R.ok.sz
  have hf : t.fits es.size = true := R.ok.fit
  have hd : (sObj "set" (es, ep, t)).data = .set es ep t := rfl
  have hkey : (strKind P w).is k (.str k u) = true := is_str k u
  obtain ⟨e, he, hp⟩ := (R.ok.mem k).mp hk
  unfold setAddHashed setAddHashedIn
  refine wpAny_holding (wpAny_bind (wpAny_setState_of R.ob hd hf ?_))
  dsimp only
  rw [byScan_of rfl (by omega) hel]
  simp only [↓reduceIte]
  unfold setAddByScan
  refine wpAny_bind (wpAny_bind (wpAny_rule (wpAny_bind (wpAny_setScan_of (knd := strKind P w) (k := k) hkey R.ob hd hf hel ?_))))
  cases hr : List.findIdx? (fun e => (strKind P w).is k e.2) es.toList with
  | none =>
    have z := List.findIdx?_eq_none_iff.mp hr e he
    rw [hp] at z
    exact nomatch z
  | some j =>
    dsimp only
    exact wpAny_pure (wpAny_pure h)
theorem put_text {a : Addr} {ms : List Str} {es : Array (Int × Value)} {ep : Nat} {t : SetTable} {k : Str} {u : Tok} {Q : Bool → Shared → Prop} (R : XSet P w s.heap a ms es ep t) (hb : ms.length + 1 < scanBound)
    (h : ∀ b h' ms' es' ep' t', Heap.SameBut a s.heap h' → XSet P w h' a ms' es' ep' t' → (∀ z, z ∈ ms' ↔ z = k ∨ z ∈ ms) → ms'.length ≤ ms.length + 1 → Q b { s with heap := h' }) :
    wpAny (model P w) A (setAddHashed a (.str k u) (hashStr w k)) Q E s := by
  by_cases hk : k ∈ ms
  · refine again_in R hk (by omega) (h false s.heap ms es ep t (Heap.SameBut.refl a s.heap) R (fun z => ⟨.inr, fun q => q.elim (fun e => e ▸ hk) id⟩) (Nat.le_succ _))
  · refine add_x R.ob R.ok hk hb ?_
    have sb : Heap.SameBut a s.heap (s.heap.update a (fun _ => sObj "set" (addTx (hashStr w k) (.str k u) (es, ep, t)))) := Heap.SameBut.update ..
    have ho : (s.heap.update a (fun _ => sObj "set" (addTx (hashStr w k) (.str k u) (es, ep, t)))).get? a = some (sObj "set" (addTx (hashStr w k) (.str k u) (es, ep, t))) := get_upd _ R.ob rfl
    have ok := add_ok u R.ok (k := k)
    have rl := add_ris (g := hashStr w k) (v := .str k u) (D := (es, ep, t)) R.ris
    generalize addTx (hashStr w k) (.str k u) (es, ep, t) = D at sb ho ok rl ⊢
    obtain ⟨es', ep', t'⟩ := D
    refine h true _ (k :: ms) es' ep' t' sb ⟨ho, ok, List.nodup_cons.mpr ⟨hk, R.nd⟩, rl.1, ?_⟩ (fun z => List.mem_cons) (Nat.le_refl _)
    have e : t'.led = t.led := rl.2
    rw [e]
    exact R.led
theorem fill_texts (S : Addr) (h0 : Heap) (zs : List Str) {vs : List Value} (hv : PySem.W.EachIs (fun v z => ∃ u, v = Value.str z u) vs zs) (few : zs.length + 1 < scanBound) :
    Fill P w S h0 vs (fun i h => ∃ ms es ep t, XSet P w h S ms es ep t ∧ (∀ z, z ∈ ms ↔ z ∈ zs.take i) ∧ ms.length ≤ i) where
  start := fun h ho => ⟨[], #[], 0, _, ⟨ho, TxOk.nil rfl, List.nodup_nil, List.Pairwise.nil, led_new w⟩, fun z => by simp, Nat.le_refl _⟩
  keep := fun i h h' ⟨ms, es, ep, t, R, g⟩ ha _ => ⟨ms, es, ep, t, R.moved ha, g⟩
  put := fun i v A E s Q hu hvi ⟨ms, es, ep, t, R, g, hl⟩ hold hQ => by
    have hlen := hv.length
    have il : i < vs.length := (List.getElem?_eq_some_iff.mp hvi).1
    have iz : i < zs.length := by omega
    have hz : zs[i]? = some zs[i] := List.getElem?_eq_getElem iz
    have pz : (v, zs[i]) ∈ vs.zip zs := List.mem_of_getElem? (i := i) (by rw [List.getElem?_zip_eq_some]; exact ⟨hvi, hz⟩)
    obtain ⟨u, rfl⟩ : ∃ u, v = Value.str zs[i] u := hv.zip _ pz
    unfold setAdd
    refine wpAny_holding ?_
    refine wpAny_bind ((strKind P w).pyHash (k := zs[i]) (is_str _ _) ?_)
    refine put_text (s := { s with toks := s.toks + 1 }) R (by omega) fun b h' ms' es' ep' t' sb R' hm hl' => ?_
    refine hQ b h' _ (Nat.le_succ _) sb ⟨ms', es', ep', t', R', fun z => ?_, by omega⟩
    rw [hm, take_snoc hz, List.mem_append, List.mem_singleton, g z]
    exact ⟨fun q => q.elim .inr .inl, fun q => q.elim .inr .inl⟩
/-! ### sorted of a set -/
theorem each_perm {α β : Type} {R : α → β → Prop} {l l' : List α} (p : l'.Perm l) : ∀ {bs : List β}, PySem.W.EachIs R l bs → ∃ bs', PySem.W.EachIs R l' bs' ∧ bs'.Perm bs := by
  induction p with
  | nil => exact fun {bs} e => ⟨bs, e, List.Perm.refl _⟩
  | cons x _ ih =>
    intro bs e
    cases e with
    | cons h t =>
      obtain ⟨bs', e', p'⟩ := ih t
      exact ⟨_ :: bs', .cons h e', p'.cons _⟩
  | swap x y l =>
    intro bs e
    cases e with
    | cons h t =>
      cases t with
      | cons h' t' => exact ⟨_, .cons h' (.cons h t'), List.Perm.swap _ _ _⟩
  | trans _ _ ih1 ih2 =>
    intro bs e
    obtain ⟨b1, e1, p1⟩ := ih2 e
    obtain ⟨b2, e2, p2⟩ := ih1 e1
    exact ⟨b2, e2, p2.trans p1⟩
open PySem.W in
theorem each_and {α β : Type} {R S : α → β → Prop} : ∀ {as : List α} {bs : List β}, EachIs R as bs → EachIs S as bs → EachIs (fun a b => R a b ∧ S a b) as bs
  | _, _, .nil, .nil => .nil
  | _, _, .cons h t, .cons h' t' => .cons ⟨h, h'⟩ (each_and t t')
open PySem.W in
/-- xs.sort(): the list's own object then holds the sorted values -/
theorem list_sorts {β : Type} {a : Addr} {n : Nat} {vs : List Value} {bs : List β} {enc : β → PyData} {R : Value → β → Prop} {Q : Value → Shared → Prop} (ho : s.heap.get? a = some (seqObj "list" vs.toArray n)) (e : EachIs R vs bs) (er : EachIs (fun v b => ∃ as, Reads s.heap v (enc b) as ∧ a ∉ as) vs bs) (hal : AllAlike (bs.map enc)) (hk : (∀ d ∈ bs.map enc, ∃ xs, d = .tuple xs) ∨ Sortable (bs.map enc)) (hL : bs.length ≤ sizeLine)
    (hu : ∀ b, b ∈ bs → A.units + 1 + (enc b).depth < cLine) (h : ∀ out, out.length = bs.length → EachIs R out (bs.mergeSort (dataLe false enc)) → Q .none { s with heap := sortedHeap s.heap a vs (List.toArray out) }) :
    wpAny (model P w) A (call (.builtin "list.sort") [.ref a]) Q E s := by
  have er' : EachIs (fun v b => ∃ as, Reads (sortingHeap s.heap a vs) v (enc b) as) vs bs := each_keepBut (h' := sortingHeap s.heap a vs) (fun _ _ hb q => sortingHeap_old hb q) (fun o q => by rw [ho] at q; rw [← Option.some.inj q]) hal er
  have em := each_map (R := fun v d => ∃ as, Reads (sortingHeap s.heap a vs) v d as) enc er'
  have can : SortsAt P w A.in1 { s with heap := sortingHeap s.heap a vs } (dataKind (sortingHeap s.heap a vs) (bs.map enc)) vs := by
    rcases hk with ht | hs
    · exact SortsAt.tups (s := { s with heap := sortingHeap s.heap a vs }) em hal ht (bound_map hu)
    · exact SortsAt.data (s := { s with heap := sortingHeap s.heap a vs }) em hal hs (bound_map hu)
  refine wpAny_call_entry slot_list_sort ⟨_, ho, rfl⟩ entry_list_sort (list_sort_vals (κ := dataKind (sortingHeap s.heap a vs) (bs.map enc)) ho can (by rw [e.length]; exact hL) ⟨.none, rfl, ?_⟩) (args_list_sort _)
  exact h _ (by rw [sortVals_length false rfl]; exact e.length) (sortVals_data false e er' hal)
open PySem.W in
theorem sort_facts {β : Type} (enc : β → PyData) (bs : List β) : (bs.mergeSort (dataLe false enc)).Perm bs ∧ (bs.mergeSort (dataLe false enc)).Pairwise (fun a b => dataLe false enc a b = true) :=
  ⟨List.mergeSort_perm _ _, sort_pairwise (sortLe_total (listOrd itemOrd) false fun b => keyToks (enc b)) bs⟩
open PySem.W in
theorem sorted_coll {β : Type} {a : Addr} {es : Array (Int × Value)} {ep : Nat} {t : SetTable} {bs : List β} {enc : β → PyData} {R : Value → β → Prop} {Q : Value → Shared → Prop} (hh : A.handled = none) (ha : SetAt s.heap a es ep t) (hf : t.fits es.size = true) (hsz : es.size < scanBound) (r : Ris t.place.toList)
    (hl : w.params.followText "set-order" = true ∨ t.led = true) (e : EachIs R (es.toList.map (·.2)) bs) (er : EachIs (fun v b => ∃ as, Reads s.heap v (enc b) as ∧ ∀ c ∈ as, c < s.heap.objs.size) (es.toList.map (·.2)) bs)
    (hal : AllAlike (bs.map enc)) (hk : (∀ d ∈ bs.map enc, ∃ xs, d = .tuple xs) ∨ Sortable (bs.map enc)) (hu : ∀ b, b ∈ bs → A.units + 3 + (enc b).depth < cLine)
    (hQ : ∀ s' p (out : Array Value) (c : Nat) (bs' : List β), (∀ b o, s.heap.get? b = some o → s'.heap.get? b = some o) → s'.gens = s.gens → s'.os = s.os → s.heap.objs.size ≤ p → s'.heap.get? p = some (seqObj "list" out c) →
      EachIs R out.toList bs' → bs'.Perm bs → bs'.Pairwise (fun a b => dataLe false enc a b = true) → Q (.ref p) s') :
    wpAny (model P w) A (call (.builtin "sorted") [.ref a]) Q E s := by
  refine Calls.call_function_entry kind_sorted plain_sorted entry_sorted (args_sorted1 _) ?_
  unfold Builtin.«sorted»
  refine wpAny_bind (m := checkCount "sorted" 1 1 _) (wpAny_pure ?_)
  refine wpAny_bind (collect_set (A := A.in1) hh ha hf hsz r hl fun s1 vs k1 hz g1 o1 pm => ?_)
  obtain ⟨bs1, e1, p1⟩ := each_perm pm (each_and e er)
  have lb : bs.length = es.size := by rw [← e.length, List.length_map, Array.length_toList]
  have lv : vs.length = bs1.length := e1.length
  have l1 : bs1.length = bs.length := p1.length_eq
  have sl : scanBound = 4096 := rfl
  refine wpAny_bind (wpAny_newList ?_ (by rw [sizeLine_eq]; omega))
  have hoL : (s1.heap.push (seqObj "list" vs.toArray 0)).get? s1.heap.objs.size = some (seqObj "list" vs.toArray 0) := Heap.get?_push_size _ rfl
  have mem1 : ∀ d, d ∈ bs1.map enc ↔ d ∈ bs.map enc := fun d => (p1.map enc).mem_iff
  refine wpAny_bind (wpAny_holding (list_sorts (s := { s1 with heap := s1.heap.push (seqObj "list" vs.toArray 0) }) (enc := enc) (R := R) hoL (e1.mono fun _ _ z => z.1)
    (e1.mono fun v b z => ?_) (fun d hd d' hd' => hal d ((mem1 d).mp hd) d' ((mem1 d').mp hd')) ?_ (by rw [sizeLine_eq]; omega) (fun b hb => ?_) fun out ho eo => ?_))
  · obtain ⟨_, as, rd, lo⟩ := z
    refine ⟨as, PyProof.Rows.Reads.keeps (fun c o q => Heap.get?_push_of_some _ (k1 c o q)) rd, fun hm => ?_⟩
    exact absurd (Nat.lt_of_lt_of_le (lo _ hm) hz) (Nat.lt_irrefl _)
  · rcases hk with ht | hs
    · exact .inl fun d hd => ht d ((mem1 d).mp hd)
    · rcases hs with h1 | h2
      · exact .inr (.inl fun d hd => h1 d ((mem1 d).mp hd))
      · exact .inr (.inr fun d hd => h2 d ((mem1 d).mp hd))
  · have := hu b (p1.mem_iff.mp hb)
    simp only [Around.in1_units]
    omega
  · obtain ⟨c, hc⟩ := sortedHeap_at (vs := vs) (out := out.toArray) hoL
    have sf := sort_facts enc bs1
    refine wpAny_pure ⟨_, rfl, hQ _ s1.heap.objs.size out.toArray c (bs1.mergeSort (dataLe false enc)) (fun b u q => ?_) g1 o1 hz hc (by simpa using eo) (sf.1.trans p1) sf.2⟩
    have q1 := k1 b u q
    have hlt := Heap.lt_size q1
    show (sortedHeap (s1.heap.push (seqObj "list" vs.toArray 0)) s1.heap.objs.size vs out.toArray).get? b = some u
    rw [sortedHeap_old (Nat.ne_of_lt hlt) (by rw [size_push']; exact Nat.lt_succ_of_lt hlt)]
    exact Heap.get?_push_of_some _ q1
end
end Rw
namespace Rw
open PySem PySem.Spec PyProof.Rows L2 PySem.Froz
/-! ### data made of texts, whole numbers, None and tuples -/
mutual
def okD : PyData → Bool
  | .none => true
  | .int _ => true
  | .str _ => true
  | .tuple xs => okDs xs
  | .bool _ => false
  | .list _ => false
  | .dict _ => false
def okDs : List PyData → Bool
  | [] => true
  | x :: xs => okD x && okDs xs
end
mutual
def toK : PyData → NK
  | .none => .none
  | .int i => .num i
  | .str x => .text x
  | .tuple xs => .tup (toKs xs)
  | .bool _ => .none
  | .list _ => .none
  | .dict _ => .none
def toKs : List PyData → List NK
  | [] => []
  | x :: xs => toK x :: toKs xs
end
theorem okDs_cons {x : PyData} {xs : List PyData} (h : okDs (x :: xs) = true) : okD x = true ∧ okDs xs = true := by
  rw [okDs, Bool.and_eq_true] at h
  exact h
mutual
theorem toK_data : ∀ d : PyData, okD d = true → (toK d).data = d
  | .none, _ => by simp [toK, NestedKey.data]
  | .int _, _ => by simp [toK, NestedKey.data]
  | .str _, _ => by simp [toK, NestedKey.data]
  | .tuple xs, h => by
    rw [okD] at h
    rw [toK, NestedKey.data, toKs_data xs h]
  | .bool _, h => by simp [okD] at h
  | .list _, h => by simp [okD] at h
  | .dict _, h => by simp [okD] at h
theorem toKs_data : ∀ ds : List PyData, okDs ds = true → NestedKey.datas (toKs ds) = ds
  | [], _ => by simp [toKs, NestedKey.datas]
  | x :: xs, h => by
    obtain ⟨h1, h2⟩ := okDs_cons h
    rw [toKs, NestedKey.datas, toK_data x h1, toKs_data xs h2]
end
theorem toK_inj {d e : PyData} (hd : okD d = true) (he : okD e = true) (h : toK d = toK e) : d = e := by
  rw [← toK_data d hd, ← toK_data e he, h]
mutual
theorem toK_depth : ∀ d : PyData, (toK d).depth ≤ d.depth
  | .none => by simp [toK, NestedKey.depth]
  | .int _ => by simp [toK, NestedKey.depth]
  | .str _ => by simp [toK, NestedKey.depth]
  | .tuple xs => by
    have z := toKs_depth xs
    rw [toK, NestedKey.depth, PyData.depth]
    omega
  | .bool _ => by simp [toK, NestedKey.depth]
  | .list _ => by simp [toK, NestedKey.depth]
  | .dict _ => by simp [toK, NestedKey.depth]
theorem toKs_depth : ∀ ds : List PyData, NestedKey.depthAll (toKs ds) ≤ PyData.depthAll ds
  | [] => by simp [toKs, NestedKey.depthAll]
  | x :: xs => by
    have z1 := toK_depth x
    have z2 := toKs_depth xs
    rw [toKs, NestedKey.depthAll, PyData.depthAll]
    omega
end
mutual
theorem isK_of : ∀ (d : PyData) (h : Heap) (v : Value) (as : List Addr), okD d = true → Reads h v d as → NestedIs h (toK d) v ∧ as = []
  | .none, _, _, _, _, r => by
    cases r
    exact ⟨.none, rfl⟩
  | .int _, _, _, _, _, r => by
    cases r
    exact ⟨.int _ _, rfl⟩
  | .str _, _, _, _, _, r => by
    cases r
    exact ⟨.text _ _, rfl⟩
  | .tuple xs, h, _, _, ok, r => by
    rw [okD] at ok
    cases r with
    | tuple h1 h2 h3 h4 =>
      obtain ⟨k, e⟩ := isKs_of xs h _ _ ok h4
      exact ⟨.tup h1 h2 h3 k, e⟩
  | .bool _, _, _, _, ok, _ => by simp [okD] at ok
  | .list _, _, _, _, ok, _ => by simp [okD] at ok
  | .dict _, _, _, _, ok, _ => by simp [okD] at ok
theorem isKs_of : ∀ (ds : List PyData) (h : Heap) (vs : List Value) (as : List Addr), okDs ds = true → ReadsAll h vs ds as → NestedAll h (toKs ds) vs ∧ as = []
  | [], _, _, _, _, r => by
    cases r
    exact ⟨.nil, rfl⟩
  | x :: xs, h, _, _, ok, r => by
    obtain ⟨o1, o2⟩ := okDs_cons ok
    cases r with
    | cons r1 r2 =>
      obtain ⟨k1, e1⟩ := isK_of x h _ _ o1 r1
      obtain ⟨k2, e2⟩ := isKs_of xs h _ _ o2 r2
      exact ⟨.cons k1 k2, by rw [e1, e2]; rfl⟩
end
/-- a tuple of such, not too deep -/
structure Good (d : PyData) : Prop where
  ok : okD d = true
  dp : d.depth ≤ 8
  tu : ∃ xs, d = .tuple xs
/-! ### what stays while tuples stay -/
def Stay (H H' : Hp) : Prop := ∀ b xs, Rd H b (.tup xs) → Rd H' b (.tup xs)
theorem Stay.refl (H : Hp) : Stay H H := fun _ _ h => h
theorem Stay.trans {H H1 H2 : Hp} (a : Stay H H1) (b : Stay H1 H2) : Stay H H2 := fun c xs h => b c xs (a c xs h)
theorem Stay.same {H H' : Hp} (h : Same H H') : Stay H H' := fun b xs r => by
  rcases r with r | ⟨o, r⟩
  · exact .inl (h _ _ r)
  · exact .inr ⟨o, h _ _ r⟩
theorem same_new {H : Hp} {p : Addr} (h : H p = none) (o : HO) : Same H (upd H p o) := fun b u q => by
  rw [upd_ne (ne_of_none q h)]
  exact q
theorem Stay.new {H : Hp} {p : Addr} (h : H p = none) (o : HO) : Stay H (upd H p o) := .same (same_new h o)
theorem Stay.put {H : Hp} {p : Addr} (h : Mut (H p)) (o : HO) : Stay H (upd H p o) := fun b xs r => by
  have ne : b ≠ p := fun z => by
    subst z
    rcases r with r | ⟨u, r⟩
    · rw [r] at h; exact h
    · rw [r] at h; exact h
  unfold Rd
  rw [upd_ne ne]
  exact r
theorem Stay.seq {K : PySem.W.Frag} {H H' : Hp} {a : Addr} {xs : List V} (e : Stay H H') (h : SqT K H a xs) : SqT K H' a xs := by
  rcases h with h | h
  · exact .inl (e _ _ h)
  · exact .inr h
theorem same_tup {K : PySem.W.Frag} {H H' : Hp} {a : Addr} {xs : List V} (e : Same H H') (h : SqT K H a xs) : SqT K H' a xs := (Stay.same e).seq h
section
variable {K : PySem.W.Frag} {H H' : Hp}
mutual
theorem Stay.dp (e : Stay H H') : ∀ (d : PyData) (x : V), okD d = true → Dp K H x d → Dp K H' x d
  | .none, _, _, h => by cases h; exact .non
  | .int _, _, _, h => by cases h; exact .int _
  | .str _, _, _, h => by cases h; exact .str _
  | .tuple ds, _, ok, h => by
    rw [okD] at ok
    cases h with
    | tup h1 h2 => exact .tup (e.seq h1) (Stay.dpAll e ds _ ok h2)
  | .bool _, _, ok, _ => by simp [okD] at ok
  | .list _, _, ok, _ => by simp [okD] at ok
  | .dict _, _, ok, _ => by simp [okD] at ok
theorem Stay.dpAll (e : Stay H H') : ∀ (ds : List PyData) (xs : List V), okDs ds = true → DpAll K H xs ds → DpAll K H' xs ds
  | [], _, _, h => by cases h; exact .nil
  | d :: ds, _, ok, h => by
    obtain ⟨o1, o2⟩ := okDs_cons ok
    cases h with
    | cons h1 h2 => exact .cons (Stay.dp e d _ o1 h1) (Stay.dpAll e ds _ o2 h2)
end
theorem okDs_all {ds : List PyData} (h : ∀ d ∈ ds, okD d = true) : okDs ds = true := by
  induction ds with
  | nil => rfl
  | cons d ds ih =>
    rw [okDs, h d List.mem_cons_self, ih fun e he => h e (List.mem_cons_of_mem _ he)]
    rfl
theorem dpAll_len : ∀ {xs : List V} {ds : List PyData}, DpAll K H xs ds → xs.length = ds.length
  | _, _, .nil => rfl
  | _, _, .cons _ t => by rw [List.length_cons, List.length_cons, dpAll_len t]
theorem dpAll_at : ∀ {xs : List V} {ds : List PyData} {i : Nat} {d : PyData}, DpAll K H xs ds → ds[i]? = some d → ∃ x, xs[i]? = some x ∧ Dp K H x d
  | _, _, _, _, .nil, e => by simp at e
  | _, _, 0, _, .cons h _, e => by
    simp at e
    subst e
    exact ⟨_, rfl, h⟩
  | _, _, i + 1, _, .cons _ t, e => by
    obtain ⟨x, h1, h2⟩ := dpAll_at (i := i) t (by simpa using e)
    exact ⟨x, by simpa using h1, h2⟩
theorem dpAll_at' : ∀ {xs : List V} {ds : List PyData} {i : Nat} {x : V}, DpAll K H xs ds → xs[i]? = some x → ∃ d, ds[i]? = some d ∧ Dp K H x d
  | _, _, _, _, .nil, e => by simp at e
  | _, _, 0, _, .cons h _, e => by
    simp at e
    subst e
    exact ⟨_, rfl, h⟩
  | _, _, i + 1, _, .cons _ t, e => by
    obtain ⟨x, h1, h2⟩ := dpAll_at' (i := i) t (by simpa using e)
    exact ⟨x, by simpa using h1, h2⟩
theorem dpAll_app : ∀ {xs ys : List V} {ds es : List PyData}, DpAll K H xs ds → DpAll K H ys es → DpAll K H (xs ++ ys) (ds ++ es)
  | _, _, _, _, .nil, h => h
  | _, _, _, _, .cons a t, h => .cons a (dpAll_app t h)
theorem Good.ref {x : V} {d : PyData} (g : Good d) (h : Dp K H x d) : ∃ a, x = .ref a := by
  obtain ⟨xs, rfl⟩ := g.tu
  cases h with
  | tup _ _ => exact ⟨_, rfl⟩
end
/-! ### the rules over the abstract heap -/
def tk (L : List (Addr × PyData)) : List (Addr × NK) := L.map fun p => (p.1, toK p.2)
/-- the set of tuples at a, without the tuples -/
def TSetO (w : World) (a : Addr) (L : List (Addr × PyData)) : HO := .ext fun h => ∃ (es : Array (Int × Value)) (ep : Nat) (t : SetTable), (∃ o, h.get? a = some o ∧ o.ExactSet ∧ o.data = .set es ep t) ∧ es.toList = ents w (tk L) ∧ TabOk t (hashes w (tk L)) ∧ ((tk L).map (·.2)).Nodup ∧
  (w.params.followText "set-order" = true ∨ t.led = true) ∧ (tk L).length * 5 < t.mask * 3 ∧ (tk L).length < 64
def XSetO (P : Program) (w : World) (a : Addr) (ms : List Str) : HO := .ext fun h => ∃ (es : Array (Int × Value)) (ep : Nat) (t : SetTable), XSet P w h a ms es ep t
section
variable {X : Cx} {pins : List (Addr × Obj)} {σ : L2.St} {H : Hp} {s : Shared}
theorem key_at (I : Inv X pins σ H s) {a : Addr} {d : PyData} (h : Dp X.K H (.ref a) d) (g : Good d) : TupK s.heap (toK d) a := by
  obtain ⟨as, r⟩ := Dp.reads I d (.ref a) (.ref a) h rfl
  exact ⟨(isK_of d s.heap _ as g.ok r).1, Nat.le_trans (toK_depth d) g.dp⟩
theorem refs_of (g : ∀ d ∈ ds, Good d) {K : PySem.W.Frag} {H : Hp} : ∀ {xs : List V}, DpAll K H xs ds → ∃ L : List (Addr × PyData), xs = L.map (fun p => V.ref p.1) ∧ ds = L.map (·.2) ∧ ∀ p ∈ L, Dp K H (.ref p.1) p.2 := by
  induction ds with
  | nil =>
    intro xs h
    cases h
    exact ⟨[], rfl, rfl, fun p hp => nomatch hp⟩
  | cons d ds ih =>
    intro xs h
    cases h with
    | cons h1 h2 =>
      obtain ⟨L, e1, e2, e3⟩ := ih (fun e he => g e (List.mem_cons_of_mem _ he)) h2
      obtain ⟨a, rfl⟩ := (g d List.mem_cons_self).ref h1
      refine ⟨(a, d) :: L, by rw [e1]; rfl, by rw [e2]; rfl, fun p hp => ?_⟩
      rcases List.mem_cons.mp hp with e | hp
      · rw [e]
        exact h1
      · exact e3 p hp
theorem vals_refs : ∀ {L : List (Addr × PyData)} {us : List Value}, Vals (L.map fun p => V.ref p.1) us → us = (tk L).map fun p => Value.ref p.1
  | [], _, .nil => rfl
  | p :: L, _, .cons r t => by
    cases r
    rw [vals_refs t]
    rfl
/-- set(xs), xs a list or a tuple of tuples -/
def rSetT (K : PySem.W.Frag) (w : World) : List V → Hp → VK → Prop := fun vs H Q => ∃ (l : Addr) (xs : List V) (ds : List PyData), vs = [V.ref l] ∧ (SqL K H l xs ∨ SqT K H l xs) ∧ DpAll K H xs ds ∧ (∀ d ∈ ds, Good d) ∧ ds.length < 64 ∧
  ∀ a L, H a = none → (∀ p ∈ L, p.2 ∈ ds ∧ Dp K H (.ref p.1) p.2) → (∀ d ∈ ds, d ∈ L.map (·.2)) → Q (.ref a) (upd H a (TSetO w a L))
theorem cr_setT (hc : X.calm = true) (hu : X.A.units + 64 < cLine) : CallR X (.type "set") (rSetT X.K X.w) := by
  intro pins s σ H vs us Q I r h
  obtain ⟨l, xs, ds, rfl, hl, hd, hg, hf, q⟩ := h
  obtain ⟨L0, rfl, rfl, hL0⟩ := refs_of hg hd
  rw [Vals.ref1 r]
  have hn : H s.heap.objs.size = none := I.hok.fresh (Nat.le_refl _)
  have hk0 : ∀ p ∈ tk L0, TupK s.heap p.2 p.1 := fun p hp => by
    obtain ⟨z, hz, rfl⟩ := List.mem_map.mp hp
    exact key_at I (hL0 z hz) (hg z.2 (List.mem_map.mpr ⟨z, hz, rfl⟩))
  have few : (tk L0).length < 64 := by
    unfold tk
    rw [List.length_map]
    rw [List.length_map] at hf
    exact hf
  have T := fill_tups (P := X.prog) (w := X.w) s.heap.objs.size s.heap (tk L0) hk0 few
  have fin : ∀ (n : Nat), n = (tk L0).length → ∀ (h' : Heap) (tk' : Nat), (∃ L es ep t, TSet X.prog X.w h' s.heap.objs.size L es ep t ∧ GotN (tk L0) n L) → (∀ b o, s.heap.get? b = some o → h'.get? b = some o) → EP X pins σ Q (.ref s.heap.objs.size) { s with heap := h', toks := tk' } := by
    intro n en h' tk' ⟨L, es, ep, t, R, g⟩ k
    subst en
    have back : ∀ M : List (Addr × NK), (∀ p ∈ M, p ∈ tk L0) → ∃ M0 : List (Addr × PyData), M = tk M0 ∧ ∀ p ∈ M0, p ∈ L0 := by
      intro M
      induction M with
      | nil => exact fun _ => ⟨[], rfl, fun p hp => nomatch hp⟩
      | cons m M ih =>
        intro hm
        obtain ⟨M0, e, h0⟩ := ih fun p hp => hm p (List.mem_cons_of_mem _ hp)
        obtain ⟨z, hz, ez⟩ := List.mem_map.mp (hm m List.mem_cons_self)
        refine ⟨z :: M0, by rw [e, ← ez]; rfl, fun p hp => ?_⟩
        rcases List.mem_cons.mp hp with e' | hp
        · rw [e']
          exact hz
        · exact h0 p hp
    obtain ⟨M, rfl, hM⟩ := back L fun p hp => List.mem_of_mem_take (g.sub p hp)
    have new : ObjOk X.prog X.w (upd H s.heap.objs.size (TSetO X.w s.heap.objs.size M)) h' s.heap.objs.size (TSetO X.w s.heap.objs.size M) := by
      obtain ⟨o, ho, ho2⟩ := R.ob
      refine ⟨⟨es, ep, t, ⟨o, ho, ho2⟩, R.en, R.tab, R.nd, R.led, R.room, R.few⟩, ⟨o, ho⟩, fun h1 h2 ⟨es', ep', t', ⟨o', e1, e2⟩, z⟩ kk => ⟨es', ep', t', ⟨o', kk o' e1, e2⟩, z⟩⟩
    refine ⟨.ref s.heap.objs.size, upd H s.heap.objs.size (TSetO X.w s.heap.objs.size M), I.laid (t' := tk') k (Nat.le_refl _) new, rfl, q _ M hn (fun p hp => ⟨List.mem_map.mpr ⟨p, hM p hp, rfl⟩, hL0 p (hM p hp)⟩) fun d hd => ?_⟩
    obtain ⟨z, hz, rfl⟩ := List.mem_map.mp hd
    have := g.all (z.1, toK z.2) (by rw [List.take_length]; exact List.mem_map.mpr ⟨z, hz, rfl⟩)
    obtain ⟨y, hy, ey⟩ := List.mem_map.mp this
    obtain ⟨y0, hy0, e0⟩ := List.mem_map.mp hy
    have e3 : toK y0.2 = toK z.2 := by
      have e := ey
      rw [← e0] at e
      exact e
    have e4 : y0.2 = z.2 := toK_inj (hg _ (List.mem_map.mpr ⟨y0, hM y0 hy0, rfl⟩)).ok (hg _ (List.mem_map.mpr ⟨z, hz, rfl⟩)).ok e3
    exact List.mem_map.mpr ⟨y0, hy0, e4⟩
  have vlen : ∀ {its : List Value}, its = (tk L0).map (fun p => Value.ref p.1) → its.toArray.size = (tk L0).length := fun e => by
    rw [e, List.size_toArray, List.length_map]
  rcases hl with hl | hl
  · obtain ⟨its, rv, pl, hz⟩ := I.list hl
    have ev := vals_refs rv
    exact call_fill_list (I.ok.hd hc) pl.isList (by rw [show its.toArray.toList = its by simp, ev]; exact T) (by omega) fun h' tk' G k => fin _ (vlen ev) h' tk' G k
  · obtain ⟨its, rv, pl, hz⟩ := I.tuple hl
    have ev := vals_refs rv
    obtain ⟨o, e1, e2, n, e3⟩ := pl
    exact call_fill_tuple (I.ok.hd hc) ⟨o, e1, e2, n, e3⟩ (by rw [show its.toArray.toList = its by simp, ev]; exact T) (by omega) fun h' tk' G k => fin _ (vlen ev) h' tk' G k
theorem tset_get (I : Inv X pins σ H s) {a : Addr} {L : List (Addr × PyData)} (ha : H a = some (TSetO X.w a L)) (hL : ∀ p ∈ L, Good p.2 ∧ Dp X.K H (.ref p.1) p.2) : ∃ es ep t, TSet X.prog X.w s.heap a (tk L) es ep t := by
  obtain ⟨es, ep, t, h1, h2, h3, h4, h5, h6, h7⟩ := (I.hok a _ ha).1
  refine ⟨es, ep, t, h1, h2, h3, h4, fun p hp => ?_, h5, h6, h7⟩
  obtain ⟨z, hz, rfl⟩ := List.mem_map.mp hp
  exact key_at I (hL z hz).2 (hL z hz).1
open PySem.W in
/-- values that stand for data, as values of the layer -/
theorem each_vals {K : PySem.W.Frag} {H : Hp} : ∀ {us : List Value} {ds : List PyData}, EachIs (fun u d => ∃ x, RelV x u ∧ Dp K H x d) us ds → ∃ ys, Vals ys us ∧ DpAll K H ys ds
  | _, _, .nil => ⟨[], .nil, .nil⟩
  | _, _, .cons ⟨x, r, h⟩ t => by
    obtain ⟨ys, v, h'⟩ := each_vals t
    exact ⟨x :: ys, .cons r v, .cons h h'⟩
open PySem.W in
theorem each_map' {α γ δ : Type} {R : γ → δ → Prop} (f : α → γ) (g : α → δ) : ∀ {l : List α}, (∀ a ∈ l, R (f a) (g a)) → EachIs R (l.map f) (l.map g)
  | [], _ => .nil
  | a :: l, h => .cons (h a List.mem_cons_self) (each_map' f g fun b hb => h b (List.mem_cons_of_mem _ hb))
/-- in rising order, as Python's < says -/
abbrev Rising (ds : List PyData) : Prop := ds.Pairwise fun a b => PySem.W.dataLe false id a b = true
/-- sorted(a set of tuples) -/
def rSortT (K : PySem.W.Frag) (w : World) : List V → Hp → VK → Prop := fun vs H Q => ∃ (a : Addr) (L : List (Addr × PyData)), vs = [V.ref a] ∧ H a = some (TSetO w a L) ∧ (∀ p ∈ L, Good p.2 ∧ Dp K H (.ref p.1) p.2) ∧ PySem.W.AllAlike (L.map (·.2)) ∧
  ∀ (ys : List V) (ds : List PyData) (p : Addr), ds.Perm (L.map (·.2)) → ds.Nodup → ds.length < 64 → Rising ds → DpAll K H ys ds → H p = none → Q (.ref p) (upd H p (.lst ys))
theorem cr_sortT (hc : X.calm = true) (hu : X.A.units + 64 < cLine) : CallR X (.builtin "sorted") (rSortT X.K X.w) := by
  intro pins s σ H vs us Q I r h
  obtain ⟨a, L, rfl, ha, hL, hal, q⟩ := h
  obtain ⟨es, ep, t, R⟩ := tset_get I ha hL
  rw [Vals.ref1 r]
  obtain ⟨o, ho, hex, hd⟩ := R.ob
  have hvals : es.toList.map (·.2) = L.map fun p => Value.ref p.1 := by
    rw [R.en]
    unfold ents tk
    rw [List.map_map, List.map_map]
    rfl
  have few : L.length < 64 := by
    have := R.few
    unfold tk at this
    rw [List.length_map] at this
    exact this
  have e1 : PySem.W.EachIs (fun u d => ∃ x, RelV x u ∧ Dp X.K H x d) (es.toList.map (·.2)) (L.map (·.2)) := by
    rw [hvals]
    exact each_map' _ _ fun p hp => ⟨.ref p.1, rfl, (hL p hp).2⟩
  have e2 : PySem.W.EachIs (fun v d => ∃ as, Reads s.heap v (id d) as ∧ ∀ c ∈ as, c < s.heap.objs.size) (es.toList.map (·.2)) (L.map (·.2)) := by
    rw [hvals]
    refine each_map' _ _ fun p hp => ?_
    obtain ⟨as, rd⟩ := Dp.reads I p.2 (.ref p.1) (.ref p.1) (hL p hp).2 rfl
    refine ⟨as, rd, ?_⟩
    rw [(isK_of p.2 s.heap _ as (hL p hp).1.ok rd).2]
    exact fun c hc => nomatch hc
  have hm : ∀ d ∈ (L.map (·.2)).map id, Good d := fun d hd => by
    rw [List.map_id] at hd
    obtain ⟨p, hp, rfl⟩ := List.mem_map.mp hd
    exact (hL p hp).1
  refine sorted_coll (enc := id) (I.ok.hd hc) ⟨o, ho, hex.1, hd⟩ R.fits (by have := size_of_ents R.en; unfold tk at this; rw [List.length_map] at this; unfold scanBound; omega) R.tab.ris R.led e1 e2 (by rw [List.map_id]; exact hal) (.inl fun d hd => (hm d hd).tu) (fun d hd => ?_) fun s' p out c ds k g os hp hg ho' pm sr => ?_
  · have z := (hm d (by rw [List.map_id]; exact hd)).dp
    show X.A.units + 3 + d.depth < cLine
    omega
  · obtain ⟨ys, hv, hd'⟩ := each_vals ho'
    have hn : H p = none := I.hok.fresh hp
    have hl : ds.length = L.length := by rw [pm.length_eq, List.length_map]
    have hlen : ys.length ≤ sizeLine := by
      rw [dpAll_len hd', sizeLine_eq]
      omega
    have nd : ds.Nodup := by
      refine pm.nodup_iff.mpr ?_
      have z := R.nd
      unfold tk at z
      rw [List.map_map] at z
      have z' : (L.map fun p => toK p.2).Nodup := z
      have y : ((L.map (·.2)).map toK).Nodup := by
        rw [List.map_map]
        exact z'
      exact nodup_of_map y
    have J : Inv X pins σ (upd H p (.lst ys)) { s with heap := s'.heap, gens := s'.gens, drawn := s'.drawn, toks := s'.toks } :=
      I.call (ch := []) (Un.laid k hp hn) (I.hok.laid k hp ⟨hlen, out.toList, c, hv, hg⟩) (by rw [g]; exact I.bare) (fun _ z => nomatch z)
    have e : s' = { s with heap := s'.heap, gens := s'.gens, drawn := s'.drawn, toks := s'.toks } := by
      cases s'
      cases s
      cases os
      rfl
    rw [e]
    exact ⟨.ref p, _, J, rfl, q ys ds p pm nd (by omega) sr hd' hn⟩
/-- set(xs), xs a list or a tuple of texts -/
def rSetX (K : PySem.W.Frag) (P : Program) (w : World) : List V → Hp → VK → Prop := fun vs H Q => ∃ (l : Addr) (zs : List Str), vs = [V.ref l] ∧ (SqL K H l (zs.map V.str) ∨ SqT K H l (zs.map V.str)) ∧ zs.length < 1000 ∧
  ∀ a ms, H a = none → ms.Nodup → (∀ z, z ∈ ms ↔ z ∈ zs) → ms.length ≤ zs.length → Q (.ref a) (upd H a (XSetO P w a ms))
theorem vals_texts : ∀ {zs : List Str} {us : List Value}, Vals (zs.map V.str) us → PySem.W.EachIs (fun v z => ∃ u, v = Value.str z u) us zs
  | [], _, .nil => .nil
  | _ :: _, _, .cons r t => .cons r (vals_texts t)
theorem texts_vals {zs : List Str} {us : List Value} (h : PySem.W.EachIs (fun v z => ∃ u, v = Value.str z u) us zs) : Vals (zs.map V.str) us := by
  induction h with
  | nil => exact .nil
  | cons h _ ih => exact .cons h ih
theorem cr_setX (hc : X.calm = true) (hu : X.A.units + 64 < cLine) : CallR X (.type "set") (rSetX X.K X.prog X.w) := by
  intro pins s σ H vs us Q I r h
  obtain ⟨l, zs, rfl, hl, few, q⟩ := h
  rw [Vals.ref1 r]
  have hn : H s.heap.objs.size = none := I.hok.fresh (Nat.le_refl _)
  have fin : ∀ (n : Nat), n = zs.length → ∀ (h' : Heap) (tk' : Nat), (∃ ms es ep t, XSet X.prog X.w h' s.heap.objs.size ms es ep t ∧ (∀ z, z ∈ ms ↔ z ∈ zs.take n) ∧ ms.length ≤ n) → (∀ b o, s.heap.get? b = some o → h'.get? b = some o) → EP X pins σ Q (.ref s.heap.objs.size) { s with heap := h', toks := tk' } := by
    intro n en h' tk' ⟨ms, es, ep, t, R, g, hl⟩ k
    subst en
    have new : ObjOk X.prog X.w (upd H s.heap.objs.size (XSetO X.prog X.w s.heap.objs.size ms)) h' s.heap.objs.size (XSetO X.prog X.w s.heap.objs.size ms) :=
      ⟨⟨es, ep, t, R⟩, ⟨_, R.ob⟩, fun h1 h2 ⟨es', ep', t', R'⟩ kk => ⟨es', ep', t', R'.moved kk⟩⟩
    exact ⟨.ref s.heap.objs.size, _, I.laid (t' := tk') k (Nat.le_refl _) new, rfl, q _ ms hn R.nd (fun z => by rw [g z, List.take_length]) hl⟩
  have sb : scanBound = 4096 := rfl
  rcases hl with hl | hl
  · obtain ⟨its, rv, pl, hz⟩ := I.list hl
    have ev := vals_texts rv
    have T := fill_texts (P := X.prog) (w := X.w) s.heap.objs.size s.heap zs ev (by omega)
    exact call_fill_list (I.ok.hd hc) pl.isList (by rw [show its.toArray.toList = its by simp]; exact T) (by omega) fun h' tk' G k => fin its.toArray.size (by rw [List.size_toArray]; exact ev.length) h' tk' G k
  · obtain ⟨its, rv, pl, hz⟩ := I.tuple hl
    have ev := vals_texts rv
    have T := fill_texts (P := X.prog) (w := X.w) s.heap.objs.size s.heap zs ev (by omega)
    obtain ⟨o, e1, e2, n, e3⟩ := pl
    exact call_fill_tuple (I.ok.hd hc) ⟨o, e1, e2, n, e3⟩ (by rw [show its.toArray.toList = its by simp]; exact T) (by omega) fun h' tk' G k => fin its.toArray.size (by rw [List.size_toArray]; exact ev.length) h' tk' G k
abbrev RisingX (zs : List Str) : Prop := zs.Pairwise fun a b => decide (a.cps.toList ≤ b.cps.toList) = true
open PySem.W in
theorem each_iff {es : List (Int × Value)} : ∀ {ms : List Str}, (∀ e ∈ es, ∃ k u, e.2 = Value.str k u) → ∃ zs, EachIs (fun v z => ∃ u, v = Value.str z u) (es.map (·.2)) zs := by
  induction es with
  | nil => exact fun _ => ⟨[], .nil⟩
  | cons e es ih =>
    intro ms h
    obtain ⟨k, u, ek⟩ := h e List.mem_cons_self
    obtain ⟨zs, hz⟩ := ih (ms := ms) fun e' he => h e' (List.mem_cons_of_mem _ he)
    exact ⟨k :: zs, .cons ⟨u, ek⟩ hz⟩
/-- sorted(a set of texts) -/
def rSortX (P : Program) (w : World) : List V → Hp → VK → Prop := fun vs H Q => ∃ (a : Addr) (ms : List Str), vs = [V.ref a] ∧ H a = some (XSetO P w a ms) ∧ ms.length < 1000 ∧
  ∀ (zs : List Str) (p : Addr), (∀ z, z ∈ zs ↔ z ∈ ms) → zs.Nodup → zs.length ≤ ms.length → RisingX zs → H p = none → Q (.ref p) (upd H p (.lst (zs.map V.str)))
theorem nodup_len_le : ∀ {l m : List Str}, l.Nodup → (∀ z ∈ l, z ∈ m) → l.length ≤ m.length
  | [], _, _, _ => Nat.zero_le _
  | x :: l, m, hn, hs => by
    obtain ⟨h1, h2⟩ := List.nodup_cons.mp hn
    have hx : x ∈ m := hs x List.mem_cons_self
    have ih := nodup_len_le (l := l) (m := m.erase x) h2 fun y hy => (List.mem_erase_of_ne (show y ≠ x from fun e => h1 (by rw [← e]; exact hy))).2 (hs y (List.mem_cons_of_mem _ hy))
    rw [List.length_erase_of_mem hx] at ih
    have := List.length_pos_of_mem hx
    rw [List.length_cons]
    omega
theorem nodup_of_len : ∀ {l m : List Str}, m.Nodup → (∀ z ∈ m, z ∈ l) → l.length ≤ m.length → l.Nodup
  | [], _, _, _, _ => List.nodup_nil
  | x :: l, m, hm, hs, hl => by
    have hxl : x ∉ l := fun hx => by
      have z := nodup_len_le (l := m) (m := l) hm fun z hz => (List.mem_cons.mp (hs z hz)).elim (fun e => by rw [e]; exact hx) id
      rw [List.length_cons] at hl
      omega
    refine List.nodup_cons.mpr ⟨hxl, nodup_of_len (m := m.erase x) (hm.erase x) (fun z hz => ?_) ?_⟩
    · have hz' := List.mem_of_mem_erase hz
      rcases List.mem_cons.mp (hs z hz') with e | h
      · rw [e] at hz
        exact absurd hz (List.Nodup.not_mem_erase hm)
      · exact h
    · by_cases hx : x ∈ m
      · rw [List.length_erase_of_mem hx]
        rw [List.length_cons] at hl
        omega
      · rw [List.erase_of_not_mem hx]
        rw [List.length_cons] at hl
        omega
theorem cr_sortX (hc : X.calm = true) (hu : X.A.units + 64 < cLine) : CallR X (.builtin "sorted") (rSortX X.prog X.w) := by
  intro pins s σ H vs us Q I r h
  obtain ⟨a, ms, rfl, ha, hlt, q⟩ := h
  obtain ⟨es, ep, t, R⟩ := (I.hok a _ ha).1
  rw [Vals.ref1 r]
  have hel := R.ok.el
  have hsz : es.size = ms.length := R.ok.sz
  obtain ⟨zs, hz⟩ := each_iff (es := es.toList) (ms := ms) fun e he => by
    obtain ⟨⟨k, hk, _⟩, _⟩ := hel e he
    obtain ⟨u, hu⟩ := Value.isStrOf_shape (x := k) (v := e.2) hk
    exact ⟨k, u, hu⟩
  have e1 : PySem.W.EachIs (fun u z => RelV (.str z) u) (es.toList.map (·.2)) zs := hz
  have e2 : PySem.W.EachIs (fun v z => ∃ as, Reads s.heap v (PyData.str z) as ∧ ∀ c ∈ as, c < s.heap.objs.size) (es.toList.map (·.2)) zs := hz.mono fun v z ⟨u, e⟩ => ⟨[], by rw [e]; exact .str z u, fun c hc => nomatch hc⟩
  have mem : ∀ z, z ∈ zs ↔ z ∈ ms := fun z => by
    rw [R.ok.mem z]
    constructor
    · intro hm
      obtain ⟨i, hi, ei⟩ := List.getElem_of_mem hm
      have hi2 : i < (es.toList.map (·.2)).length := by rw [hz.length]; exact hi
      have pz : ((es.toList.map (·.2))[i], zs[i]) ∈ (es.toList.map (·.2)).zip zs := List.mem_of_getElem? (i := i) (by rw [List.getElem?_zip_eq_some]; exact ⟨List.getElem?_eq_getElem hi2, List.getElem?_eq_getElem hi⟩)
      obtain ⟨u, hu⟩ := hz.zip _ pz
      have hin := List.getElem_mem hi2
      rw [show (es.toList.map (·.2))[i] = Value.str zs[i] u from hu, ei] at hin
      obtain ⟨e, he, ee⟩ := List.mem_map.mp hin
      exact ⟨e, he, by rw [ee]; exact is_str z u⟩
    · rintro ⟨e, he, hk⟩
      obtain ⟨z', hz', u, hu⟩ := hz.left e.2 (List.mem_map.mpr ⟨e, he, rfl⟩)
      rw [hu] at hk
      have : z = z' := (strKind X.prog X.w).inj (.str z' u) z z' hk (is_str z' u)
      rw [this]
      exact hz'
  have zl : zs.length = ms.length := by rw [← hz.length, List.length_map, Array.length_toList, hsz]
  refine sorted_coll (enc := fun z : Str => PyData.str z) (I.ok.hd hc) ⟨_, R.ob, rfl, rfl⟩ R.ok.fit (by show es.size < scanBound; unfold scanBound; omega) R.ris R.led e1 e2 (PySem.W.AllAlike.of fun b b' => by simp [PySem.W.alike]) (.inr (PySem.W.Sortable.others fun b => ⟨(fun z => nomatch z), (fun xs z => nomatch z)⟩)) (fun d hd => ?_) fun s' p out c zs' k g os hp hg ho' pm sr => ?_
  · show X.A.units + 3 + (PyData.str d).depth < cLine
    simp only [PyData.depth]
    omega
  · have hn : H p = none := I.hok.fresh hp
    have hv : Vals (zs'.map V.str) out.toList := texts_vals ho'
    have hl : zs'.length = ms.length := by rw [pm.length_eq, zl]
    have hlen : (zs'.map V.str).length ≤ sizeLine := by
      rw [List.length_map, sizeLine_eq]
      omega
    have J : Inv X pins σ (upd H p (.lst (zs'.map V.str))) { s with heap := s'.heap, gens := s'.gens, drawn := s'.drawn, toks := s'.toks } :=
      I.call (ch := []) (Un.laid k hp hn) (I.hok.laid k hp ⟨hlen, out.toList, c, hv, hg⟩) (by rw [g]; exact I.bare) (fun _ z => nomatch z)
    have e : s' = { s with heap := s'.heap, gens := s'.gens, drawn := s'.drawn, toks := s'.toks } := by
      cases s'
      cases s
      cases os
      rfl
    rw [e]
    rw [PySem.W.dataLe_str fun z : Str => z] at sr
    have mem' : ∀ z, z ∈ zs' ↔ z ∈ ms := fun z => by rw [pm.mem_iff]; exact mem z
    exact ⟨.ref p, _, J, rfl, q zs' p mem' (nodup_of_len R.nd (fun z hz => (mem' z).mpr hz) (Nat.le_of_eq hl)) (Nat.le_of_eq hl) sr hn⟩
/-- sorted(a list of tuples) -/
def rSortL (K : PySem.W.Frag) : List V → Hp → VK → Prop := fun vs H Q => ∃ (a : Addr) (xs : List V) (ds : List PyData), vs = [V.ref a] ∧ SqL K H a xs ∧ DpAll K H xs ds ∧ (∀ d ∈ ds, Good d) ∧ PySem.W.AllAlike ds ∧
  ∀ (ys : List V) (es : List PyData) (p : Addr), es.Perm ds → Rising es → DpAll K H ys es → H p = none → Q (.ref p) (upd H p (.lst ys))
theorem cr_sortL (hu : X.A.units + 64 < cLine) : CallR X (.builtin "sorted") (rSortL X.K) := by
  intro pins s σ H vs us Q I r h
  obtain ⟨a, xs, ds, rfl, ha, hd, hg, hal, q⟩ := h
  rw [Vals.ref1 r]
  obtain ⟨its, rv, pl, hz⟩ := I.list ha
  have both : ∀ {xs : List V} {ds : List PyData} {its : List Value}, Vals xs its → DpAll X.K H xs ds → (∀ d ∈ ds, Good d) → PySem.W.EachIs (fun u d => (∃ x, RelV x u ∧ Dp X.K H x d) ∧ ∃ as, Reads s.heap u (id d) as) its ds := by
    intro xs ds its rv
    induction rv generalizing ds with
    | nil =>
      intro hd _
      cases hd
      exact .nil
    | cons r _ ih =>
      intro hd hg
      cases hd with
      | cons h1 h2 => exact .cons ⟨⟨_, r, h1⟩, Dp.reads I _ _ _ h1 r⟩ (ih h2 fun d hd => hg d (List.mem_cons_of_mem _ hd))
  have e0 := both rv hd hg
  have il : its.length = ds.length := e0.length
  have sl := sizeLine_eq
  have xl := rv.length
  have er' : PySem.W.EachIs (fun v d => ∃ as, Reads (PySem.W.sortingHeap (PySem.W.copyHeap s.heap its) (s.heap.objs.size + 1) its) v (id d) as) its ds := e0.mono fun _ _ z => by
    obtain ⟨_, as, rd⟩ := z
    exact ⟨as, PyProof.Rows.Reads.keeps (fun _ _ => PySem.W.sorting_copy_old) rd⟩
  have can : PySem.W.SortsAt X.prog X.w X.A.in1.in1 { s with heap := PySem.W.sortingHeap (PySem.W.copyHeap s.heap its) (s.heap.objs.size + 1) its } (PySem.W.dataKind (PySem.W.sortingHeap (PySem.W.copyHeap s.heap its) (s.heap.objs.size + 1) its) ds) its :=
    SortsAt.tups (s := { s with heap := PySem.W.sortingHeap (PySem.W.copyHeap s.heap its) (s.heap.objs.size + 1) its }) er' hal (fun d hd => (hg d hd).tu) fun d hd => by
      have z := (hg d hd).dp
      simp only [Around.in1_units]
      omega
  refine PySem.W.sorted_vals pl.isList can (by omega) ?_
  have eo : PySem.W.EachIs (fun u d => ∃ x, RelV x u ∧ Dp X.K H x d) (PySem.W.sortVals (PySem.W.dataKind (PySem.W.sortingHeap (PySem.W.copyHeap s.heap its) (s.heap.objs.size + 1) its) ds) false its its) (ds.mergeSort (PySem.W.dataLe false id)) := by
    have z := PySem.W.sortVals_data (h' := PySem.W.sortingHeap (PySem.W.copyHeap s.heap its) (s.heap.objs.size + 1) its) (enc := id) false (e0.mono fun _ _ z => z.1) er' (by rw [List.map_id]; exact hal)
    rw [List.map_id] at z
    exact z
  obtain ⟨ys, hv, hd'⟩ := each_vals eo
  have sf := sort_facts id ds
  generalize hout : PySem.W.sortVals (PySem.W.dataKind (PySem.W.sortingHeap (PySem.W.copyHeap s.heap its) (s.heap.objs.size + 1) its) ds) false its its = out at eo hv
  have hn : H (s.heap.objs.size + 1) = none := I.hok.fresh (Nat.le_succ _)
  obtain ⟨c, hcc⟩ := sortedAll_at s.heap its out.toArray
  have hlen : ys.length ≤ sizeLine := by
    rw [dpAll_len hd', sf.1.length_eq]
    omega
  exact ⟨.ref (s.heap.objs.size + 1), upd H (s.heap.objs.size + 1) (.lst ys), I.laid (t' := s.toks) (fun b o e => sortedAll_old e) (Nat.le_succ _) ⟨hlen, out, c, hv, hcc⟩, rfl, q ys _ _ sf.1 sf.2 hd' hn⟩
end
end Rw
namespace Rw
open PySem PySem.Spec PyProof.Rows L2
/-! ### dicts whose keys are tuples of texts and of such tuples -/
abbrev Ent := PyData × Addr × V
def RelE (p : Ent) (q : NK × Addr × Value) : Prop := toK p.1 = q.1 ∧ p.2.1 = q.2.1 ∧ RelV p.2.2 q.2.2
def NDO (P : Program) (w : World) (d : Addr) (kvs : List Ent) : HO := .ext fun h => kvs.length ≤ 100000 ∧ (d == sysModules) = false ∧ ∃ xs : List (NK × Addr × Value), Paired RelE kvs xs ∧
  ∃ o es ep, h.get? d = some o ∧ o.ExactDict ∧ o.data = .dict es ep ∧ es.toList = xs.map (entryOfKey (nestedKind P w)) ∧ (xs.map (·.1)).Nodup
/-- the entries' keys stand -/
abbrev KeysOk (K : PySem.W.Frag) (H : Hp) (kvs : List Ent) : Prop := ∀ p ∈ kvs, Good p.1 ∧ Dp K H (.ref p.2.1) p.1
theorem KeysOk.stay {K : PySem.W.Frag} {H H' : Hp} {kvs : List Ent} (h : KeysOk K H kvs) (e : Stay H H') : KeysOk K H' kvs := fun p hp => ⟨(h p hp).1, e.dp _ _ (h p hp).1.ok (h p hp).2⟩
theorem paired_mem {α β : Type} {F : α → β → Prop} : ∀ {l : List α} {m : List β}, Paired F l m → ∀ y ∈ m, ∃ x ∈ l, F x y
  | _, _, .nil, y, h => nomatch h
  | _, _, .cons r t, y, h => by
    rcases List.mem_cons.mp h with e | h
    · subst e
      exact ⟨_, List.mem_cons_self, r⟩
    · obtain ⟨x, hx, hr⟩ := paired_mem t y h
      exact ⟨x, List.mem_cons_of_mem _ hx, hr⟩
theorem paired_snoc {α β : Type} {F : α → β → Prop} {x : α} {y : β} (r : F x y) : ∀ {l : List α} {m : List β}, Paired F l m → Paired F (l ++ [x]) (m ++ [y])
  | _, _, .nil => .cons r .nil
  | _, _, .cons q t => .cons q (paired_snoc r t)
/-- what a look-up finds -/
theorem nd_look {kvs : List Ent} {xs : List (NK × Addr × Value)} (p : Paired RelE kvs xs) (hk : ∀ p ∈ kvs, Good p.1) {k : PyData} (g : Good k) :
    (∀ q, atKey xs (toK k) = some q → ∃ z ∈ kvs, z.1 = k ∧ RelV z.2.2 q.2) ∧ (atKey xs (toK k) = none → ∀ z ∈ kvs, z.1 ≠ k) := by
  induction p with
  | nil => exact ⟨fun q h => by simp [atKey] at h, fun _ z hz => nomatch hz⟩
  | @cons a b as bs r t ih =>
    obtain ⟨r1, r2, r3⟩ := r
    obtain ⟨i1, i2⟩ := ih fun p hp => hk p (List.mem_cons_of_mem _ hp)
    by_cases e : b.1 = toK k
    · have ek : a.1 = k := toK_inj (hk a List.mem_cons_self).ok g.ok (r1.trans e)
      have ea : atKey (b :: bs) (toK k) = some b.2 := by simp [atKey, e]
      refine ⟨fun q h => ?_, fun h => ?_⟩
      · rw [ea] at h
        cases h
        exact ⟨a, List.mem_cons_self, ek, r3⟩
      · rw [ea] at h
        cases h
    · have ea : atKey (b :: bs) (toK k) = atKey bs (toK k) := by simp [atKey, e]
      have ne : a.1 ≠ k := fun z => e (by rw [← r1, z])
      refine ⟨fun q h => ?_, fun h z hz => ?_⟩
      · rw [ea] at h
        obtain ⟨z, hz, h1⟩ := i1 q h
        exact ⟨z, List.mem_cons_of_mem _ hz, h1⟩
      · rw [ea] at h
        rcases List.mem_cons.mp hz with e' | hz
        · rw [e']
          exact ne
        · exact i2 h z hz
section
variable {X : Cx} {pins : List (Addr × Obj)} {σ : L2.St} {H : Hp} {s : Shared} {d : Addr} {kvs : List Ent} {E : Value → Shared → Prop}
theorem nd_get (I : Inv X pins σ H s) (hd : H d = some (NDO X.prog X.w d kvs)) (hk : KeysOk X.K H kvs) : kvs.length ≤ 100000 ∧ (d == sysModules) = false ∧ ∃ xs, Paired RelE kvs xs ∧ s.heap.DictOfH (nestedKind X.prog X.w) d xs := by
  obtain ⟨hz, hs, xs, p, o, es, ep, h1, h2, h3, h4, h5⟩ := (I.hok d _ hd).1
  refine ⟨hz, hs, xs, p, o, es, ep, h1, h2, h3, h4, fun x hx => ?_, h5⟩
  obtain ⟨q, hq, r1, r2, _⟩ := paired_mem p x hx
  have := key_at I (hk q hq).2 (hk q hq).1
  rw [r1, r2] at this
  exact this
theorem nd_new {kvs : List Ent} {xs : List (NK × Addr × Value)} {h' : Heap} {H' : Hp} (hz : kvs.length ≤ 100000) (hs : (d == sysModules) = false) (p : Paired RelE kvs xs) (m : h'.DictOfH (nestedKind X.prog X.w) d xs) : ObjOk X.prog X.w H' h' d (NDO X.prog X.w d kvs) := by
  obtain ⟨o, es, ep, h1, h2, h3, h4, _, h5⟩ := m
  refine ⟨⟨hz, hs, xs, p, o, es, ep, h1, h2, h3, h4, h5⟩, ⟨o, h1⟩, fun a b ⟨z1, z2, xs', p', o', es', ep', k1, k2⟩ kk => ⟨z1, z2, xs', p', o', es', ep', kk o' k1, k2⟩⟩
/-- k in d, k not in d -/
def rInN (K : PySem.W.Frag) (P : Program) (w : World) (neg : Bool) : R2 := fun x y H Q => ∃ (a d : Addr) (kvs : List Ent) (k : PyData), x = .ref a ∧ y = .ref d ∧ H d = some (NDO P w d kvs) ∧ KeysOk K H kvs ∧ Good k ∧ Dp K H (.ref a) k ∧
  ∀ b : Bool, (b = true ↔ k ∈ kvs.map (·.1)) → Q (.bl (if neg then !b else b)) H
theorem nd_isSome {xs : List (NK × Addr × Value)} (p : Paired RelE kvs xs) (hk : ∀ p ∈ kvs, Good p.1) {k : PyData} (g : Good k) : (atKey xs (toK k)).isSome = true ↔ k ∈ kvs.map (·.1) := by
  obtain ⟨l1, l2⟩ := nd_look p hk g
  cases e : atKey xs (toK k) with
  | none => exact ⟨(fun h => nomatch h), fun h => by
      obtain ⟨z, hz, ez⟩ := List.mem_map.mp h
      exact absurd ez (l2 e z hz)⟩
  | some q => exact ⟨fun _ => by
      obtain ⟨z, hz, h1, _⟩ := l1 q e
      exact List.mem_map.mpr ⟨z, hz, h1⟩, fun _ => rfl⟩
theorem op_inN (hu : X.A.units + 64 < cLine) : OpR X (compareOp .In) (rInN X.K X.prog X.w false) := by
  intro pins s σ H x y v u Q I rx ry h
  obtain ⟨a, d, kvs, k, rfl, rfl, hd, hk, g, da, q⟩ := h
  cases rx
  cases ry
  obtain ⟨hz, hs, xs, p, m⟩ := nd_get I hd hk
  refine wpAny_in_heap (knd := nestedKind X.prog X.w) (by show X.A.units + 1 + 8 < cLine; omega) (key_at I da g) hs m ?_
  exact ⟨.bl _, H, I.tok _, rfl, q _ (nd_isSome p (fun z hz => (hk z hz).1) g)⟩
theorem op_notInN (hu : X.A.units + 64 < cLine) : OpR X (compareOp .NotIn) (rInN X.K X.prog X.w true) := by
  intro pins s σ H x y v u Q I rx ry h
  obtain ⟨a, d, kvs, k, rfl, rfl, hd, hk, g, da, q⟩ := h
  cases rx
  cases ry
  obtain ⟨hz, hs, xs, p, m⟩ := nd_get I hd hk
  refine wpAny_notIn_heap (knd := nestedKind X.prog X.w) (by show X.A.units + 1 + 8 < cLine; omega) (key_at I da g) hs m ?_
  exact ⟨.bl _, H, I.tok _, rfl, q _ (nd_isSome p (fun z hz => (hk z hz).1) g)⟩
/-- d[k], k is there -/
def rGetN (K : PySem.W.Frag) (P : Program) (w : World) : R2 := fun x y H Q => ∃ (a d : Addr) (kvs : List Ent) (k : PyData), x = .ref d ∧ y = .ref a ∧ H d = some (NDO P w d kvs) ∧ KeysOk K H kvs ∧ Good k ∧ Dp K H (.ref a) k ∧ k ∈ kvs.map (·.1) ∧
  ∀ z ∈ kvs, z.1 = k → Q z.2.2 H
theorem pe_getN {o i : Expr} {td ty : TE} {pos : Pos} (hu : X.A.units + 64 < cLine) (hr : PE X o td) (hi : PE X i ty) (hs : NoSl i) : PE X (.Subscript o i pos) (tOp (rGetN X.K X.prog X.w) td ty) := by
  refine ⟨fun pins s σ H Q I h => ?_⟩
  refine subD_of PySem.F.slot_dict_getitem.lookup hs (thn (hr.run pins s σ H _ I h) fun v s1 ⟨x, H1, I1, r1, q1⟩ => thn (hi.run pins s1 σ H1 _ I1 q1) fun u s2 ⟨y, H2, I2, r2, a, d, kvs, k, ex, ey, hd, hk, g, da, hm, q⟩ => ?_)
  subst ex ey
  cases r1
  cases r2
  obtain ⟨hz, hs', xs, p, m⟩ := nd_get I2 hd hk
  obtain ⟨l1, l2⟩ := nd_look p (fun z hz => (hk z hz).1) g
  refine ⟨m.typeIs, ?_⟩
  cases e : atKey xs (toK k) with
  | none =>
    obtain ⟨z, hz, ez⟩ := List.mem_map.mp hm
    exact absurd ez (l2 e z hz)
  | some pv =>
    obtain ⟨z, hz, ez, rz⟩ := l1 pv e
    exact wpAny_getItem_heap (knd := nestedKind X.prog X.w) (by show X.A.units + 1 + 8 < cLine; omega) (key_at I2 da g) m e ⟨z.2.2, H2, I2.tok _, rz, q z hz ez⟩
/-- {} -/
theorem pe_dnewN {pos : Pos} : PE X (.Dict [] [] pos) (fun _ H Q => ∀ p, H p = none → Q (.ref p) (upd H p (NDO X.prog X.w p []))) := ⟨fun pins s σ H Q I h =>
  wpAny_Dict_empty ⟨.ref s.heap.objs.size, _, I.laid (a := s.heap.objs.size) (o := NDO X.prog X.w s.heap.objs.size []) (t' := s.toks) (fun _ _ q => Heap.get?_push_of_some _ q) (Nat.le_refl _)
    (nd_new (X := X) (Nat.zero_le _) (by have := I.big; exact beq_eq_false_iff_ne.mpr (Nat.ne_of_gt this)) .nil (Heap.DictOfH.new _)), rfl, h _ (I.hok.fresh (Nat.le_refl _))⟩⟩
/-- an entry more -/
theorem nd_put {a : Addr} {k : PyData} {x : V} {u : Value} {A : Around} {Q : Unit → Shared → Prop} (hu : A.units + 8 < cLine) (I : Inv X pins σ H s) (hd : H d = some (NDO X.prog X.w d kvs)) (hk : KeysOk X.K H kvs) (g : Good k) (da : Dp X.K H (.ref a) k) (new : k ∉ kvs.map (·.1)) (few : kvs.length < 100000) (r : RelV x u)
    (h : ∀ s', Inv X pins σ (upd H d (NDO X.prog X.w d (kvs ++ [(k, a, x)]))) s' → (∀ b o, b ≠ d → s.heap.get? b = some o → s'.heap.get? b = some o) → Q () s') : wpAny (model X.prog X.w) A (dictSet d (.ref a) u) Q E s := by
  obtain ⟨hz, hs, xs, p, m⟩ := nd_get I hd hk
  have xl : xs.length = kvs.length := (Paired.length p).symm
  have none_ : atKey xs (toK k) = none := by
    cases e : atKey xs (toK k) with
    | none => rfl
    | some q => exact absurd ((nd_isSome p (fun z hz => (hk z hz).1) g).mp (by rw [e]; rfl)) new
  refine wpAny_dictSet_heap (knd := nestedKind X.prog X.w) (hsz := by rw [sizeLine_eq]; omega) hu (key_at I da g) m fun h' m' sb => ?_
  rw [storedH_new none_] at m'
  have ex : ∃ q, h'.get? d = some q := let ⟨q, _, _, hq, _⟩ := m'; ⟨q, hq⟩
  refine h _ (d_write (t' := _) I (by rw [hd]; exact True.intro) sb ex (nd_new (by rw [List.length_append, List.length_singleton]; omega) hs (paired_snoc ⟨rfl, rfl, r⟩ p) m')) fun b o hb e => (sb.2 b hb).trans e
/-- d.setdefault(k, x) -/
def tSetdN (K : PySem.W.Frag) (P : Program) (w : World) (td ty tx : TE) : TE := fun σ H Q => td σ H fun x H1 => ∃ d kvs0, x = .ref d ∧ H1 d = some (NDO P w d kvs0) ∧ ty σ H1 fun y H2 => tx σ H2 fun z H3 => ∃ (a : Addr) (kvs : List Ent) (k : PyData), y = .ref a ∧ H3 d = some (NDO P w d kvs) ∧ KeysOk K H3 kvs ∧
  Good k ∧ Dp K H3 (.ref a) k ∧ kvs.length < 100000 ∧ (∀ e ∈ kvs, e.1 = k → Q e.2.2 H3) ∧ (k ∉ kvs.map (·.1) → Q z (upd H3 d (NDO P w d (kvs ++ [(k, a, z)]))))
theorem pe_setdN {o e f : Expr} {td ty tx : TE} {apos cpos : Pos} (hu : X.A.units + 64 < cLine) (ho : PE X o td) (he : PE X e ty) (hf : PE X f tx) (m : M2 X o "setdefault" apos e f cpos) : PE X (.Call (.Attribute o "setdefault" apos) [e, f] [] cpos) (tSetdN X.K X.prog X.w td ty tx) := by
  refine ⟨fun pins s σ H Q I h => ?_⟩
  refine wpAny_Call_method m.base m.few m.line PySem.F.plainAttrs_dict PySem.F.slot_dict_setdefault PySem.F.type_dict_setdefault (thn (ho.run pins s σ H _ I h) fun u s1 ⟨x, H1, I1, rx, d, kvs0, ex, d0, q1⟩ => ?_)
  subst ex
  obtain rfl : u = Value.ref d := rx
  have ty0 : ∃ o, s1.heap.get? d = some o ∧ o.cls = .type "dict" ∧ o.dict = none := by
    obtain ⟨_, _, xs, _, o, es, ep, h1, h2, _⟩ := (I1.hok d _ d0).1
    exact ⟨o, h1, h2.1, h2.2.1⟩
  obtain ⟨ob, ho1, ho2, ho3⟩ := ty0
  refine ⟨⟨ob, ho1, ho2⟩, fun b eb => ?_, ?_⟩
  · cases eb
    exact ⟨ob, ho1, ho3⟩
  rw [m.trees]
  refine Calls.callWith_builtin rfl (Calls.evalArgs_plain (Calls.spliced_cons (thn (he.run pins s1 σ H1 _ I1 q1) fun iv s2 ⟨y, H2, I2, ry, q2⟩ =>
    Calls.spliced_cons (thn (hf.run pins s2 σ H2 _ I2 q2) fun fv s3 ⟨z, H3, I3, rz, a, kvs, k, ey, hd, hk, g, da, few, q3, q4⟩ => Calls.spliced_nil ?_))))
  subst ey
  obtain rfl : iv = Value.ref a := ry
  obtain ⟨hz, hs, xs, p, mm⟩ := nd_get I3 hd hk
  have xl : xs.length = kvs.length := (Paired.length p).symm
  obtain ⟨l1, l2⟩ := nd_look p (fun z hz => (hk z hz).1) g
  refine call_setdefault_heap (knd := nestedKind X.prog X.w) (hsz := by rw [sizeLine_eq]; omega) (by show X.A.units + 1 + 8 < cLine; omega) (key_at I3 da g) hs mm (fun pv hp => ?_) fun hn h' m' sb => ?_
  · obtain ⟨z', hz', ez, rz'⟩ := l1 pv hp
    exact ⟨z'.2.2, H3, I3.tok _, rz', q3 z' hz' ez⟩
  · rw [storedH_new hn] at m'
    have ex : ∃ q, h'.get? d = some q := let ⟨q, _, _, hq, _⟩ := m'; ⟨q, hq⟩
    refine ⟨z, _, d_write (t' := _) I3 (by rw [hd]; exact True.intro) sb ex (nd_new (by rw [List.length_append, List.length_singleton]; omega) hs (paired_snoc ⟨rfl, rfl, rz⟩ p) m'), rz, q4 fun hm => ?_⟩
    obtain ⟨z', hz', ez⟩ := List.mem_map.mp hm
    exact l2 hn z' hz' ez
end
end Rw
namespace Rw
open PySem PySem.Spec PyProof.Rows L2
/-! ### y = {x: True for x in xs}, xs a list of tuples, no two alike -/
theorem idx_new {ds : List PyData} (hn : ds.Nodup) {i : Nat} {d : PyData} (h : ds[i]? = some d) : d ∉ ds.take i := fun hm => by
  have z := take_snoc h
  have nd : (ds.take (i + 1)).Nodup := List.Nodup.sublist (List.take_sublist _ _) hn
  rw [z] at nd
  obtain ⟨_, _, h3⟩ := List.nodup_append.mp nd
  exact h3 d hm d (List.mem_singleton.mpr rfl) rfl
theorem vals_at : ∀ {xs : List V} {us : List Value} {i : Nat} {u : Value}, Vals xs us → us[i]? = some u → ∃ x, xs[i]? = some x ∧ RelV x u
  | _, _, _, _, .nil, e => by simp at e
  | _, _, 0, _, .cons r _, e => by
    simp at e
    subst e
    exact ⟨_, rfl, r⟩
  | _, _, i + 1, _, .cons _ t, e => by
    obtain ⟨x, h1, h2⟩ := vals_at (i := i) t (by simpa using e)
    exact ⟨x, by simpa using h1, h2⟩
section
variable {X : Cx}
def tSetD (K : PySem.W.Frag) (P : Program) (w : World) (ti : TE) : TE := fun σ H Q => ti σ H fun v H1 => ∃ (l : Addr) (xs : List V) (ds : List PyData), v = .ref l ∧ SqL K H1 l xs ∧ DpAll K H1 xs ds ∧ (∀ d ∈ ds, Good d) ∧ ds.Nodup ∧ ds.length ≤ 1000 ∧
  ∀ D kvs, H1 D = none → kvs.map (·.1) = ds → KeysOk K H1 kvs → Q (.ref D) (upd H1 D (NDO P w D kvs))
theorem ps_setDictTrue {i : Nat} {y x : Str} {py p1 p2 p3 pos spos : Pos} {kk : Nat} {iter : Expr} {scope : Scope} {own : List (Str × Nat)} {ti : TE} (hc : X.calm = true) (hu : X.A.units + 64 < cLine) (hN : X.N.Nodup) (hy : X.N[i]? = some y) (hyl : X.env.scope.names.lookup y = some .local)
    (hsw : swapsWith (.DictComp (.Name x p1) (.Constant (.bool true) kk p2) [⟨.Name x p3, iter, [], 0⟩] scope pos) (some (.Name y py)) spos.line X.env = pure true) (hi : PE X iter ti) (ok : BlkOk X.N X.env.scope scope own)
    (hx : scope.names.lookup x = some .local) (hdeb : (x == ("__debug__" : Str)) = false) (hcell : ∀ z ∈ scope.names, z.2 ≠ .cell) (hs : ∀ x, foldedSetIterable iter X.env x = pure x := by intro _; rfl) :
    PS X (.Assign [.Name y py] (.DictComp (.Name x p1) (.Constant (.bool true) kk p2) [⟨.Name x p3, iter, [], 0⟩] scope pos) spos) (tAsg (tSetD X.K X.prog X.w ti) (gName i)) := by
  refine ⟨fun pins s σ H D I h => ?_⟩
  have h : tSetD X.K X.prog X.w ti σ H (fun x H1 => gName i x σ H1 D.nx) := h
  have hfree : ∀ y ∈ scope.names, y.2 = .free → ∃ c, X.env.cells.lookup y.1 = some c := fun y hy e => by
    rcases ok.free y hy e with k | k
    · exact I.ok.has _ (.inl k)
    · exact I.ok.has _ (.inr k)
  rw [exec_Assign_Name_used _ _ _ _ hsw]
  refine wpAny_bind (wpAny_standAt (wpAny_bind ?_))
  show wpAny _ X.A (do let _ ← comprehension (.DictComp (.Name x p1) (.Constant (.bool true) kk p2) [⟨.Name x p3, iter, [], 0⟩] scope pos) scope X.env _ newDict false (eval iter X.env) (some (assign (.Name y py) X.env))) _ _ s
  have main : wpAny (model X.prog X.w) X.A (eval iter X.env) (fun xv s₁ => wpAny (model X.prog X.w) X.A (pyIter xv)
      (DcGoes X.prog X.w X.A X.xe X.env scope (cloFrom X.env.cells scope.names []) (.Name x p3) [] (.Name x p1) (.Constant (.bool true) kk p2) (some (assign (.Name y py) X.env)) (fun _ s' => SP X pins D .next s')) X.xe s₁) X.xe s := by
    refine thn (hi.run pins s σ H _ I h) fun xv s1 ⟨v, H1, I1, rv, l, xs, ds, ev, hl, hd, hg, hnd, hlen, q⟩ => ?_
    subst ev
    obtain rfl : xv = Value.ref l := rv
    obtain ⟨its, rvs, pl, _⟩ := I1.list hl
    have hl0 : s1.heap.IsList l its.toArray := pl.isList
    have hlt : (l : Nat) < s1.heap.objs.size := by
      obtain ⟨o, ho, _⟩ := hl0
      exact Heap.lt_size ho
    have il : its.length = ds.length := by rw [← rvs.length, dpAll_len hd]
    refine wpAny_pyIter_list hl0 ?_
    refine ⟨s1.heap.objs.size, [s1.heap.objs.size, l], [s1.heap.objs.size], its.toArray.size, _, _, rfl, Goes.list (I1.ok.hd hc) s1.heap.objs.size l (Nat.ne_of_lt hlt) its.toArray, ⟨⟨_, Heap.get?_push_size _ rfl, rfl, rfl⟩, hl0.push _⟩, ?_⟩
    intro D0 C s3 hB hDobj
    obtain ⟨⟨h3, tk3, rfl⟩, old, nD, nC, hDC, hnm⟩ := hB
    have szp : (s1.heap.push { cls := .type "list_iterator", data := .fields #[.ref l, .int 0 0] }).objs.size = s1.heap.objs.size + 1 := Heap.size_push ..
    have nD' : s1.heap.objs.size + 1 ≤ D0 := by
      have q := nD
      rw [szp] at q
      exact q
    have nC' : s1.heap.objs.size + 1 ≤ C := by
      have q := nC
      rw [szp] at q
      exact q
    have sD : s1.heap.objs.size ≤ D0 := Nat.le_trans (Nat.le_succ _) nD'
    have sC : s1.heap.objs.size ≤ C := Nat.le_trans (Nat.le_succ _) nC'
    have neDI : s1.heap.objs.size ≠ D0 := Nat.ne_of_lt nD'
    have neCI : s1.heap.objs.size ≠ C := Nat.ne_of_lt nC'
    have neDl : (l : Nat) ≠ D0 := Nat.ne_of_lt (Nat.lt_of_lt_of_le hlt sD)
    have neCl : (l : Nat) ≠ C := Nat.ne_of_lt (Nat.lt_of_lt_of_le hlt sC)
    have hDn : H1 D0 = none := I1.hok.fresh sD
    have hIn : H1 s1.heap.objs.size = none := I1.hok.fresh (Nat.le_refl _)
    have hCn : H1 C = none := I1.hok.fresh sC
    have all3 : ∀ b o, s1.heap.get? b = some o → h3.get? b = some o := fun b o e => old b o (Heap.get?_push_of_some _ e)
    have kx : (compEnvC scope (cloFrom X.env.cells scope.names []) C X.env).kindOf x = some .local := lookup_relabel_local hx
    have hp : ((compEnvC scope (cloFrom X.env.cells scope.names []) C X.env).scope.kind == .class || ((compEnvC scope (cloFrom X.env.cells scope.names []) C X.env).scope.kind == .module && (compEnvC scope (cloFrom X.env.cells scope.names []) C X.env).locals != (compEnvC scope (cloFrom X.env.cells scope.names []) C X.env).globals)) = false := by
      show (scope.kind == .class || (scope.kind == .module && _)) = false
      rw [ok.kind]
      rfl
    have fpI : ∀ kvs, FpOk X pins (upd H1 D0 (NDO X.prog X.w D0 kvs)) s1.heap.objs.size := fun kvs => I1.fpOk (Nat.le_refl _) (by rw [upd_ne neDI]; exact hIn)
    have fpC : ∀ kvs, FpOk X pins (upd H1 D0 (NDO X.prog X.w D0 kvs)) C := fun kvs => I1.fpOk sC (by rw [upd_ne (fun e => hDC e.symm)]; exact hCn)
    refine ⟨fun i s₁ => ∃ kvs m, Inv X pins σ (upd H1 D0 (NDO X.prog X.w D0 kvs)) s₁ ∧ s₁.heap.Ns C m ∧ kvs.map (·.1) = ds.take i ∧ KeysOk X.K H1 kvs, ?_, ?_, ?_, ?_⟩
    · -- at the start
      refine ⟨[], _, I1.laid (t' := tk3) all3 sD (nd_new (X := X) (Nat.zero_le _) ?_ .nil ?_), hnm, rfl, fun p hp => nomatch hp⟩
      · exact beq_eq_false_iff_ne.mpr (Nat.ne_of_gt (Nat.lt_of_lt_of_le I1.big sD))
      · exact ⟨_, #[], 0, hDobj, ⟨rfl, rfl, rfl⟩, rfl, rfl, (fun _ z => nomatch z), List.nodup_nil⟩
    · -- the iterator turns
      rintro i s₁ h' tk ⟨kvs, m, J, hn, e, ko⟩ kp _
      obtain ⟨f0, f1, f2, f3, f4, f5⟩ := fpI kvs
      exact ⟨kvs, m, J.turned (t' := tk) (fun b o hb q => kp b o (by simpa using hb) q) f0 f1 f3 f4 f5, hn.at' fun o q => kp _ o (by simpa using (fun z => neCI z.symm)) q, e, ko⟩
    · -- one turn
      rintro i v s₁ hi' hv st ⟨kvs, m, J, hn, e, ko⟩
      have hv' : its[i]? = some v := by simpa using hv
      obtain ⟨x0, hx0, rx0⟩ := vals_at rvs hv'
      obtain ⟨d, hd0, dd⟩ := dpAll_at' hd hx0
      have gd := hg d (List.mem_of_getElem? hd0)
      obtain ⟨a, rfl⟩ := gd.ref dd
      obtain rfl : v = Value.ref a := rx0
      refine wpAny_assign_Name (wpAny_storeName_local kx hn (fun h5 n5 s5 => ?_) hp)
      refine wpAny_tests_nil ?_
      show wpAny _ _ _ _ _ _
      obtain ⟨f0, f1, f2, f3, f4, f5⟩ := fpC kvs
      have J5 : Inv X pins σ (upd H1 D0 (NDO X.prog X.w D0 kvs)) { s₁ with heap := h5, toks := s₁.toks + 1 } := J.turned (t' := s₁.toks + 1) (fun b o hb q => (s5.2 b hb).trans q) f0 f1 f3 f4 f5
      rw [eval_Name _ _ _ hdeb]
      refine wpAny_bind (wpAny_standAt (wpAny_loadName_local ok.kind kx n5 (v := .ref a) (if_pos rfl) ?_))
      refine Constant_bool ?_
      have st5 : h5.IsListIter s1.heap.objs.size l (i + 1) ∧ h5.IsList l its.toArray := ⟨st.1.at fun o q => (s5.2 _ neCI).trans q, st.2.at fun o q => (s5.2 _ neCl).trans q⟩
      have sty : Stay H1 (upd H1 D0 (NDO X.prog X.w D0 kvs)) := Stay.new hDn _
      refine nd_put (s := { s₁ with heap := h5, toks := s₁.toks + 1 }) (by omega) J5 upd_same (ko.stay sty) gd (sty.dp _ _ gd.ok dd) (by rw [e]; exact idx_new hnd hd0) ?_ (x := .bl true) rfl fun s' J' kept => ?_
      · have z := congrArg List.length e
        rw [List.length_map, List.length_take] at z
        omega
      · rw [upd_upd] at J'
        refine ⟨⟨_, _, J', n5.at' fun o q => kept _ o (fun z => hDC z.symm) q, ?_, ?_⟩, st5.1.at fun o q => kept _ o neDI q, st5.2.at fun o q => kept _ o neDl q⟩
        · rw [List.map_append, e, take_snoc hd0]
          rfl
        · intro p hp
          rcases List.mem_append.mp hp with hp | hp
          · exact ko p hp
          · rw [List.mem_singleton.mp hp]
            exact ⟨gd, dd⟩
    · -- behind the last
      rintro s₁ ⟨kvs, m, J, hn, e, ko⟩
      have e' : kvs.map (·.1) = ds := by
        rw [e, List.size_toArray, il, List.take_length]
      show wpAny _ X.A (assign (.Name y py) X.env (.ref D0)) _ _ _
      obtain ⟨f0, f1, f2, f3, f4, f5⟩ := fpC kvs
      refine wpAny_assign_Name (store_ok2 (v := V.ref D0) J hN hy (.inl hyl) rfl (fun s2 J2 ⟨a, sb, ha⟩ => ?_) (.inr hyl))
      have haC : C ≠ a := by
        rcases ha with z | z
        · rw [z]
          exact f1
        · exact fun e => f4 y a z e.symm
      exact ⟨m, hn.sameBut sb haC, fun h3' sb3 => ⟨_, _, J2.turned (t' := s2.toks) (fun b o hb q => (sb3.2 b hb).trans q) f0 f1 f3 f4 f5, q D0 kvs hDn e' ko⟩⟩
  refine wpAny_bind (wpAny_mono (comprehension_at (use := some (assign (.Name y py) X.env)) (Q := fun _ s' => SP X pins D .next s') rfl hs (closure_ok hfree) ok.kind (fun z hz e => by rw [ok.uniq z hz, e])
    (wpAny_mono main (fun xv s₁ h₁ => wpAny_mono h₁ (fun it s₂ h₂ => compBlock_dict hcell ok.kind h₂) fun _ _ e => e) fun _ _ e => e)) (fun _ s' hq => wpAny_pure (wpAny_pure hq)) fun _ _ e => e)
end
end Rw
namespace Rw
open PySem PySem.Spec PyProof.Rows L2
/-! ### names, worlds, pairs -/
def letter (c : Nat) : Bool := decide (97 ≤ c) && decide (c ≤ 122)
def notS : Str := ("not" : Str)
def nameB (x : Str) : Bool := x.cps.toList.all letter && decide (1 ≤ x.cps.size) && decide (x.cps.size ≤ 8) && !decide (x = notS)
theorem nameB_iff {x : Str} : nameB x = true ↔ (∀ c ∈ x.cps.toList, letter c = true) ∧ 1 ≤ x.cps.size ∧ x.cps.size ≤ 8 ∧ x ≠ notS := by
  unfold nameB
  simp only [Bool.and_eq_true, List.all_eq_true, decide_eq_true_eq, Bool.not_eq_true', decide_eq_false_iff_not]
  exact ⟨fun ⟨⟨⟨a, b⟩, c⟩, d⟩ => ⟨a, b, c, d⟩, fun ⟨a, b, c, d⟩ => ⟨⟨⟨a, b⟩, c⟩, d⟩⟩
theorem name_strOk {x : Str} (h : nameB x = true) : PyData.strOk x = true := by
  obtain ⟨h1, _⟩ := nameB_iff.mp h
  unfold PyData.strOk
  rw [← Array.all_toList, List.all_eq_true]
  intro c hc
  have := h1 c hc
  unfold letter at this
  simp only [Bool.and_eq_true, decide_eq_true_eq] at this
  exact decide_eq_true (by omega)
abbrev W := List Str
abbrev Pr := W × W
/-- strictly rising -/
abbrev UpX (ns : W) : Prop := ns.Pairwise fun a b => a.cps.toList < b.cps.toList
structure IsW (ns : W) : Prop where
  names : ∀ x ∈ ns, nameB x = true
  up : UpX ns
  few : ns.length ≤ 40
def wd (ns : W) : PyData := .tuple (ns.map .str)
def pd (p : Pr) : PyData := .tuple [wd p.1, wd p.2]
theorem str_inj : ∀ {a b : W}, a.map PyData.str = b.map PyData.str → a = b
  | [], [], _ => rfl
  | [], _ :: _, h => by simp at h
  | _ :: _, [], h => by simp at h
  | x :: a, y :: b, h => by
    simp only [List.map_cons, List.cons.injEq, PyData.str.injEq] at h
    rw [h.1, str_inj h.2]
theorem wd_inj {a b : W} (h : wd a = wd b) : a = b := by
  unfold wd at h
  injection h with h
  exact str_inj h
theorem pd_inj {p q : Pr} (h : pd p = pd q) : p = q := by
  unfold pd at h
  injection h with h
  injection h with h1 h2
  injection h2 with h2 _
  exact Prod.ext (wd_inj h1) (wd_inj h2)
theorem okDs_str : ∀ ns : W, okDs (ns.map .str) = true
  | [] => rfl
  | x :: ns => by
    rw [List.map_cons, okDs, okDs_str ns]
    rfl
theorem depth_str : ∀ ns : W, PyData.depthAll (ns.map .str) = 0
  | [] => by simp [PyData.depthAll]
  | x :: ns => by
    rw [List.map_cons, PyData.depthAll, depth_str ns]
    simp [PyData.depth]
theorem ok_wd (ns : W) : okD (wd ns) = true := by
  unfold wd
  rw [okD]
  exact okDs_str ns
theorem depth_wd (ns : W) : (wd ns).depth = 1 := by
  unfold wd
  rw [PyData.depth, depth_str]
theorem good_wd (ns : W) : Good (wd ns) := ⟨ok_wd ns, by rw [depth_wd]; decide, ⟨_, rfl⟩⟩
theorem ok_pd (p : Pr) : okD (pd p) = true := by
  unfold pd
  rw [okD, okDs, okDs, okDs, ok_wd, ok_wd]
  rfl
theorem depth_pd (p : Pr) : (pd p).depth = 2 := by
  unfold pd
  simp [PyData.depth, PyData.depthAll, depth_wd]
theorem good_pd (p : Pr) : Good (pd p) := ⟨ok_pd p, by rw [depth_pd]; decide, ⟨_, rfl⟩⟩
theorem lay_strs : ∀ {ns : W}, (∀ x ∈ ns, nameB x = true) → PyData.canLayAll0 (ns.map .str) = true
  | [], _ => by simp [PyData.canLayAll0]
  | x :: ns, h => by
    rw [List.map_cons, PyData.canLayAll0, lay_strs fun y hy => h y (List.mem_cons_of_mem _ hy), PyData.canLay0, name_strOk (h x List.mem_cons_self)]
    rfl
theorem lay_wd {ns : W} (h : ∀ x ∈ ns, nameB x = true) : (wd ns).canLay0 = true := by
  unfold wd
  rw [PyData.canLay0]
  exact lay_strs h
theorem shaped_wd {ns : W} (h : IsW ns) : SeqAt.shaped (wd ns) = true := by
  unfold SeqAt.shaped
  rw [lay_wd h.names, depth_wd]
  rfl
theorem lay_pd {p : Pr} (h1 : IsW p.1) (h2 : IsW p.2) : (pd p).canLay0 = true := by
  unfold pd
  rw [PyData.canLay0, PyData.canLayAll0, PyData.canLayAll0, PyData.canLayAll0, lay_wd h1.names, lay_wd h2.names]
  rfl
theorem shaped_pd {p : Pr} (h1 : IsW p.1) (h2 : IsW p.2) : SeqAt.shaped (pd p) = true := by
  unfold SeqAt.shaped
  rw [lay_pd h1 h2, depth_pd]
  rfl
theorem alike_strs : ∀ a b : W, PySem.W.alikeAll (a.map .str) (b.map .str) = true
  | [], _ => by simp [PySem.W.alikeAll]
  | _ :: _, [] => by simp [PySem.W.alikeAll]
  | x :: a, y :: b => by
    rw [List.map_cons, List.map_cons, PySem.W.alikeAll, alike_strs a b]
    simp [PySem.W.alike]
theorem alike_wd (a b : W) : PySem.W.alike (wd a) (wd b) = true := by
  unfold wd
  rw [PySem.W.alike]
  exact alike_strs a b
theorem alike_pd (p q : Pr) : PySem.W.alike (pd p) (pd q) = true := by
  unfold pd
  rw [PySem.W.alike, PySem.W.alikeAll, PySem.W.alikeAll, PySem.W.alikeAll, alike_wd, alike_wd]
  rfl
theorem eqv_strs : ∀ a b : W, PyData.eqvAll (a.map .str) (b.map .str) = decide (a = b)
  | [], [] => by simp [PyData.eqvAll]
  | [], _ :: _ => by simp [PyData.eqvAll]
  | _ :: _, [] => by simp [PyData.eqvAll]
  | x :: a, y :: b => by
    rw [List.map_cons, List.map_cons, PyData.eqvAll, eqv_strs a b, PyData.eqv]
    by_cases h : x = y
    · subst h
      by_cases h2 : a = b <;> simp [h2]
    · simp [h]
theorem eqv_wd (a b : W) : PyData.eqv (wd a) (wd b) = decide (a = b) := by
  unfold wd
  rw [PyData.eqv]
  exact eqv_strs a b
theorem eqv_pd (p q : Pr) : PyData.eqv (pd p) (pd q) = decide (p = q) := by
  unfold pd
  rw [PyData.eqv, PyData.eqvAll, PyData.eqvAll, PyData.eqvAll, eqv_wd, eqv_wd]
  obtain ⟨a, b⟩ := p
  obtain ⟨c, d⟩ := q
  by_cases h1 : a = c
  · by_cases h2 : b = d <;> simp [h1, h2]
  · simp [h1]
/-! ### sorted lists are told by their members -/
theorem toks_ne {d e : PyData} (h : PySem.W.alike d e = true) (he : PyData.eqv d e = false) : PySem.W.keyToks d ≠ PySem.W.keyToks e := fun t => by
  have z := (PySem.W.toks_eqv d e h).2 he [.inl 0] [.inl 1]
  rw [t, PySem.W.lex_pre, lex_irrefl] at z
  exact absurd z (by decide)
theorem lt_or {d e : PyData} (h : PySem.W.alike d e = true) (he : PyData.eqv d e = false) : PySem.W.dataLt d e = true ∨ PySem.W.dataLt e d = true := by
  cases h1 : PySem.W.dataLt d e with
  | true => exact .inl rfl
  | false =>
    cases h2 : PySem.W.dataLt e d with
    | true => exact .inr rfl
    | false => exact absurd (lex_total _ _ h1 h2) (toks_ne h he)
/-- rising and without repetition: told by the members -/
theorem rising_one {α : Type} {enc : α → PyData} (al : ∀ a b, PySem.W.alike (enc a) (enc b) = true) (inj : ∀ a b, PyData.eqv (enc a) (enc b) = true → a = b) :
    ∀ {l m : List α}, Rising (l.map enc) → Rising (m.map enc) → l.Nodup → m.Nodup → (∀ a, a ∈ l ↔ a ∈ m) → l = m
  | [], [], _, _, _, _, _ => rfl
  | [], b :: m, _, _, _, _, h => absurd ((h b).mpr List.mem_cons_self) (List.not_mem_nil)
  | a :: l, [], _, _, _, _, h => absurd ((h a).mp List.mem_cons_self) (List.not_mem_nil)
  | a :: l, b :: m, r1, r2, n1, n2, h => by
    have le_of : ∀ {x y : α} {k : List α}, Rising ((x :: k).map enc) → y ∈ x :: k → y = x ∨ PySem.W.dataLt (enc y) (enc x) = false := by
      intro x y k r hy
      rcases List.mem_cons.mp hy with e | hy
      · exact .inl e
      · right
        have z := (List.pairwise_cons.mp r).1 (enc y) (List.mem_map.mpr ⟨y, hy, rfl⟩)
        have z' : (!PySem.W.dataLt (enc y) (enc x)) = true := z
        simpa using z'
    have e : a = b := by
      have h1 := le_of r1 ((h b).mpr List.mem_cons_self)
      have h2 := le_of r2 ((h a).mp List.mem_cons_self)
      rcases h1 with e | h1
      · exact e.symm
      · rcases h2 with e | h2
        · exact e
        · cases ev : PyData.eqv (enc a) (enc b) with
          | true => exact inj a b ev
          | false =>
            rcases lt_or (al a b) ev with z | z
            · rw [h2] at z
              exact nomatch z
            · rw [h1] at z
              exact nomatch z
    subst e
    obtain ⟨a1, a2⟩ := List.nodup_cons.mp n1
    obtain ⟨b1, b2⟩ := List.nodup_cons.mp n2
    rw [rising_one al inj (List.pairwise_cons.mp r1).2 (List.pairwise_cons.mp r2).2 a2 b2 fun x => ?_]
    constructor
    · intro hx
      rcases List.mem_cons.mp ((h x).mp (List.mem_cons_of_mem _ hx)) with e | z
      · rw [e] at hx
        exact absurd hx a1
      · exact z
    · intro hx
      rcases List.mem_cons.mp ((h x).mpr (List.mem_cons_of_mem _ hx)) with e | z
      · rw [e] at hx
        exact absurd hx b1
      · exact z
theorem pairs_one {R R' : List Pr} (r1 : Rising (R.map pd)) (r2 : Rising (R'.map pd)) (n1 : R.Nodup) (n2 : R'.Nodup) (h : ∀ p, p ∈ R ↔ p ∈ R') : R = R' :=
  rising_one alike_pd (fun p q e => by rw [eqv_pd] at e; exact of_decide_eq_true e) r1 r2 n1 n2 h
theorem worlds_one {R R' : List W} (r1 : Rising (R.map wd)) (r2 : Rising (R'.map wd)) (n1 : R.Nodup) (n2 : R'.Nodup) (h : ∀ p, p ∈ R ↔ p ∈ R') : R = R' :=
  rising_one alike_wd (fun p q e => by rw [eqv_wd] at e; exact of_decide_eq_true e) r1 r2 n1 n2 h
/-- texts: likewise -/
theorem upX_one : ∀ {l m : W}, UpX l → UpX m → (∀ a, a ∈ l ↔ a ∈ m) → l = m
  | [], [], _, _, _ => rfl
  | [], b :: m, _, _, h => absurd ((h b).mpr List.mem_cons_self) (List.not_mem_nil)
  | a :: l, [], _, _, h => absurd ((h a).mp List.mem_cons_self) (List.not_mem_nil)
  | a :: l, b :: m, r1, r2, h => by
    obtain ⟨p1, q1⟩ := List.pairwise_cons.mp r1
    obtain ⟨p2, q2⟩ := List.pairwise_cons.mp r2
    have e : a = b := by
      rcases List.mem_cons.mp ((h a).mp List.mem_cons_self) with e | z
      · exact e
      · rcases List.mem_cons.mp ((h b).mpr List.mem_cons_self) with e | z'
        · exact e.symm
        · exact absurd (p1 b z') (List.lt_asymm (p2 a z))
    subst e
    have na : ∀ {k : W}, (∀ x ∈ k, a.cps.toList < x.cps.toList) → a ∉ k := fun h hm => List.lt_irrefl _ (h a hm)
    rw [upX_one q1 q2 fun x => ?_]
    constructor
    · intro hx
      rcases List.mem_cons.mp ((h x).mp (List.mem_cons_of_mem _ hx)) with e | z
      · rw [e] at hx
        exact absurd hx (na p1)
      · exact z
    · intro hx
      rcases List.mem_cons.mp ((h x).mpr (List.mem_cons_of_mem _ hx)) with e | z
      · rw [e] at hx
        exact absurd hx (na p2)
      · exact z
/-- ≤ and without repetition: strictly rising -/
theorem upX_of {zs : W} (h : RisingX zs) (n : zs.Nodup) : UpX zs := by
  induction zs with
  | nil => exact List.Pairwise.nil
  | cons x zs ih =>
    obtain ⟨p, q⟩ := List.pairwise_cons.mp h
    obtain ⟨n1, n2⟩ := List.nodup_cons.mp n
    refine List.pairwise_cons.mpr ⟨fun y hy => ?_, ih q n2⟩
    have le := of_decide_eq_true (p y hy)
    refine Classical.byContradiction fun c => ?_
    have ge : y.cps.toList ≤ x.cps.toList := List.not_lt.mp c
    have e : x.cps.toList = y.cps.toList := List.le_antisymm le ge
    exact n1 ((PySem.W.str_of_cps e) ▸ hy)
theorem upX_nodup {zs : W} (h : UpX zs) : zs.Nodup := List.Pairwise.imp (fun {a b} h e => by subst e; exact List.lt_irrefl _ h) h
end Rw
namespace Rw
open PySem PySem.Spec PyProof.Rows L2
def lettersS : Str := ("abcdefghijklmnopqrstuvwxyz" : Str)
theorem in_letters {c : Nat} (h : letter c = true) : c ∈ lettersS.cps.toList := by
  have all : ((List.range 123).all fun c => !letter c || decide (c ∈ lettersS.cps.toList)) = true := by decide +kernel
  have z := h
  unfold letter at z
  simp only [Bool.and_eq_true, decide_eq_true_eq] at z
  have q := List.all_eq_true.mp all c (List.mem_range.mpr (by omega))
  rw [h] at q
  simpa using q
/-- a comprehension over a text's signs -/
theorem lc_sgn {x : Str} {g : TG} {tt : TT} {te : TE} {vs : List Nat} {σ : L2.St} {H1 : Hp} {D : Addr} {Qd : Hp → Prop} (Pv : Nat → Hp → Prop) (h0 : Pv 0 (upd H1 D (.lst [])))
    (hs : ∀ i c H, x.cps[i]? = some c → Pv i H → g (.str ⟨#[c]⟩) (wipe σ vs) H fun σ2 H2 => wipe σ2 vs = wipe σ vs ∧ tt σ2 H2 fun b H3 =>
      if b = true then te σ2 H3 fun y H4 => ∃ acc, H4 D = some (.lst acc) ∧ acc.length < sizeLine ∧ Pv (i + 1) (upd H4 D (.lst (acc ++ [y]))) else Pv (i + 1) H3) (hd : ∀ H, Pv x.cps.size H → Qd H) :
    ∃ W : Nat → Nat → Hp → Prop, (∃ m, W 0 m (upd H1 D (.lst []))) ∧ ∀ i m H, W i m H →
      ((Its x).stop i H ∧ Qd H) ∨ ((Its x).go i H ∧ ∃ Nx : Hp → Prop, (∀ H', Nx H' → ∃ m', m' < m ∧ W (i + 1) m' H') ∧ ∀ y H', (Its x).yld i H y H' → g y (wipe σ vs) H' fun σ2 H2 => wipe σ2 vs = wipe σ vs ∧ tt σ2 H2 fun b H3 =>
        if b = true then te σ2 H3 fun y H4 => ∃ acc, H4 D = some (.lst acc) ∧ acc.length < sizeLine ∧ Nx (upd H4 D (.lst (acc ++ [y]))) else Nx H3) := by
  refine ⟨fun i m H => m = x.cps.size - i ∧ i ≤ x.cps.size ∧ Pv i H, ⟨x.cps.size, by simp, Nat.zero_le _, h0⟩, ?_⟩
  rintro i m H ⟨rfl, hi, p⟩
  by_cases hlt : i < x.cps.size
  · refine .inr ⟨hlt, Pv (i + 1), fun H' p' => ⟨x.cps.size - (i + 1), by omega, rfl, hlt, p'⟩, fun y H' yy => ?_⟩
    obtain ⟨rfl, c, hc, rfl⟩ := yy
    exact hs i c _ hc p
  · have e : i = x.cps.size := by omega
    subst e
    exact .inl ⟨Nat.le_refl _, hd H p⟩
theorem small_line {n : Nat} (h : n ≤ 10000) : n ≤ sizeLine := by
  rw [sizeLine_eq]
  omega
theorem small_line' {n : Nat} (h : n ≤ 10000) : n < sizeLine := by
  rw [sizeLine_eq]
  omega
theorem map_at {α β : Type} {l : List α} {f : α → β} {i : Nat} {y : β} (h : (l.map f)[i]? = some y) : ∃ x, l[i]? = some x ∧ y = f x := by
  rw [List.getElem?_map] at h
  cases e : l[i]? with
  | none => rw [e] at h; simp at h
  | some x =>
    rw [e] at h
    exact ⟨x, rfl, (Option.some.inj h).symm⟩
theorem same_put {H H1 : Hp} {D : Addr} {o : HO} (sm : Same H H1) (hD : H D = none) : Same H (upd H1 D o) := fun b u e => by
  rw [upd_ne (ne_of_none e hD)]
  exact sm b u e
theorem dps_str {K : PySem.W.Frag} {H : Hp} : ∀ {ns : W} {xs : List V}, DpAll K H xs (ns.map .str) → xs = ns.map V.str
  | [], _, h => by cases h; rfl
  | x :: ns, _, h => by
    cases h with
    | cons h1 h2 =>
      cases h1
      rw [dps_str h2]
      rfl
theorem dps_strs {K : PySem.W.Frag} {H : Hp} : ∀ ns : W, DpAll K H (ns.map V.str) (ns.map .str)
  | [] => .nil
  | x :: ns => .cons (.str x) (dps_strs ns)
theorem of_wd {K : PySem.W.Frag} {H : Hp} {x : V} {ns : W} (h : Dp K H x (wd ns)) : ∃ a, x = .ref a ∧ SqT K H a (ns.map V.str) := by
  unfold wd at h
  cases h with
  | tup h1 h2 =>
    rw [dps_str h2] at h1
    exact ⟨_, rfl, h1⟩
theorem to_wd {K : PySem.W.Frag} {H : Hp} {a : Addr} {ns : W} (h : SqT K H a (ns.map V.str)) : Dp K H (.ref a) (wd ns) := .tup h (dps_strs ns)
theorem Stay.wd {K : PySem.W.Frag} {H H' : Hp} {x : V} {ns : W} (e : Stay H H') (h : Dp K H x (Rw.wd ns)) : Dp K H' x (Rw.wd ns) := e.dp _ _ (ok_wd ns) h
theorem tyx_tup {K : PySem.W.Frag} {H : Hp} {a : Addr} {xs : List V} (h : SqT K H a xs) : TyX K H (.ref a) (.type "tuple") := by
  rcases h with (h | ⟨o, h⟩) | ⟨o, its, n, h1, h2, _⟩
  · exact .base (.tup h)
  · exact .fTuple h
  · exact .kTuple h1 h2
/-- all of ms are in ns -/
def sub (ms ns : W) : Bool := ms.all fun z => decide (z ∈ ns)
theorem inV_str (z : Str) : ∀ ns : W, inV (.str z) (ns.map V.str) = decide (z ∈ ns)
  | [] => by simp [inV]
  | x :: ns => by
    have ih := inV_str z ns
    unfold inV at ih ⊢
    rw [List.map_cons, List.any_cons, ih]
    show ((x == z) || decide (z ∈ ns)) = decide (z ∈ x :: ns)
    by_cases h : x = z
    · subst h
      simp
    · have h' : z ≠ x := fun e => h e.symm
      simp [h, h']
theorem flat_strs (ns : W) : (ns.map V.str).all flatV = true := by
  rw [List.all_map, List.all_eq_true]
  exact fun _ _ => rfl
/-- the first that is told -/
theorem first_at {α β : Type} {f : α → Option β} {y : β} : ∀ {l : List α} {i : Nat} {p : α}, (∀ q ∈ l.take i, f q = none) → l[i]? = some p → f p = some y → l.findSome? f = some y
  | [], _, _, _, h, _ => by simp at h
  | a :: l, 0, p, _, h, e => by
    simp at h
    subst h
    rw [List.findSome?_cons, e]
  | a :: l, i + 1, p, h0, h, e => by
    rw [List.findSome?_cons, h0 a (by simp)]
    exact first_at (i := i) (fun q hq => h0 q (by rw [List.take_succ_cons]; exact List.mem_cons_of_mem _ hq)) (by simpa using h) e
theorem first_none {α β : Type} {f : α → Option β} {l : List α} (h : ∀ q ∈ l, f q = none) : l.findSome? f = none := List.findSome?_eq_none_iff.mpr h
theorem none_snoc {α β : Type} {f : α → Option β} {l : List α} {i : Nat} {p : α} (h0 : ∀ q ∈ l.take i, f q = none) (h : l[i]? = some p) (e : f p = none) : ∀ q ∈ l.take (i + 1), f q = none := fun q hq => by
  rw [take_snoc h] at hq
  rcases List.mem_append.mp hq with hq | hq
  · exact h0 q hq
  · rw [List.mem_singleton.mp hq]
    exact e
theorem filt_t {α : Type} {p : α → Bool} {l : List α} {i : Nat} {z : α} (hz : l[i]? = some z) (e : p z = true) : (l.take (i + 1)).filter p = (l.take i).filter p ++ [z] := by
  rw [take_snoc hz, List.filter_append]
  simp [e]
theorem filt_f {α : Type} {p : α → Bool} {l : List α} {i : Nat} {z : α} (hz : l[i]? = some z) (e : p z = false) : (l.take (i + 1)).filter p = (l.take i).filter p := by
  rw [take_snoc hz, List.filter_append]
  simp [e]
theorem okDs_wd (L : List W) : okDs (L.map wd) = true := okDs_all fun d hd => by
  obtain ⟨q, _, rfl⟩ := List.mem_map.mp hd
  exact ok_wd q
theorem none_back {H0 H : Hp} (h : Same H0 H) {o : Addr} (n : H o = none) : H0 o = none := by
  cases e : H0 o with
  | none => rfl
  | some u =>
    rw [h _ _ e] at n
    cases n
theorem map_inj_nodup {α β : Type} {f : α → β} : ∀ {l : List α}, (l.map f).Nodup → ∀ a ∈ l, ∀ b ∈ l, f a = f b → a = b
  | [], _, a, h, _, _, _ => nomatch h
  | x :: l, hn, a, ha, b, hb, e => by
    rw [List.map_cons] at hn
    obtain ⟨h1, h2⟩ := List.nodup_cons.mp hn
    rcases List.mem_cons.mp ha with ea | ha
    · rcases List.mem_cons.mp hb with eb | hb
      · rw [ea, eb]
      · exact absurd (List.mem_map.mpr ⟨b, hb, by rw [← e, ea]⟩) h1
    · rcases List.mem_cons.mp hb with eb | hb
      · exact absurd (List.mem_map.mpr ⟨a, ha, by rw [e, eb]⟩) h1
      · exact map_inj_nodup h2 a ha b hb e
theorem sw_trueD {key val : Expr} {gs : List Comprehension} {scope : Scope} {pos py : Pos} {y : Str} {l : Nat} {env : Env} (hk : env.scope.kind = .function) (hy : env.scope.names.lookup y = some .local) (hl : (py.line == pos.line) = true)
    (ha : (scope.names.any fun (n, k) => n == y && (k == .local || k == .cell)) = false) : swapsWith (.DictComp key val gs scope pos) (some (.Name y py)) l env = pure true :=
  (show swapsWith (.DictComp key val gs scope pos) (some (.Name y py)) l env = swapsWith (.ListComp key gs scope pos) (some (.Name y py)) l env from rfl).trans (sw_true hk hy hl ha)
theorem op_powB {X : Cx} : OpR X (binaryOp .Pow) (rI (fun i j => 0 ≤ j ∧ (Builtin.Int.intBits i : Int) * j ≤ 2 ^ 27) fun i j => .int (i ^ j.toNat)) := opI fun _ _ _ _ _ _ _ hc q => pow_int hc.1 hc.2 q
theorem b64 {i : Int} (h0 : 0 ≤ i) (h1 : i < 2147483647) : -(2 ^ 64) < i ∧ i < 2 ^ 64 := ⟨by omega, by omega⟩
/-- a purse: three numbers -/
def Pur (H : Hp) (p : Addr) (c : Int) : Prop := ∃ a b e : Int, H p = some (.lst [.int a, .int b, .int e]) ∧ 0 ≤ a ∧ 0 ≤ b ∧ b < 2147483647 ∧ 0 ≤ e ∧ e ≤ c
def subsR : W → List W
  | [] => [[]]
  | x :: r => subsR r ++ (subsR r).map fun t => t ++ [x]
def subs (ns : W) : List W := subsR ns.reverse
theorem mem_subsR : ∀ {r t : W}, t ∈ subsR r ↔ t.Sublist r.reverse
  | [], t => by
    rw [subsR, List.mem_singleton, List.reverse_nil, List.sublist_nil]
  | x :: r, t => by
    rw [subsR, List.mem_append, List.mem_map, List.reverse_cons, List.sublist_append_iff]
    constructor
    · rintro (h | ⟨s, hs, rfl⟩)
      · exact ⟨t, [], by simp, mem_subsR.mp h, by simp⟩
      · exact ⟨s, [x], rfl, mem_subsR.mp hs, List.Sublist.refl _⟩
    · rintro ⟨a, b, rfl, ha, hb⟩
      cases hb with
      | cons _ h =>
        left
        rw [List.sublist_nil.mp h, List.append_nil]
        exact mem_subsR.mpr ha
      | cons_cons _ h =>
        right
        exact ⟨a, mem_subsR.mpr ha, by rw [List.sublist_nil.mp h]⟩
theorem mem_subs {ns t : W} : t ∈ subs ns ↔ t.Sublist ns := by
  unfold subs
  rw [mem_subsR, List.reverse_reverse]
theorem subsR_nodup : ∀ {r : W}, r.Nodup → (subsR r).Nodup
  | [], _ => by simp [subsR]
  | x :: r, h => by
    obtain ⟨h1, h2⟩ := List.nodup_cons.mp h
    have ih := subsR_nodup h2
    rw [subsR]
    refine List.nodup_append.mpr ⟨ih, ?_, fun a ha b hb e => ?_⟩
    · exact List.Pairwise.map _ (fun a b (hab : a ≠ b) (e : a ++ [x] = b ++ [x]) => hab (List.append_cancel_right e)) ih
    · subst e
      obtain ⟨s, hs, rfl⟩ := List.mem_map.mp hb
      have z := (mem_subsR.mp ha).subset (List.mem_append_right s (List.mem_singleton.mpr rfl))
      exact h1 (List.mem_reverse.mp z)
theorem subs_nodup {ns : W} (h : ns.Nodup) : (subs ns).Nodup := subsR_nodup (List.pairwise_reverse.mpr (h.imp fun hne e => hne e.symm))
theorem subsR_len : ∀ r : W, (subsR r).length = 2 ^ r.length
  | [] => rfl
  | x :: r => by
    rw [subsR, List.length_append, List.length_map, subsR_len r, List.length_cons, Nat.pow_succ]
    omega
theorem subs_len (ns : W) : (subs ns).length = 2 ^ ns.length := by
  unfold subs
  rw [subsR_len, List.length_reverse]
theorem subs_snoc (ns : W) (x : Str) : subs (ns ++ [x]) = subs ns ++ (subs ns).map fun t => t ++ [x] := by
  unfold subs
  rw [List.reverse_append, List.reverse_singleton]
  rfl
theorem sub_mem {a b : W} (h : sub a b = true) : ∀ x ∈ a, x ∈ b := fun x hx => by
  unfold sub at h
  exact of_decide_eq_true (List.all_eq_true.mp h x hx)
theorem sub_of {a b : W} (h : ∀ x ∈ a, x ∈ b) : sub a b = true := by
  unfold sub
  exact List.all_eq_true.mpr fun x hx => decide_eq_true (h x hx)
/-- the parts of a world are the worlds within it -/
theorem parts_iff {ns t : W} (h : IsW ns) : t ∈ subs ns ↔ IsW t ∧ sub t ns = true := by
  rw [mem_subs]
  constructor
  · intro s
    exact ⟨⟨fun x hx => h.names x (s.subset hx), h.up.sublist s, Nat.le_trans s.length_le h.few⟩, sub_of fun x hx => s.subset hx⟩
  · rintro ⟨hw, hs⟩
    have e : ns.filter (fun x => decide (x ∈ t)) = t := upX_one (h.up.sublist List.filter_sublist) hw.up fun a => by
      rw [List.mem_filter, decide_eq_true_iff]
      exact ⟨fun z => z.2, fun z => ⟨sub_mem hs a z, z⟩⟩
    rw [← e]
    exact List.filter_sublist
/-- the list of worlds at l -/
def WL (K : PySem.W.Frag) (H : Hp) (l : Addr) (S : List W) : Prop := ∃ ys, H l = some (.lst ys) ∧ DpAll K H ys (S.map wd)
theorem WL.same {K : PySem.W.Frag} {H H' : Hp} {l : Addr} {R : List W} (h : WL K H l R) (e : Same H H') : WL K H' l R := by
  obtain ⟨xs, h1, h2⟩ := h
  exact ⟨xs, e _ _ h1, (Stay.same e).dpAll _ _ (okDs_wd R) h2⟩
theorem all_wd : ∀ {ds : List PyData}, (∀ d ∈ ds, ∃ p, d = wd p) → ∃ R : List W, ds = R.map wd
  | [], _ => ⟨[], rfl⟩
  | d :: ds, h => by
    obtain ⟨p, rfl⟩ := h d List.mem_cons_self
    obtain ⟨R, rfl⟩ := all_wd fun e he => h e (List.mem_cons_of_mem _ he)
    exact ⟨p :: R, rfl⟩
theorem perm_of_map {α β : Type} {f : α → β} (inj : ∀ a b, f a = f b → a = b) : ∀ {l m : List α}, (l.map f).Perm (m.map f) → l.Perm m := by
  intro l m h
  classical
  refine List.perm_iff_count.mpr fun a => ?_
  have z := List.perm_iff_count.mp h (f a)
  have c : ∀ k : List α, List.count (f a) (k.map f) = List.count a k := fun k => by
    induction k with
    | nil => rfl
    | cons x k ih =>
      rw [List.map_cons, List.count_cons, List.count_cons, ih]
      by_cases e : x = a
      · subst e
        simp
      · have e' : f x ≠ f a := fun z => e (inj _ _ z)
        simp [e, e']
  rw [c, c] at z
  exact z
theorem shaped_strs {ns : W} (h : ∀ x ∈ ns, nameB x = true) : SeqAt.shaped (.list (ns.map .str)) = true := by
  unfold SeqAt.shaped
  rw [PyData.canLay0, lay_strs h, PyData.depth, depth_str]
  rfl
theorem first_map {α β γ : Type} {f : β → Option γ} {g : α → β} : ∀ {l : List α}, (l.map g).findSome? f = l.findSome? fun a => f (g a)
  | [] => rfl
  | a :: l => by
    rw [List.map_cons, List.findSome?_cons, List.findSome?_cons, first_map (l := l)]
theorem first_filter {α γ : Type} {f : α → Option γ} {p : α → Bool} : ∀ {l : List α}, (l.filter p).findSome? f = l.findSome? fun a => if p a = true then f a else none
  | [] => rfl
  | a :: l => by
    rw [List.findSome?_cons, ← first_filter (l := l)]
    by_cases h : p a = true
    · rw [List.filter_cons_of_pos h, List.findSome?_cons, if_pos h]
    · rw [List.filter_cons_of_neg h, if_neg h]
theorem first_congr {α γ : Type} {f g : α → Option γ} {l : List α} (h : ∀ a ∈ l, f a = g a) : l.findSome? f = l.findSome? g := by
  induction l with
  | nil => rfl
  | cons a l ih =>
    rw [List.findSome?_cons, List.findSome?_cons, h a List.mem_cons_self, ih fun b hb => h b (List.mem_cons_of_mem _ hb)]
theorem sub_self (t : W) : sub t t = true := sub_of fun _ h => h
theorem sub_trans {a b c : W} (h : sub a b = true) (h2 : sub b c = true) : sub a c = true := sub_of fun x hx => sub_mem h2 x (sub_mem h x hx)
theorem room65 {k : Nat} {A : Around} (hr : Room k A) : A.units + 65 < cLine := by
  have := hr.un
  omega
theorem len_le {α : Type} [DecidableEq α] : ∀ {l m : List α}, l.Nodup → (∀ z ∈ l, z ∈ m) → l.length ≤ m.length
  | [], _, _, _ => Nat.zero_le _
  | x :: l, m, hn, hs => by
    obtain ⟨h1, h2⟩ := List.nodup_cons.mp hn
    have hx : x ∈ m := hs x List.mem_cons_self
    have ih := len_le (l := l) (m := m.erase x) h2 fun y hy => (List.mem_erase_of_ne (show y ≠ x from fun e => h1 (by rw [← e]; exact hy))).2 (hs y (List.mem_cons_of_mem _ hy))
    rw [List.length_erase_of_mem hx] at ih
    have := List.length_pos_of_mem hx
    rw [List.length_cons]
    omega
theorem prod_len {α β : Type} (m : List β) : ∀ l : List α, (l.flatMap fun a => m.map fun b => (a, b)).length = l.length * m.length
  | [] => by simp
  | a :: l => by
    rw [List.flatMap_cons, List.length_append, prod_len m l, List.length_map, List.length_cons, Nat.succ_mul]
    omega
theorem prod_mem {α β : Type} {l : List α} {m : List β} {a : α} {b : β} (ha : a ∈ l) (hb : b ∈ m) : (a, b) ∈ l.flatMap fun a => m.map fun b => (a, b) :=
  List.mem_flatMap.mpr ⟨a, ha, List.mem_map.mpr ⟨b, hb, rfl⟩⟩
def meet (ns ms : W) : W := ns.filter fun z => decide (z ∈ ms)
theorem isW_meet {a b : W} (h : IsW a) : IsW (meet a b) := ⟨fun x hx => h.names x (List.mem_filter.mp hx).1, h.up.sublist List.filter_sublist, Nat.le_trans (List.length_filter_le _ _) h.few⟩
theorem nodup_snoc {α : Type} {L : List α} {p : α} (n : L.Nodup) (h : p ∉ L) : (L ++ [p]).Nodup := List.nodup_append.mpr ⟨n, by simp, fun a ha b hb e => by
  rw [List.mem_singleton] at hb
  subst hb
  exact h (e ▸ ha)⟩
def Bar (p : Addr) (H H' : Hp) : Prop := ∀ b u, b ≠ p → H b = some u → H' b = some u
theorem Bar.same {p : Addr} {H H' : Hp} (h : Same H H') : Bar p H H' := fun b u _ e => h b u e
theorem Bar.trans {p : Addr} {H H1 H2 : Hp} (a : Bar p H H1) (b : Bar p H1 H2) : Bar p H H2 := fun c u n e => b c u n (a c u n e)
theorem Bar.draw {p : Addr} {H : Hp} {o : HO} : Bar p H (upd H p o) := fun b u n e => by
  rw [upd_ne n]
  exact e
theorem Bar.put {p l : Addr} {H H' : Hp} (h : Bar p H H') (n : H l = none) {o : HO} : Bar p H (upd H' l o) := fun b u nb e => by
  rw [upd_ne (ne_of_none e n)]
  exact h b u nb e
theorem Pur.mut {H : Hp} {p : Addr} {c : Int} (h : Pur H p c) : Mut (H p) := by
  obtain ⟨a, b, e, h, _⟩ := h
  rw [h]
  exact True.intro
theorem Pur.some {H : Hp} {p : Addr} {c : Int} (h : Pur H p c) {q : Addr} (n : H q = none) : q ≠ p := fun e => by
  obtain ⟨a, b, e', h, _⟩ := h
  rw [e, h] at n
  cases n
theorem Pur.same {H H' : Hp} {p : Addr} {c : Int} (h : Pur H p c) (e : Same H H') : Pur H' p c := by
  obtain ⟨a, b, e', h, g⟩ := h
  exact ⟨a, b, e', e _ _ h, g⟩
theorem Pur.put {H : Hp} {p l : Addr} {c : Int} (h : Pur H p c) (n : l ≠ p) {o : HO} : Pur (upd H l o) p c := by
  obtain ⟨a, b, e', h, g⟩ := h
  refine ⟨a, b, e', ?_, g⟩
  rw [upd_ne n.symm]
  exact h
theorem Pur.le {H : Hp} {p : Addr} {c d : Int} (h : Pur H p c) (l : c ≤ d) : Pur H p d := by
  obtain ⟨a, b, e', h, g1, g2, g3, g4, g5⟩ := h
  exact ⟨a, b, e', h, g1, g2, g3, g4, Int.le_trans g5 l⟩
theorem Bar.stay {p : Addr} {H H' : Hp} (h : Bar p H H') (m : Mut (H p)) : Stay H H' := fun b xs r => by
  have ne : b ≠ p := fun z => by
    subst z
    rcases r with r | ⟨u, r⟩
    · rw [r] at m; exact m
    · rw [r] at m; exact m
  rcases r with r | ⟨o, r⟩
  · exact .inl (h _ _ ne r)
  · exact .inr ⟨o, h _ _ ne r⟩
theorem idx_new' {α : Type} {ds : List α} (hn : ds.Nodup) {i : Nat} {d : α} (h : ds[i]? = some d) : d ∉ ds.take i := fun hm => by
  have z := take_snoc h
  have nd : (ds.take (i + 1)).Nodup := List.Nodup.sublist (List.take_sublist _ _) hn
  rw [z] at nd
  obtain ⟨_, _, h3⟩ := List.nodup_append.mp nd
  exact h3 d hm d (List.mem_singleton.mpr rfl) rfl
theorem evalArgs_kw0 {M : Model} {A : Around} {E : Value → Shared → Prop} {s : Shared} {f : Value} {kwl : List (Option Str × Sem Value)} {Q : Args → Shared → Prop} (hall : (kwl.all fun x => x.1.isSome) = true)
    (h : wpAny M A (evalAll (kwl.map fun x => x.2)) (fun ks s₂ => Q { pos := [], kw := (kwl.filterMap fun x => x.1).zip ks } s₂) E s) : wpAny M A (evalArgs f true [] kwl) Q E s := by
  unfold evalArgs
  refine wpAny_bind (Calls.spliced_nil ?_)
  refine wpAny_bind (wpAny_pure ?_)
  refine wpAny_holding ?_
  rw [if_pos hall]
  refine wpAny_bind (wpAny_mono h (fun ks s2 q => ?_) fun _ _ e => e)
  exact wpAny_bind (wpAny_pure (wpAny_pure q))
theorem pe_callK0 {X : Cx} {CX : CXT} {k : Nat} {f : Addr} {fd : FuncData} {ps ks : List Str} {sp : Sp} {E : XK} {x : Str} {p pos : Pos} {kws : List Keyword} {tk : TA} {g : List Value → List Value → List Value} {gV : List V → List V → List V}
    (F : FnOk X.prog X.w X.K X.mg X.base CX k f fd ps sp) (hr : Room k X.A) (hg : Gl X x) (hm : X.mg x = some (.ref f)) (hk : PySem.W.keepIn X.K (.ref f) = true) (hb : KBn X.K fd ps 0 ks g gV) (hx : Passes CX X E) (hkw : PK X kws tk)
    (hall : ((backToKw pos (keywordEach kws X.env)).all fun x => x.1.isSome) = true) (hks : (backToKw pos (keywordEach kws X.env)).filterMap (fun x => x.1) = ks) (hdb : (x == ("__debug__" : Str)) = false)
    (hpl : ((([] : List (Bool × Sem Value)).any fun x => x.1) || (backToKw pos (keywordEach kws X.env)).any fun x => x.1.isNone) = false) (hst : backTo pos (starEach [] X.env) = []) :
    PE X (.Call (.Name x p) [] kws pos) (fun σ H Q => tk σ H fun zs H1 => zs.length = ks.length ∧ sp (gV [] zs) H1 Q E) := by
  refine ⟨fun pins s σ H Q I h => wpAny_Call_Name_kw (ld_glob I hg hm ?_ hdb)⟩
  rw [hst]
  refine PySem.W.callWith_of hpl (PySem.W.keeps_K hk) (evalArgs_kw0 hall (thn (hkw.run pos pins s σ H (fun zs H1 => zs.length = ks.length ∧ sp (gV [] zs) H1 Q E) I h) fun ws s2 ⟨zs, H2, I2, rz, l2, q2⟩ => ⟨Inv.kIn I2, ?_⟩))
  rw [hks]
  exact run_fnN F hr hb hx I2 .nil rz rfl l2 q2
def tMid (t u : TS) : TS := fun D σ H => ∃ I : L2.St → Hp → Prop, t { nx := I, rt := D.rt, bk := D.bk, ct := D.ct } σ H ∧ ∀ σ' H', I σ' H' → u D σ' H'
/-- the first statement up to a mark of one's own, then the rest from it -/
theorem pss_mid {X : Cx} {st : Stmt} {rest : List Stmt} {t u : TS} (h1 : PS X st t) (h2 : PSs X rest u) : PSs X (st :: rest) (tMid t u) := by
  refine ⟨fun pins s σ H D I ⟨J, a, b⟩ => ?_⟩
  refine wpAny_execs_cons (thn (h1.run pins s σ H _ I a) fun f s1 q => ?_)
  cases f with
  | next =>
    obtain ⟨σ', H', I', q⟩ := q
    exact h2.run pins s1 σ' H' D I' (b σ' H' q)
  | brk => exact q
  | cont => exact q
  | ret v => exact q
/-- a def with defaults, called by names -/
theorem kbn_def {K : PySem.W.Frag} {x qual : Str} {params : Arguments} {body : List Stmt} {scope : Scope} {dvs : List V} {kws : List (Str × V)} {f : Addr} {fd : FuncData} {ps : List Str} (F : FunD K x qual params body scope dvs kws f fd) (hd : dvs ≠ []) (n : Nat) (ks : List Str) (g : List Value → List Value → List Value → List Value) (gV : List V → List V → List V)
    (h : ∀ (T : Addr) (kV doc pm : Value) (an : Option Addr) (cdv ct : Value) (us its ws : List Value), us.length = n → its.length = dvs.length → ws.length = ks.length → ∃ k, bindArgs (PySem.W.fnOf x qual params body scope (.ref T) kV doc pm an cdv ct) { pos := us, kw := ks.zip ws } = seqItems? (.ref T) >>= k ∧ k (some its.toArray) = pure (ps.zip (g us its ws)))
    (rel : ∀ {vs : List V} {us its : List Value} {zs : List V} {ws : List Value}, Vals vs us → Vals dvs its → Vals zs ws → Vals (gV vs zs) (g us its ws)) : ∃ its, Vals dvs its ∧ KBn K fd ps n ks (fun us ws => g us its ws) gV := by
  obtain ⟨oc, od, dV, kV, doc, pm, an, cdv, ct, osl, rfl, lk, hcd, hD, hK⟩ := F.ex
  rcases hD with ⟨e, _⟩ | ⟨_, T, o, its, m, rfl, lT, oT, rT⟩
  · exact absurd e hd
  · refine ⟨its, rT, ⟨fun s us ws X l1 l2 => ?_, fun a b => rel a rT b⟩⟩
    intro M A E Q q
    obtain ⟨k, e1, e2⟩ := h T kV doc pm an cdv ct us its ws l1 rT.length.symm l2
    rw [e1]
    refine wpAny_bind (wpAny_seqItems (X T o lT) oT ?_)
    rw [e2]
    exact wpAny_pure q
theorem shaped_of {d : PyData} (h : d.canLay0 = true) (n : d.depth ≤ 64) : SeqAt.shaped d = true := by
  unfold SeqAt.shaped
  rw [h, decide_eq_true n]
  rfl
theorem eqv_self {d : PyData} (h : SeqAt.shaped d = true) : PyData.eqv d d = true := by
  unfold SeqAt.shaped at h
  rw [Bool.and_eq_true] at h
  exact SeqAt.eqv_refl d h.1
theorem dpAll_drop {K : PySem.W.Frag} {H : Hp} : ∀ {xs : List V} {ds : List PyData} (n : Nat), DpAll K H xs ds → DpAll K H (xs.drop n) (ds.drop n)
  | _, _, 0, h => h
  | _, _, _ + 1, .nil => .nil
  | _, _, n + 1, .cons _ t => dpAll_drop n t
theorem dpAll_take {K : PySem.W.Frag} {H : Hp} : ∀ {xs : List V} {ds : List PyData} (n : Nat), DpAll K H xs ds → DpAll K H (xs.take n) (ds.take n)
  | _, _, 0, _ => by
    rw [List.take_zero, List.take_zero]
    exact .nil
  | _, _, _ + 1, .nil => .nil
  | _, _, n + 1, .cons h t => .cons h (dpAll_take n t)
theorem dpAll_rev {K : PySem.W.Frag} {H : Hp} : ∀ {xs : List V} {ds : List PyData}, DpAll K H xs ds → DpAll K H xs.reverse ds.reverse
  | _, _, .nil => .nil
  | _, _, .cons h t => by
    rw [List.reverse_cons, List.reverse_cons]
    exact dpAll_app (dpAll_rev t) (.cons h .nil)
theorem dpAll_erase {K : PySem.W.Frag} {H : Hp} : ∀ {xs : List V} {ds : List PyData} (n : Nat), DpAll K H xs ds → DpAll K H (xs.eraseIdx n) (ds.eraseIdx n)
  | _, _, 0, .cons _ t => t
  | _, _, _ + 1, .cons h t => .cons h (dpAll_erase _ t)
  | _, _, _, .nil => .nil
theorem map_erase {α β : Type} (f : α → β) : ∀ (l : List α) (n : Nat), (l.map f).eraseIdx n = (l.eraseIdx n).map f
  | [], _ => rfl
  | _ :: _, 0 => rfl
  | a :: l, n + 1 => congrArg (f a :: ·) (map_erase f l n)
theorem none_bar {p l : Addr} {H H' : Hp} {c : Int} (b : Bar p H H') (pu : Pur H' p c) (n : H' l = none) : H l = none := by
  have ne := pu.some n
  cases e : H l with
  | none => rfl
  | some u =>
    rw [b l u ne e] at n
    cases n
theorem vals_app : ∀ {xs ys : List V} {us ws : List Value}, Vals xs us → Vals ys ws → Vals (xs ++ ys) (us ++ ws)
  | _, _, _, _, .nil, h => h
  | _, _, _, _, .cons r t, h => .cons r (vals_app t h)
theorem fun_of {K : PySem.W.Frag} {x qual : Str} {st : Stmt} {f : Addr} {fd : FuncData} (F : FunD K x qual (defArgs st) (defBody st) (defScope st) [] [] f fd) : Fun K x qual st f fd := by
  obtain ⟨oc, od, dV, kV, doc, pm, an, cdv, ct, osl, e, lk, hcd, hD, hK⟩ := F.ex
  rcases hD with ⟨_, rfl⟩ | ⟨h, _⟩
  · exact ⟨⟨oc, od, kV, doc, pm, an, cdv, ct, osl, e, lk, hcd⟩, F.kp⟩
  · exact absurd rfl h
end Rw
namespace Rw
open PySem PySem.Spec PyProof.Rows L2
/-! ### enumerate of a tuple -/
theorem meets_enumT (l : Addr) (items : Array Value) : Meets (Builtin.«enumerate.__new__» { pos := [Value.type "enumerate", Value.ref l] }) fun _ R s =>
    s.heap.IsTuple l items ∧ R (Except.ok (Flow.ret (Value.ref (s.heap.push { cls := Value.type "tuple_iterator", data := Data.fields #[Value.ref l, Value.int 0 0] }).objs.size)))
        { heap := (s.heap.push { cls := Value.type "tuple_iterator", data := Data.fields #[Value.ref l, Value.int 0 0] }).push
              { cls := Value.type "enumerate", data := Data.fields #[Value.none, Value.bool false, Value.ref s.heap.objs.size, rawInt 0, Value.none, Value.none] },
          gens := s.gens, drawn := s.drawn, toks := s.toks, os := s.os } := by
  refine Meets.of_wp fun prog w A R s h => ?_
  obtain ⟨hl, h⟩ := h
  have hsub := sub_enumerate
  unfold Builtin.«enumerate.__new__»
  refine wpAny_bind ?_
  unfold Builtin.SmallTypes.newClass
  refine wpAny_bind (wpAny_pure (wpAny_ite_false rfl (wpAny_bind (wpAny_of_eq hsub (wpAny_ite_false rfl (wpAny_pure (wpAny_ite_true rfl (wpAny_bind ?_))))))))
  unfold Builtin.SmallTypes.calledThroughType
  refine wpAny_bind (wpAny_stack_any fun st => wpAny_pure ?_)
  have fin : wpAny (model prog w) A.in1 (do
      let it ← pyIter (.ref l)
      let r ← Builtin.SmallTypes.newRecord (.type "enumerate") (Builtin.SmallTypes.ownedTupleFields ++ [it, rawInt 0, Value.none, Value.none])
      ret r) (fun fin s' => ∃ v, fin = Fin.done (Flow.ret v) ∧ R (Except.ok (Flow.ret v)) s') (fun e s' => R (Except.error e) s') s := by
    refine wpAny_bind (wpAny_pyIter_tuple hl ?_)
    refine wpAny_bind ?_
    unfold Builtin.SmallTypes.newRecord
    refine wpAny_bind (wpAny_alloc ?_)
    refine wpAny_pure ?_
    exact wpAny_pure ⟨_, rfl, h⟩
  split
  · generalize (_ == Value.type "enumerate") = b
    cases b
    · refine wpAny_ite_false rfl (wpAny_bind (wpAny_of_eq (a := (Value.ref l, none)) rfl fin))
    · refine wpAny_ite_true rfl (wpAny_bind (wpAny_of_eq (a := (Value.ref l, none)) rfl fin))
  · refine wpAny_ite_false rfl (wpAny_bind (wpAny_of_eq (a := (Value.ref l, none)) rfl fin))
theorem call_enumT {prog : Program} {w : World} {A : Around} {E : Value → Shared → Prop} {s : Shared} {l : Addr} {items : Array Value} {Q : Value → Shared → Prop} (hT : s.heap.IsTuple l items)
    (h : ∀ h' : Heap, IsEnum h' (s.heap.objs.size + 1) s.heap.objs.size 0 Value.none → h'.IsTupleIter s.heap.objs.size l 0 → h'.objs.size = s.heap.objs.size + 2 → (∀ (b : Addr) (o : Obj), s.heap.get? b = some o → h'.get? b = some o) →
      Q (.ref (s.heap.objs.size + 1)) { heap := h', gens := s.gens, drawn := s.drawn, toks := s.toks, os := s.os }) : wpAny (model prog w) A (call (.type "enumerate") [.ref l]) Q E s := by
  refine callType_new F.called_enumerate (by decide) (F.typeCall_enumerate_1 (.ref l)) (F.newCall_enumerate_1 (.ref l)) (fun obj => F.args_object_init_2 obj (.ref l)) F.entry_enumerate_new (meets_enumT l items) ⟨hT, ?_⟩
  have hz := Heap.size_push s.heap { cls := .type "tuple_iterator", data := .fields #[.ref l, .int 0 0] }
  show _ ∧ _
  rw [hz]
  have he := Heap.get?_push_size (s.heap.push { cls := .type "tuple_iterator", data := .fields #[.ref l, .int 0 0] }) (o := { cls := .type "enumerate", data := .fields #[.none, .bool false, .ref s.heap.objs.size, rawInt 0, .none, .none] }) rfl
  rw [hz] at he
  refine ⟨⟨_, he, rfl⟩, h _ he ⟨_, Heap.get?_push_of_some _ (Heap.get?_push_size s.heap rfl), rfl, rfl⟩ ?_ fun b o e => Heap.get?_push_of_some _ (Heap.get?_push_of_some _ e)⟩
  rw [Heap.size_push, hz]
/-- enumerate of a tuple: what it gives -/
def Ietup (K : PySem.W.Frag) (a : Addr) : It where
  go := fun i H => ∃ xs x, SqT K H a xs ∧ xs[i]? = some x
  yld := fun i H v H' => ∃ T x, v = .ref T ∧ H T = none ∧ H' = upd H T (.tup [.int (i : Int), x]) ∧ ∀ xs, SqT K H a xs → xs[i]? = some x
  stop := fun i H => ∃ xs, SqT K H a xs ∧ xs.length = i
theorem tup_enum_ne {h : Heap} {a e it : Addr} {items : Array Value} {i : Int} {old : Value} (ht : h.IsTuple a items) (he : IsEnum h e it i old) : e ≠ a := fun z => by
  obtain ⟨o, h1, h2, _⟩ := ht
  rw [← z, he] at h1
  cases h1
  exact absurd (show Value.type "enumerate" = Value.type "tuple" from h2) (by decide)
theorem tup_iter_ne {h : Heap} {a it l : Addr} {items : Array Value} {i : Nat} (ht : h.IsTuple a items) (he : h.IsTupleIter it l i) : a ≠ it := fun z => by
  obtain ⟨o, h1, h2, _⟩ := ht
  obtain ⟨o', h3, h4, _⟩ := he
  rw [z, h3] at h1
  cases h1
  rw [h4] at h2
  exact absurd h2 (by decide)
theorem turn_enumT {P : Program} {w : World} {K : PySem.W.Frag} {elts : List Expr} {kk : Nat} {tpos : Pos} (a e it : Addr) : Turn P w K (.Tuple elts kk tpos) (Ietup K a) [e, it] e (fun i h => (∃ old, IsEnum h e it (i : Int) old) ∧ h.IsTupleIter it a i ∧ e ≠ it) := by
  refine ⟨by simp, fun i h st b hb => ?_, fun i h h' st k => ?_, fun X hP hw hK hc i pins s σ H E I hf st hg => ?_, fun X hP hw hK hc i pins s σ H E I hf st hg => ?_, fun A i s Q E st h => ?_⟩
  · obtain ⟨⟨old, he⟩, ⟨o, ho, hcl, hd⟩, _⟩ := st
    rcases List.mem_cons.mp hb with z | hb
    · subst z
      exact ⟨_, he, fun v q => nomatch q⟩
    · rw [List.mem_singleton.mp hb]
      refine ⟨o, ho, fun v q => ?_⟩
      rw [hd] at q
      cases q
  · obtain ⟨⟨old, he⟩, hi, hne⟩ := st
    exact ⟨⟨old, k e (by simp) _ he⟩, hi.at fun o q => k it (by simp) o q, hne⟩
  · subst hP hw hK
    obtain ⟨⟨old, he⟩, hit, hne⟩ := st
    obtain ⟨xs, x, hq, hx⟩ := hg
    obtain ⟨its, rv, p, hz⟩ := I.tuple hq
    have ht : s.heap.IsTuple a its.toArray := p
    have ea := tup_enum_ne ht he
    have ai := tup_iter_ne ht hit
    have hl := rv.length
    have hin : i < its.toArray.size := by
      rw [List.size_toArray, ← hl]
      exact (List.getElem?_eq_some_iff.mp hx).1
    refine wpAny_pyNext_enum_itemD (Draws.tuple (A := X.A.in1) (I.ok.hd hc) it a ai its.toArray) he ⟨hit, ht⟩ hin hne (by simp [hne, ea]) fun u h' tk hu ho st' hT hsz hk => ⟨.ref s.heap.objs.size, rfl, ?_⟩
    refine wpAny_letOwnedTupleGo_enum ho fun h'' he' sb => ?_
    have hel : e < s.heap.objs.size := Heap.lt_size he
    have hil : it < s.heap.objs.size := by
      obtain ⟨o, ho, _⟩ := hit
      exact Heap.lt_size ho
    have hT2 : h''.get? s.heap.objs.size = _ := (sb.2 s.heap.objs.size (Nat.ne_of_gt hel)).trans hT
    have hu' : its[i]? = some u := by simpa using hu
    obtain ⟨x', hx', ru⟩ := vals_at rv hu'
    have exx : x' = x := Option.some.inj (hx'.symm.trans hx)
    subst exx
    have new : ObjOk X.prog X.w (upd H s.heap.objs.size (.tup [.int (i : Int), x'])) h'' s.heap.objs.size (.tup [.int (i : Int), x']) :=
      ⟨by show 2 ≤ sizeLine; decide, [.int (i : Int) tk, u], .cons ⟨tk, rfl⟩ (.cons ru .nil), ⟨_, hT2, rfl, 0, rfl⟩⟩
    have kept : ∀ (b : Addr) (o : Obj), b ∉ [e, it] → s.heap.get? b = some o → h''.get? b = some o := fun b o hb q => by
      have n1 : b ≠ e := fun z => hb (by simp [z])
      have n2 : b ≠ it := fun z => hb (by simp [z])
      exact (sb.2 b n1).trans (hk b o n1 n2 q)
    have I1 := I.turnedNew (t' := tk + 1) kept hf (Nat.le_refl _) new
    refine ⟨.ref s.heap.objs.size, _, I1, rfl, ⟨s.heap.objs.size, x', rfl, I.hok.fresh (Nat.le_refl _), rfl, fun ys hy => ?_⟩, ⟨⟨u, ?_⟩, st'.1.at fun o q => (sb.2 it hne.symm).trans q, hne⟩, fun b hb => ?_⟩
    · obtain ⟨its2, rv2, p2, _⟩ := I.tuple hy
      have ht2 : s.heap.IsTuple a its2.toArray := p2
      have ei : its2.toArray = its.toArray := by
        obtain ⟨o, a1, a2, n, a3⟩ := ht
        obtain ⟨o', b1, b2, n', b3⟩ := ht2
        rw [a1] at b1
        cases b1
        rw [a3] at b3
        cases b3
        rfl
      have ei' : its2 = its := by
        have := congrArg Array.toList ei
        simpa using this
      subst ei'
      obtain ⟨y, hy1, ry⟩ := vals_at rv2 hu'
      rw [RelV.inj ru ry]
      exact hy1
    · have e1 : ((i : Int) + 1) = ((i + 1 : Nat) : Int) := rfl
      rw [← e1]
      exact he'
    · have hb' : b < s.heap.objs.size := by
        rcases List.mem_cons.mp hb with z | hb
        · rw [z]
          exact hel
        · rw [List.mem_singleton.mp hb]
          exact hil
      rw [upd_ne (Nat.ne_of_lt hb')]
      exact (hf b hb).1
  · subst hP hw hK
    obtain ⟨⟨old, he⟩, hit, hne⟩ := st
    obtain ⟨xs, hq, hx⟩ := hg
    obtain ⟨its, rv, p, hz⟩ := I.tuple hq
    have ht : s.heap.IsTuple a its.toArray := p
    have ai := tup_iter_ne ht hit
    obtain ⟨f0, f1, f2, f3, f4, f5⟩ := hf it (by simp)
    have sz : its.toArray.size = i := by rw [List.size_toArray, ← rv.length, hx]
    refine wpAny_pyNext_enum_endD (Draws.tuple (A := X.A.in1) (I.ok.hd hc) it a ai its.toArray) he ⟨by rw [sz]; exact hit, ht⟩ fun h' eb => ⟨rfl, I.turned (fun b o hb q => eb b o hb q) f0 f1 f3 f4 f5⟩
  · obtain ⟨⟨_, he⟩, _⟩ := st
    exact wpAny_pyIter_enum he h
def iEnumT (K : PySem.W.Frag) (ta : TA) : TI := fun σ H R => ta σ H fun vs H1 => ∃ a xs, vs = [.ref a] ∧ SqT K H1 a xs ∧ R (Ietup K a) H1
theorem pi_enumT {X : Cx} {e : Expr} {ta : TA} {p pos tpos : Pos} {elts : List Expr} {kk : Nat} (hg : Gl X "enumerate") (hm : X.mg "enumerate" = none) (ha : PA X [e] ta) (hs : starEach [e] X.env = [(false, eval e X.env)] := by rfl) : PI X (.Tuple elts kk tpos) (.Call (.Name "enumerate" p) [e] [] pos) (iEnumT X.K ta) := by
  refine ⟨fun pins s σ H R I h => Call_ (ld_blt I hg hm boot_enumerate (PyProof.Rows.callWith_type1 (thn (ha.run pos pins s σ H _ I h) fun us s1 ⟨vs, H1, I1, r1, a, xs, ex, hq, q⟩ => ?_) hs rfl) (by decide) (by decide)) rfl⟩
  subst ex
  rw [Vals.ref1 r1]
  obtain ⟨its, rv, p', hz⟩ := I1.tuple hq
  refine call_enumT p' fun h' he hit hsz hk => ?_
  refine wpAny_pyIter_enum he ?_
  have I2 := I1.kept (t' := s1.toks) hk
  refine ⟨s1.heap.objs.size + 1, [s1.heap.objs.size + 1, s1.heap.objs.size], _, Ietup X.K a, H1, rfl, I2, turn_enumT a (s1.heap.objs.size + 1) s1.heap.objs.size, ⟨⟨_, he⟩, hit, Nat.succ_ne_self _⟩, fun b hb => ?_, q⟩
  rcases List.mem_cons.mp hb with z | hb
  · subst z
    exact I1.fpOk (Nat.le_succ _) (I1.hok.fresh (Nat.le_succ _))
  · rw [List.mem_singleton.mp hb]
    exact I1.fpOk (Nat.le_refl _) (I1.hok.fresh (Nat.le_refl _))
end Rw
namespace Rw
open PySem PySem.Spec PyProof.Rows L2
/-! ### walks over enumerate(tuple); instances made of starred arguments -/
theorem for_enumT {K : PySem.W.Frag} {a : Addr} {xs : List V} {g : TG} {tb : TS} {D : Ends} {σ : L2.St} {H : Hp} (Pv : Nat → L2.St → Hp → Prop) (h0 : Pv 0 σ H) (hl : ∀ i σ H, i ≤ xs.length → Pv i σ H → SqT K H a xs)
    (hs : ∀ i x σ H T, xs[i]? = some x → Pv i σ H → H T = none → g (.ref T) σ (upd H T (.tup [.int (i : Int), x])) fun σ2 H2 => tb { nx := Pv (i + 1), rt := D.rt, bk := D.nx, ct := Pv (i + 1) } σ2 H2) (hd : ∀ σ H, Pv xs.length σ H → D.nx σ H) :
    ∃ W : Nat → Nat → L2.St → Hp → Prop, (∃ m, W 0 m σ H) ∧ ∀ i m σ H, W i m σ H → ((Ietup K a).stop i H ∧ D.nx σ H) ∨ ((Ietup K a).go i H ∧ ∃ N : L2.St → Hp → Prop, (∀ σ' H', N σ' H' → ∃ m', m' < m ∧ W (i + 1) m' σ' H') ∧
      ∀ x H', (Ietup K a).yld i H x H' → g x σ H' fun σ2 H2 => tb { nx := N, rt := D.rt, bk := D.nx, ct := N } σ2 H2) := by
  refine ⟨fun i m σ H => m = xs.length - i ∧ i ≤ xs.length ∧ Pv i σ H, ⟨xs.length, by simp, Nat.zero_le _, h0⟩, ?_⟩
  rintro i m σ H ⟨rfl, hi, p⟩
  have hS := hl i σ H hi p
  by_cases hlt : i < xs.length
  · refine .inr ⟨⟨xs, xs[i], hS, List.getElem?_eq_getElem hlt⟩, Pv (i + 1), fun σ' H' p' => ⟨xs.length - (i + 1), by omega, rfl, hlt, p'⟩, fun y H' yy => ?_⟩
    obtain ⟨T, x, rfl, hT, rfl, hx⟩ := yy
    exact hs i x σ H T (hx xs hS) p hT
  · have e : i = xs.length := by omega
    subst e
    exact .inl ⟨⟨xs, hS, rfl⟩, hd σ H p⟩
def tMakeS (K : PySem.W.Frag) (C : Addr) (sp : Sp) (E : XK) (te : TE) : TE := fun σ H Q => te σ H fun y H1 => ∃ a xs, y = V.ref a ∧ (SqT K H1 a xs ∨ SqL K H1 a xs) ∧ ∀ x dx, H1 x = none → H1 dx = none → dx ≠ x → sp (V.ref x :: xs) (upd (upd H1 dx (.own x)) x (.ins C dx [])) (fun v H2 => v = .non ∧ Q (.ref x) H2) E
/-- C(*e), C a class of the module -/
theorem pe_makeS {X : Cx} {CX : CXT} {k : Nat} {f C : Addr} {sp : Sp} {E : XK} {x : Str} {e : Expr} {te : TE} {p sp_ pos : Pos} (M : Mk X.K C f) (F : FnR X.prog X.w X.K X.mg X.base CX k f sp) (hr : Room (k + 1) X.A) (hg : Gl X x) (hm : X.mg x = some (.ref C)) (hx : Passes CX X E) (he : PE X e te)
    (hd : (x == ("__debug__" : Str)) = false := by rfl) (hst : starEach [e.Starred sp_] X.env = [(true, eval e X.env)] := by rfl) : PE X (.Call (.Name x p) [.Starred e sp_] [] pos) (tMakeS X.K C sp E te) :=
  ⟨fun pins s σ H Q I h => wpAny_Call_Name_kw (ld_glob I hg hm (PySem.W.callWith_S I.ok.mod.kin M.kp (thn (he.run pins s σ H _ I h) fun v s1 ⟨y, H1, I1, ry, a, xs, ey, hxs, q⟩ => by
    subst ey
    obtain rfl : v = Value.ref a := ry
    exact StX.star_any I1 hxs fun us s2 I2 rv => ⟨Inv.kIn I2, StX.run_makeR M F hr hx I2 rv q⟩) hst) hd)⟩
/-- cls(*e), cls a local name that holds the class -/
theorem pe_makeSL {X : Cx} {CX : CXT} {k i : Nat} {f C : Addr} {sp : Sp} {E : XK} {x : Str} {e : Expr} {te : TE} {p sp_ pos : Pos} (M : Mk X.K C f) (F : FnR X.prog X.w X.K X.mg X.base CX k f sp) (hr : Room (k + 1) X.A) (hN : X.N[i]? = some x) (hv : Vis X.env.scope x) (hx : Passes CX X E) (he : PE X e te)
    (hd : (x == ("__debug__" : Str)) = false := by rfl) (hcd : (x == ("__classdict__" : Str)) = false := by rfl) (hst : starEach [e.Starred sp_] X.env = [(true, eval e X.env)] := by rfl) :
    PE X (.Call (.Name x p) [.Starred e sp_] [] pos) (fun σ H Q => σ[i]? = some (some (.ref C)) ∧ tMakeS X.K C sp E te σ H Q) := by
  refine ⟨fun pins s σ H Q I ⟨hs, h⟩ => wpAny_Call_Name_kw (thn ((pe_var hN hv hd hcd).run pins s σ H (fun v H1 => v = V.ref C ∧ H1 = H) I ⟨.ref C, hs, rfl, rfl⟩) fun u s1 ⟨v, H0, I1, r1, ev, eH⟩ => ?_)⟩
  subst ev eH
  obtain rfl : u = Value.ref C := r1
  exact PySem.W.callWith_S I1.ok.mod.kin M.kp (thn (he.run pins s1 σ _ _ I1 h) fun v s1 ⟨y, H1, I1, ry, a, xs, ey, hxs, q⟩ => by
    subst ey
    obtain rfl : v = Value.ref a := ry
    exact StX.star_any I1 hxs fun us s2 I2 rv => ⟨Inv.kIn I2, StX.run_makeR M F hr hx I2 rv q⟩) hst
theorem fnr_of {P : Program} {w : World} {K : PySem.W.Frag} {mg : Str → Option Value} {base : Heap} {CX : CXT} {k : Nat} {f : Addr} {fd : FuncData} {ps : List Str} {sp : Sp} (F : FnOk P w K mg base CX k f fd ps sp) (b : Binds K fd ps []) : FnR P w K mg base CX k f sp := fun A outer s H us vs Q E hr e0 r h => by
  have hl := F.len vs H Q E h
  have ul : us.length = ps.length := by rw [← r.length, hl]
  have z := b s us (PySem.W.Frag.In.keeps e0.mod.kin fun b o e => (e0.bs b o e).1) (by rw [List.append_nil]; exact ul)
  rw [List.append_nil] at z
  exact F.run A outer s H _ us vs Q E hr e0 z r h
end Rw
namespace Rw
open PySem PySem.Spec PyProof.Rows L2
/-! ### rules: heads, denied, needs, bars -/
abbrev Rl := W × W × W × W
def parts (r : Rl) : List W := [r.1, r.2.1, r.2.2.1, r.2.2.2]
def rd (r : Rl) : PyData := .tuple ((parts r).map wd)
structure IsR (r : Rl) : Prop where
  h : IsW r.1
  d : IsW r.2.1
  n : IsW r.2.2.1
  b : IsW r.2.2.2
theorem IsR.all {r : Rl} (h : IsR r) : ∀ t ∈ parts r, IsW t := fun t ht => by
  unfold parts at ht
  simp only [List.mem_cons, List.mem_nil_iff, or_false] at ht
  rcases ht with e | e | e | e <;> subst e
  · exact h.h
  · exact h.d
  · exact h.n
  · exact h.b
theorem wds_inj : ∀ {a b : List W}, a.map wd = b.map wd → a = b
  | [], [], _ => rfl
  | [], _ :: _, h => by simp at h
  | _ :: _, [], h => by simp at h
  | x :: a, y :: b, h => by
    simp only [List.map_cons, List.cons.injEq] at h
    rw [wd_inj h.1, wds_inj h.2]
theorem rd_inj {p q : Rl} (h : rd p = rd q) : p = q := by
  unfold rd at h
  injection h with h
  have z := wds_inj h
  unfold parts at z
  simp only [List.cons.injEq, and_true] at z
  obtain ⟨h1, h2, h3, h4⟩ := z
  exact Prod.ext h1 (Prod.ext h2 (Prod.ext h3 h4))
theorem ok_rd (r : Rl) : okD (rd r) = true := by
  unfold rd
  rw [okD]
  exact okDs_wd _
theorem depthAll_wd : ∀ L : List W, PyData.depthAll (L.map wd) ≤ 1
  | [] => by simp [PyData.depthAll]
  | x :: L => by
    have := depthAll_wd L
    rw [List.map_cons, PyData.depthAll, depth_wd]
    omega
theorem depth_rd (r : Rl) : (rd r).depth ≤ 2 := by
  have := depthAll_wd (parts r)
  unfold rd
  rw [PyData.depth]
  omega
theorem good_rd (r : Rl) : Good (rd r) := ⟨ok_rd r, Nat.le_trans (depth_rd r) (by decide), ⟨_, rfl⟩⟩
theorem lay_wds : ∀ {L : List W}, (∀ t ∈ L, IsW t) → PyData.canLayAll0 (L.map wd) = true
  | [], _ => by simp [PyData.canLayAll0]
  | t :: L, h => by
    rw [List.map_cons, PyData.canLayAll0, lay_wds fun y hy => h y (List.mem_cons_of_mem _ hy), lay_wd (h t List.mem_cons_self).names]
    rfl
theorem lay_rd {r : Rl} (h : IsR r) : (rd r).canLay0 = true := by
  unfold rd
  rw [PyData.canLay0]
  exact lay_wds h.all
theorem shaped_rd {r : Rl} (h : IsR r) : SeqAt.shaped (rd r) = true := shaped_of (lay_rd h) (Nat.le_trans (depth_rd r) (by decide))
theorem alike_wds : ∀ a b : List W, PySem.W.alikeAll (a.map wd) (b.map wd) = true
  | [], _ => by simp [PySem.W.alikeAll]
  | _ :: _, [] => by simp [PySem.W.alikeAll]
  | x :: a, y :: b => by
    rw [List.map_cons, List.map_cons, PySem.W.alikeAll, alike_wds a b, alike_wd]
    rfl
theorem alike_rd (p q : Rl) : PySem.W.alike (rd p) (rd q) = true := by
  unfold rd
  rw [PySem.W.alike]
  exact alike_wds _ _
theorem eqv_wds : ∀ a b : List W, PyData.eqvAll (a.map wd) (b.map wd) = decide (a = b)
  | [], [] => by simp [PyData.eqvAll]
  | [], _ :: _ => by simp [PyData.eqvAll]
  | _ :: _, [] => by simp [PyData.eqvAll]
  | x :: a, y :: b => by
    rw [List.map_cons, List.map_cons, PyData.eqvAll, eqv_wds a b, eqv_wd]
    by_cases h : x = y
    · subst h
      by_cases h2 : a = b <;> simp [h2]
    · simp [h]
theorem eqv_rd (p q : Rl) : PyData.eqv (rd p) (rd q) = decide (p = q) := by
  have e : (p = q) ↔ (parts p = parts q) := ⟨fun h => by rw [h], fun h => rd_inj (by unfold rd; rw [h])⟩
  unfold rd
  rw [PyData.eqv, eqv_wds]
  by_cases h : parts p = parts q
  · rw [decide_eq_true h, decide_eq_true (e.mpr h)]
  · rw [decide_eq_false h, decide_eq_false fun z => h (e.mp z)]
theorem rules_one {R R' : List Rl} (r1 : Rising (R.map rd)) (r2 : Rising (R'.map rd)) (n1 : R.Nodup) (n2 : R'.Nodup) (h : ∀ p, p ∈ R ↔ p ∈ R') : R = R' :=
  rising_one alike_rd (fun p q e => by rw [eqv_rd] at e; exact of_decide_eq_true e) r1 r2 n1 n2 h
theorem okDs_rd (R : List Rl) : okDs (R.map rd) = true := okDs_all fun d hd => by
  obtain ⟨p, _, rfl⟩ := List.mem_map.mp hd
  exact ok_rd p
theorem all_rd : ∀ {ds : List PyData}, (∀ d ∈ ds, ∃ p, d = rd p) → ∃ R : List Rl, ds = R.map rd
  | [], _ => ⟨[], rfl⟩
  | d :: ds, h => by
    obtain ⟨p, rfl⟩ := h d List.mem_cons_self
    obtain ⟨R, rfl⟩ := all_rd fun e he => h e (List.mem_cons_of_mem _ he)
    exact ⟨p :: R, rfl⟩
theorem rd_mem {R : List Rl} {p : Rl} : rd p ∈ R.map rd ↔ p ∈ R :=
  ⟨fun h => by obtain ⟨q, hq, e⟩ := List.mem_map.mp h; rw [← rd_inj e]; exact hq, fun h => List.mem_map.mpr ⟨p, h, rfl⟩⟩
theorem Stay.rd {K : PySem.W.Frag} {H H' : Hp} {x : V} {r : Rl} (e : Stay H H') (h : Dp K H x (Rw.rd r)) : Dp K H' x (Rw.rd r) := e.dp _ _ (ok_rd r) h
theorem of_rd {K : PySem.W.Frag} {H : Hp} {x : V} {r : Rl} (h : Dp K H x (rd r)) : ∃ a v1 v2 v3 v4, x = .ref a ∧ SqT K H a [v1, v2, v3, v4] ∧ Dp K H v1 (wd r.1) ∧ Dp K H v2 (wd r.2.1) ∧ Dp K H v3 (wd r.2.2.1) ∧ Dp K H v4 (wd r.2.2.2) := by
  unfold rd parts at h
  cases h with
  | tup h1 h2 =>
    cases h2 with
    | cons a1 t =>
      cases t with
      | cons a2 t =>
        cases t with
        | cons a3 t =>
          cases t with
          | cons a4 t =>
            cases t
            exact ⟨_, _, _, _, _, rfl, h1, a1, a2, a3, a4⟩
theorem to_rd {K : PySem.W.Frag} {H : Hp} {a : Addr} {v1 v2 v3 v4 : V} {r : Rl} (h : SqT K H a [v1, v2, v3, v4]) (h1 : Dp K H v1 (wd r.1)) (h2 : Dp K H v2 (wd r.2.1)) (h3 : Dp K H v3 (wd r.2.2.1)) (h4 : Dp K H v4 (wd r.2.2.2)) : Dp K H (.ref a) (rd r) :=
  .tup h (.cons h1 (.cons h2 (.cons h3 (.cons h4 .nil))))
/-- a sorted list without repetition -/
structure Srt (S L : List Rl) : Prop where
  nd : S.Nodup
  ris : Rising (S.map rd)
  mem : ∀ p, p ∈ S ↔ p ∈ L
theorem Srt.one {S S' L L' : List Rl} (a : Srt S L) (b : Srt S' L') (h : ∀ p, p ∈ L ↔ p ∈ L') : S = S' := rules_one a.ris b.ris a.nd b.nd fun p => (a.mem p).trans ((h p).trans (b.mem p).symm)
/-! ### sorted(set(xs)) of rules -/
section
variable {X : Cx}
/-- set(xs), xs a list or a tuple of rules -/
def rSetR (K : PySem.W.Frag) (w : World) : List V → Hp → VK → Prop := fun vs H Q => ∃ (l : Addr) (xs : List V) (L : List Rl), vs = [.ref l] ∧ (SqL K H l xs ∨ SqT K H l xs) ∧ DpAll K H xs (L.map rd) ∧ L.length < 64 ∧
  ∀ a M, H a = none → (∀ p ∈ M, Good p.2 ∧ Dp K H (.ref p.1) p.2) → (∀ p ∈ M, ∃ r ∈ L, p.2 = rd r) → (∀ r ∈ L, rd r ∈ M.map (·.2)) → Q (.ref a) (upd H a (TSetO w a M))
theorem cr_setR (hc : X.calm = true) (hu : X.A.units + 64 < cLine) : CallR X (.type "set") (rSetR X.K X.w) := fun pins s σ H vs us Q I r ⟨l, xs, L, e, hl, hd, few, q⟩ =>
  cr_setT hc hu pins s σ H vs us Q I r ⟨l, xs, L.map rd, e, hl, hd, (fun d hd => by obtain ⟨p, _, rfl⟩ := List.mem_map.mp hd; exact good_rd p), by rw [List.length_map]; exact few, fun a M ha hM hall => by
    have isP : ∀ e ∈ M, ∃ p ∈ L, e.2 = rd p := fun e he => by
      obtain ⟨p, hp, ep⟩ := List.mem_map.mp (hM e he).1
      exact ⟨p, hp, ep.symm⟩
    refine q a M ha (fun e he => ?_) isP fun r hr => hall _ (List.mem_map.mpr ⟨r, hr, rfl⟩)
    obtain ⟨p, _, ep⟩ := isP e he
    exact ⟨by rw [ep]; exact good_rd p, (hM e he).2⟩⟩
/-- sorted(a set of rules) -/
def rSortR (K : PySem.W.Frag) (w : World) : List V → Hp → VK → Prop := fun vs H Q => ∃ (a : Addr) (M : List (Addr × PyData)) (L : List Rl), vs = [.ref a] ∧ H a = some (TSetO w a M) ∧ (∀ p ∈ M, Good p.2 ∧ Dp K H (.ref p.1) p.2) ∧ (∀ p ∈ M, ∃ r ∈ L, p.2 = rd r) ∧ (∀ r ∈ L, rd r ∈ M.map (·.2)) ∧
  ∀ (ys : List V) (S : List Rl) (p : Addr), Srt S L → S.length < 64 → DpAll K H ys (S.map rd) → H p = none → Q (.ref p) (upd H p (.lst ys))
theorem cr_sortR (hc : X.calm = true) (hu : X.A.units + 64 < cLine) : CallR X (.builtin "sorted") (rSortR X.K X.w) := fun pins s σ H vs us Q I r ⟨a, M, L, e, ha, hM, isP, hall, q⟩ =>
  cr_sortT hc hu pins s σ H vs us Q I r ⟨a, M, e, ha, hM, (fun d hd d' hd' => by
    obtain ⟨e, he, rfl⟩ := List.mem_map.mp hd
    obtain ⟨e', he', rfl⟩ := List.mem_map.mp hd'
    obtain ⟨p, _, ep⟩ := isP e he
    obtain ⟨p', _, ep'⟩ := isP e' he'
    rw [ep, ep']
    exact alike_rd p p'), fun ys ds p perm nd lt ris hys hp' => by
    obtain ⟨S, rfl⟩ := all_rd (ds := ds) fun d hd => by
      obtain ⟨e, he, rfl⟩ := List.mem_map.mp (perm.mem_iff.mp hd)
      obtain ⟨p, _, ep⟩ := isP e he
      exact ⟨p, ep⟩
    rw [List.length_map] at lt
    refine q ys S p ⟨nodup_of_map nd, ris, fun p => ?_⟩ lt hys hp'
    rw [← rd_mem, perm.mem_iff]
    constructor
    · intro hm
      obtain ⟨e, he, ee⟩ := List.mem_map.mp hm
      obtain ⟨p', hp', ep⟩ := isP e he
      rw [← rd_inj (ep.symm.trans ee)]
      exact hp'
    · intro hm
      exact hall _ hm⟩
end
end Rw
namespace Rw
open PySem PySem.Spec PyProof.Rows L2
/-! ### an error that was caught and kept -/
/-- an error of the class cls at a, whose own dict is d -/
def ExH (cls : Value) (d : Option Addr) (a : Addr) : HO := .ext fun h => ∃ oe vs, h.get? a = some oe ∧ Zc cls d oe ∧ oe.data = .fields vs
def wKeep (K : PySem.W.Frag) (c : Value) (i j : Nat) (D : Ends) : WX := fun cls d σ H => PySem.W.exmOne K cls c = some true ∧ ∀ a, H a = none → D.nx (((σ.set i (some (.ref a))).set j (some (.ref a))).set i none) (upd H a (ExH cls d a))
/-- an error's object is tracked from now on -/
theorem keep_inv {X : Cx} {pins : List (Addr × Obj)} {σ : L2.St} {H : Hp} {s : Shared} {a : Addr} {oe : Obj} {cls : Value} {d : Option Addr} {vs : Array Value} (I : Inv X pins σ H s) (he : s.heap.get? a = some oe) (hz : Zc cls d oe) (hd : oe.data = .fields vs) (hH : H a = none) (nL : a ≠ X.env.locals)
    (h0 : X.s_0.heap.get? a = none) (hp : ∀ p ∈ X.pn ++ pins, p.1 ≠ a) : Inv X pins σ (upd H a (ExH cls d a)) s := by
  have cell : ∀ x c, X.env.cells.lookup x = some c → c ≠ a := fun x c e z => by
    obtain ⟨v, o, h1, h2⟩ := I.cell x c e
    rw [z, he] at h1
    cases h1
    rw [hd] at h2
    cases h2
  refine ⟨I.ok, I.os, I.bare, ?_, I.loc, I.cell, ?_, fun x c e => ?_, fun p hpm => ?_, fun b o hb => ?_, I.len⟩
  · have u := I.base
    refine ⟨u.keep, u.slot, fun b o e1 e2 e3 => ?_, u.there, fun b xs e => ?_, fun b o w' e => ?_, fun b ps e => ?_⟩
    · have nb : b ≠ a := fun z => by
        rw [z, h0] at e1
        cases e1
      rw [upd_ne nb]
      exact u.free b o e1 e2 e3
    · have z := u.tups b xs e
      rw [upd_ne (ne_of_none z hH)]
      exact z
    · have z := u.frzs b o w' e
      rw [upd_ne (ne_of_none z hH)]
      exact z
    · obtain ⟨more, z⟩ := u.tbls b ps e
      refine ⟨more, ?_⟩
      rw [upd_ne (ne_of_none z hH)]
      exact z
  · rw [upd_ne nL.symm]
    exact I.free
  · rw [upd_ne (cell x c e)]
    exact I.freeC x c e
  · obtain ⟨p1, p2, p3⟩ := I.pin p hpm
    refine ⟨p1, ?_, p3⟩
    rw [upd_ne (hp p hpm)]
    exact p2
  · have new : ObjOk X.prog X.w (upd H a (ExH cls d a)) s.heap a (ExH cls d a) := ⟨⟨oe, vs, he, hz, hd⟩, ⟨oe, he⟩, fun h1 h2 ⟨oe', vs', e1, e2⟩ kk => ⟨oe', vs', kk oe' e1, e2⟩⟩
    by_cases e : b = a
    · subst e
      rw [upd_same] at hb
      cases hb
      exact new
    · rw [upd_ne e] at hb
      have same : ∀ (b' : Addr) (u : HO), H b' = some u → (upd H a (ExH cls d a)) b' = some u := fun b' u h => by
        rw [upd_ne (ne_of_none h hH)]
        exact h
      exact (I.hok b o hb).stay (fun _ _ _ e => e) (fun b' h => same b' _ h) fun b' xs h => same b' _ h
/-- try: body except x as n: y = n (every error of the body is an x) -/
theorem ps_try_keep {X : Cx} {x n y : Str} {c : Value} {i j : Nat} {body : List Stmt} {np pos pos' p1 p2 p3 : Pos} {tb : WX → TS} (hs : X.stack = X.env :: X.outer) (hf : X.env.frame = some X.env.locals) (hN : X.N.Nodup) (hi : X.N[i]? = some n) (hln : X.env.kindOf n = some .local) (hc : Names X x c)
    (hj : X.N[j]? = some y) (hyl : X.env.scope.names.lookup y = some .local) (hnl : X.env.scope.names.lookup n = some .local) (hex : X.ex = []) (hdb : (n == ("__debug__" : Str)) = false) (hcd : (n == ("__classdict__" : Str)) = false) (hsw : swapsWith (.Name n p2) (some (.Name y p1)) p3.line X.env = pure false)
    (hb : ∀ (W : WX) (pn : List (Addr × Obj)) (xe : Value → Shared → Prop), Takes (X.tr pn xe) W → PassesOwn (model X.prog X.w) X.A X.env xe → PSs (X.tr pn xe) body (tb W)) :
    PS X (.Try body [.ExceptHandler (some (.Name x np)) (some n) [.Assign [.Name y p1] (.Name n p2) p3] pos'] [] [] pos) (fun D σ H => tb (wKeep X.K c i j D) D σ H) := by
  refine ⟨fun pins s σ H D I h => ?_⟩
  have ok := I.ok
  have hfr : X.A.frames = some (X.env :: X.outer) := by rw [ok.frames, hs]
  have hloc : L2.Loc X.env.scope n := Or.inl hln
  refine wpAny_Try_except (wpAny_mono ((hb (wKeep X.K c i j D) (X.pn ++ pins) (fun e s₁ => wpAny (model X.prog X.w) X.A (noteFrame e X.env) (fun _ s₂ => wpAny (model X.prog X.w) X.A (setFlight e none) (fun _ s₃ => wpAny (model X.prog X.w) X.A (handleBy e X.env [.ExceptHandler (some (.Name x np)) (some n) [.Assign [.Name y p1] (.Name n p2) p3] pos']) (SP X pins D) X.xe s₃) X.xe s₂) X.xe s₁) ?_ PassesOwn.looking).run [] s σ H D (I.toTry _) h) ?_ fun e s1 he => he)
  · rintro u s' ⟨a, B, sI, pins', σ', H', cls, d, rfl, J', nb, up, sky, na, os, ag, hb1, hyes⟩
    have J := J'.ofTry ok
    have sky' : Sky B (X.env :: X.outer) a (Zc cls d) X.env.locals s'.heap := by
      rw [← hs]
      exact sky
    refine Sky.land Zc.steady hfr hf sky' fun h3 fl3 up3 => ?_
    have J3 := J.landed (s' := { heap := h3, gens := s'.gens, drawn := s'.drawn, toks := s'.toks, os := s'.os }) nb fl3.left (up.trans up3) os ag
    obtain ⟨oe3, vs3, he3, hz3, hd3⟩ := fl3.there
    have notFr : ∀ {h : Heap} {o : Obj} {vs : Array Value}, h.FunFrames B (X.env :: X.outer) → h.get? a = some o → o.data = .fields vs → a ∉ frs (X.env :: X.outer) := fun ff e dd hm => by
      obtain ⟨_, o', e', hnf⟩ := ff.mem hm
      rw [e] at e'
      cases e'
      exact hnf _ dd
    have nfr := notFr fl3.2.2.1 he3 hd3
    have nL : a ≠ X.env.locals := fun z => nfr (List.mem_filterMap.mpr ⟨X.env, List.mem_cons_self, by rw [hf, z]⟩)
    have nF : a ∉ X.fs := fun hm => by
      obtain ⟨e, he, q⟩ := List.mem_filterMap.mp hm
      exact nfr (List.mem_filterMap.mpr ⟨e, List.mem_cons_of_mem _ he, q⟩)
    have Ba : B.get? a = none := fl3.2.1
    have nfr' : a ∉ frs X.stack := by
      rw [hs]
      exact nfr
    have sIa : sI.heap.get? a = none := by
      cases e : sI.heap.get? a with
      | none => rfl
      | some o =>
        rw [nb a o e nfr'] at Ba
        cases Ba
    have h0 : X.s_0.heap.get? a = none := by
      cases e : X.s_0.heap.get? a with
      | none => rfl
      | some o =>
        obtain ⟨o', e'⟩ := J.base.there a o e (by rw [hex]; exact List.not_mem_nil)
        rw [sIa] at e'
        cases e'
    have hp : ∀ p ∈ X.pn ++ pins, p.1 ≠ a := fun p hpm z => by
      have := (J.pin p hpm).1
      rw [z, sIa] at this
      cases this
    have S3 := J3.suite he3 hd3 na nL nF
    have LT : ∀ (A : Around) (Q : Value → Shared → Prop) (E : Value → Shared → Prop) (s : Shared), (∀ b o, h3.get? b = some o → s.heap.get? b = some o) → Q cls s → wpAny (model X.prog X.w) A (typeOf (.ref a)) Q E s := fun A Q E s k q => wpAny_typeOf_ref (k a oe3 he3) (by rw [hz3.1]; exact q)
    refine wpAny_handleBy_cons (codeAny_handlers_test ?_) (by intro z; cases z)
    have LM := PySem.W.exm_one J3.kIn LT hb1
    have test : ∀ {Q : Value → Shared → Prop} {E : Value → Shared → Prop}, Q c { heap := h3, gens := s'.gens, drawn := s'.drawn, toks := s'.toks, os := s'.os } → wpAny (model X.prog X.w) (X.A.mark (some (.ref a))) (eval (.Name x np) X.env) Q E { heap := h3, gens := s'.gens, drawn := s'.drawn, toks := s'.toks, os := s'.os } := fun {Q E} q => by
      obtain ⟨hg, hdbg, hm | ⟨hm, hv, hnn⟩⟩ := hc
      · exact ld_glob (X := X.suite a ((a, oe3) :: (X.pn ++ pins))) S3 hg hm q hdbg
      · exact ld_blt (X := X.suite a ((a, oe3) :: (X.pn ++ pins))) S3 hg hm hv q hnn hdbg
    refine test (PySem.W.Looks.here LM ?_)
    refine codeAny_handlers_suite_as (HandSPX.lands_againZ fl3 fun h4 fl4 up4 => ?_)
    have J4 := J.landed (s' := { heap := h4, gens := s'.gens, drawn := s'.drawn, toks := s'.toks, os := s'.os }) nb fl4.left ((up.trans up3).trans up4) os ag
    obtain ⟨oe4, vs4, he4, hz4, hd4⟩ := fl4.there
    have S4 := J4.suite he4 hd4 na nL nF
    refine store_ok (X := X.suite a ((a, oe4) :: (X.pn ++ pins))) (v := .ref a) S4 hN hi hloc rfl (fun s5 S5 => ?_) (.inr hnl)
    have suite : PSs (X.suite a ((a, oe4) :: (X.pn ++ pins))) [.Assign [.Name y p1] (.Name n p2) p3] _ := pss_one (ps_asg (pe_var (i := i) hi (.inl hnl) hdb hcd) (pg_name (i := j) hN hj (.inl hyl) (.inr hyl)) hsw)
    have il : i < σ'.length := by
      rw [J.len]
      exact (List.getElem?_eq_some_iff.mp hi).1
    refine wpAny_mono (suite.run [] s5 (σ'.set i (some (.ref a))) H' { nx := fun σ6 H6 => σ6 = (σ'.set i (some (.ref a))).set j (some (.ref a)) ∧ H6 = H', rt := fun _ _ => False } S5 ⟨.ref a, by rw [List.getElem?_set_self il], rfl, rfl⟩) (fun f s6 hsp => ?_) fun e s' z => z.elim
    cases f with
    | next =>
      obtain ⟨σ6, H6, S6, rfl, rfl⟩ := hsp
      have he6 := (S6.pin (a, oe4) (List.mem_append_left _ List.mem_cons_self)).1
      have K6 := keep_inv (Inv.unsuite S6 ok) he6 hz4 hd4 na nL h0 hp
      exact gone_ok K6 hN hi hln fun s7 J7 => ⟨_, _, J7, hyes a na⟩
    | brk =>
      obtain ⟨_, _, _, z⟩ := hsp
      exact z.elim
    | cont =>
      obtain ⟨_, _, _, z⟩ := hsp
      exact z.elim
    | ret v =>
      obtain ⟨_, _, _, _, _, z⟩ := hsp
      exact z.elim
  · intro f s1 hsp
    cases f with
    | next =>
      obtain ⟨σ', H', J', q⟩ := hsp
      exact wpAny_execs_nil ⟨σ', H', J'.ofTry ok, q⟩
    | brk =>
      obtain ⟨σ', H', J', q⟩ := hsp
      exact ⟨σ', H', J'.ofTry ok, q⟩
    | cont =>
      obtain ⟨σ', H', J', q⟩ := hsp
      exact ⟨σ', H', J'.ofTry ok, q⟩
    | ret v =>
      obtain ⟨v', σ', H', J', r, q⟩ := hsp
      exact ⟨v', σ', H', J'.ofTry ok, r, q⟩
end Rw
namespace Rw
open PySem PySem.Spec PyProof.Rows L2
/-! ### what is asked of a kept error -/
open PySem.W in
theorem kin_classD {prog : Program} {w : World} {A : Around} {E : Value → Shared → Prop} {s : Shared} {K : PySem.W.Frag} {x D : Addr} {ox od : Obj} {Q : Option Value → Shared → Prop} (hga : PySem.W.findIn K (.ref D) "__getattribute__" = some (some (.builtin "BaseException.__getattribute__"))) (hgt : PySem.W.findIn K (.ref D) "__getattr__" = some none)
    (hsub : PySem.W.subIn K (.ref D) (.type "BaseException") = some true) (hdct : PySem.W.hasDictIn K D = true) (ha : PySem.W.findIn K (.ref D) "__class__" = some (some (.builtin "object.__class__"))) (hn : PySem.W.specialIn K (.builtin "object.__class__") "__get__" = some (some (.builtin "getset_descriptor.__get__"))) (htk : PySem.W.takesIn K (.builtin "object.__class__") = some true) (hm : PySem.W.mroIn K D (.type "object") = some true)
    (X : K.In s.heap) (I : PySem.W.InstAt s.heap x ox D (some od)) (h : Q (some (.ref D)) { heap := s.heap, gens := s.gens, drawn := s.drawn, toks := s.toks + 1, os := s.os }) : wpAny (model prog w) A (getAttr? (.ref x) "__class__") Q E s := by
  have hf := PySem.W.findObj_data (K := K) (C := D) (od := od) (by obtain ⟨cd, hc, _⟩ := PySem.W.any_some hdct; rw [hc]; rfl) ha hn htk
  obtain ⟨hp, g, d, t, os⟩ := s
  have L0 := PySem.W.InstAt.type (M := model prog w) I
  have L1 := PySem.W.looks_findIn (M := model prog w) X hga
  have L2 := PySem.W.looks_findIn (M := model prog w) X hgt
  have L3 := PySem.W.looks_find (M := model prog w) X I hf
  have sub : PySem.W.Looks (model prog w) hp (typeOf (.ref x) >>= fun t => isSubtype t (.type "BaseException")) true := PySem.W.Looks.andThen L0 (PySem.W.looks_subIn X hsub)
  unfold getAttr?
  refine wpAny_bind (wpAny_mkText (wpAny_bind (wpAny_attempt (wpAny_holding ?_))))
  refine wpAny_bind (PySem.W.Looks.at L0 (wpAny_bind (PySem.W.Looks.at L1 ?_)))
  have c1 : (onTheHeap (Value.ref D) && (Value.builtin "BaseException.__getattribute__" == Value.builtin "object.__getattribute__")) = false := by
    rw [show (Value.builtin "BaseException.__getattribute__" == Value.builtin "object.__getattribute__") = false by decide]
    rfl
  show wpAny _ _ (if (onTheHeap (Value.ref D) && (Value.builtin "BaseException.__getattribute__" == Value.builtin "object.__getattribute__")) = true then _ else _) _ _ _
  rw [c1, if_neg Bool.false_ne_true]
  unfold getAttrByItsOwn
  refine wpAny_bind ?_
  unfold hookBefore
  rw [if_pos (show onTheHeap (Value.ref D) = true from rfl)]
  refine PySem.W.Looks.at L2 (wpAny_bind (wpAny_attempt (wpAny_holding ?_)))
  unfold callGetattribute
  rw [if_neg (show ¬ ((false && onTheHeap (Value.builtin "BaseException.__getattribute__")) = true) from Bool.false_ne_true)]
  unfold boundAndCalled
  rw [F.excAttr_ValueError.ga.bind (Value.ref x)]
  refine wpAny_bind (wpAny_pure ?_)
  show wpAny _ _ (call (Value.builtin "BaseException.__getattribute__") [.ref x, .str "__class__" t]) _ _ _
  refine wpAny_call ?_
  refine codeAny_call_builtin (id := "BaseException.__getattribute__") (b := Builtin.«object.__getattribute__») F.excAttr_ValueError.ga.plain F.entry_bexc_ga ?_
  refine PySem.W.check_slot (i := "BaseException.__getattribute__") (owner := "BaseException") (n := "__getattribute__") (self := .ref x) (rest := [.str "__class__" t]) (kw := []) PySem.W.kin_classE._proof_2 PySem.W.kin_classE._proof_3 sub (F.args_bexc_ga (.ref x) (.str "__class__" t)) ?_
  unfold Builtin.«object.__getattribute__»
  refine wpAny_bind ?_
  refine wpAny_of_eq (a := (Value.ref x, [Value.str "__class__" t])) rfl ?_
  refine wpAny_bind (wpAny_pure (wpAny_bind (PySem.W.Looks.at L0 (wpAny_bind (PySem.W.Looks.at L3 ?_)))))
  unfold Builtin.ObjectAttr.bindTo
  refine wpAny_bind (wpAny_holding (wpAny_call (PySem.W.class_get X I hm (wpAny_pure ?_))))
  show wpAny (model prog w) A (handedOut (.ref D)) _ _ _
  rw [PySem.W.handedOut_of rfl]
  exact wpAny_pure (wpAny_pure h)
theorem cls_at {K : PySem.W.Frag} {D : Addr} (h : PySem.W.hasDictIn K D = true) : ∃ o cd, K.lookup D = some o ∧ o.data = .cls cd := by
  obtain ⟨cd, hc, _⟩ := PySem.W.any_some h
  unfold PySem.W.clsIn at hc
  split at hc
  · rename_i heq
    exact ⟨_, _, heq, rfl⟩
  · cases hc
theorem kitx_excD {K : PySem.W.Frag} {x D : Addr} {ox od : Obj} (C : ExcC K D) : PySem.W.KitX K (.ref x) (.ref D) (fun h => PySem.W.InstAt h x ox D (some od)) := by
  obtain ⟨⟨cl, dc, da, sl⟩, cd, ho, hd⟩ := cls_at C.hd
  refine ⟨fun M h X I => PySem.W.InstAt.type I, fun M h X _ => ?_, fun h tp dd its n sl' X htp => ?_, fun X I k => kin_classD C.hg C.hk C.hs C.hd C.ha C.hn C.ht C.hm X I k⟩
  · subst hd
    intro A' Q' E' s' k q
    exact wpAny_bind (wpAny_loadPart (k D _ (X D _ ho)) (wpAny_pure q))
  · refine Bool.eq_false_iff.mpr fun q => ?_
    have e := Value.ref.inj (beq_iff_eq.mp q)
    subst e
    have z := (X D _ ho).symm.trans htp
    cases z
    cases hd
/-- isinstance(caught, C): None, or a kept error -/
def rIsH (K : PySem.W.Frag) : List V → Hp → VK → Prop := fun xs H Q => ∃ (x c : V) (u : Value), xs = [x, c] ∧ (∀ v, RelV c v → v = u) ∧
  ((x = .non ∧ ∃ b, PySem.W.kitOne K (.type "NoneType") u = some b ∧ Q (.bl b) H) ∨
   (∃ (a D dd : Addr) (fs : List (Str × V)) (b : Bool), x = .ref a ∧ H a = some (ExH (.ref D) (some dd) a) ∧ H dd = some (.xd fs) ∧ ExcC K D ∧ PySem.W.kitOne K (.ref D) u = some b ∧ Q (.bl b) H))
theorem call_isH {X : Cx} : CallR X (.builtin "isinstance") (rIsH X.K) := by
  intro pins s σ H xs us Q I r h
  obtain ⟨x, c, u, rfl, hu, h⟩ := h
  cases r with
  | cons r1 r2 =>
    cases r2 with
    | cons r2 r3 =>
      cases r3
      obtain rfl := hu _ r2
      rcases h with ⟨rfl, b, hk, q⟩ | ⟨a, D, dd, fs, b, rfl, ha, hd, C, hk, q⟩
      · cases r1
        exact PySem.W.kia_one PySem.W.kitx_none I.kIn trivial hk (fun z => nomatch z) fun tk => ⟨.bl b, H, I.tok _, rfl, q⟩
      · obtain ⟨oe, vs, hget, hz, hdat⟩ := (I.hok a _ ha).1
        obtain ⟨mA, hns, hr⟩ := I.hok dd _ hd
        obtain ⟨od, ho, hl⟩ := lookIn_ns hns
        have J : PySem.W.InstAt s.heap a oe D (some od) := ⟨hget, hz.1, by unfold PySem.W.notCls; rw [hdat] <;> rfl, by rw [hz.2]; exact ho⟩
        rw [show _ = Value.ref a from r1]
        exact PySem.W.kia_one (kitx_excD C) I.kIn J hk (fun z => nomatch z) fun tk => ⟨.bl b, H, I.tok _, rfl, q⟩
/-- caught.n -/
def tFldH (C : Addr) (n : Str) (te : TE) : TE := fun σ H Q => te σ H fun x H1 => ∃ (a dd : Addr) (fs : List (Str × V)) (v : V), x = .ref a ∧ H1 a = some (ExH (.ref C) (some dd) a) ∧ H1 dd = some (.xd fs) ∧ fs.lookup n = some v ∧ Q v H1
theorem pe_fldH {X : Cx} {C : Addr} {e : Expr} {te : TE} {pos : Pos} {n : Str} (T : XfC X.K C) (hno : PySem.W.findIn X.K (.ref C) n = some none) (he : PE X e te) (hb : attributeBase e n X.env (eval e X.env) = eval e X.env := by rfl) : PE X (.Attribute e n pos) (tFldH C n te) := by
  refine ⟨fun pins s σ H Q I h => attr_of hb (thn (he.run pins s σ H _ I h) fun u s1 ⟨x, H1, I1, rx, a, dd, fs, v, ex, ha, hdd, l, q⟩ => ?_)⟩
  subst ex
  obtain rfl : u = Value.ref a := rx
  obtain ⟨oe, vs, hget, hz, hdat⟩ := (I1.hok a _ ha).1
  obtain ⟨mA, hns, hr⟩ := I1.hok dd _ hdd
  obtain ⟨od, ho, hl⟩ := lookIn_ns hns
  obtain ⟨u, hu, ru⟩ := RelO.some_of (v := v) (o := mA n) (by rw [← l]; exact hr n)
  have J : PySem.W.InstAt s1.heap a oe C (some od) := ⟨hget, hz.1, by unfold PySem.W.notCls; rw [hdat] <;> rfl, by rw [hz.2]; exact ho⟩
  exact HandSPX.exc_get I1.kIn J T.ga T.gg T.exC (PySem.W.findObj_own T.hdC hno rfl (by rw [hl, hu])) (handed_of ru) ⟨v, H1, I1.tok _, ru, q⟩
end Rw
namespace Rw
open PySem PySem.Spec PyProof.Rows L2
/-! ### own errors with one field -/
/-- __init__(self, n): self.n = n -/
def spErr (C : Addr) (n : Str) : Sp := fun vs H Q _ => ∃ (a : Addr) (v : V), vs = [.ref a, v] ∧ H a = some (exo a C none) ∧ ∀ dx, H dx = none → dx ≠ a → Q .non (upd (upd H dx (exd dx [(n, v)])) a (exo a C (some dx)))
/-- C(v) made: what its making asks -/
theorem err_made {C : Addr} {n : Str} {v : V} {H1 : Hp} {Q : XK} (h : ∀ d, H1 d = none → Q (.ref C) (some d) (upd H1 d (.xd [(n, v)]))) : [v].length ≤ 1000 ∧ ∀ a : Addr, H1 a = none → spErr C n (.ref a :: ([v] ++ [])) (upd H1 a (exo a C none))
    (fun u H2 => u = .non ∧ ∃ d fs, H2 a = some (exo a C (some d)) ∧ H2 d = some (exd d fs) ∧ H1 d = none ∧ Q (.ref C) (some d) (upd (del H2 a) d (.xd fs))) (fun _ _ _ => False) := by
  refine ⟨by simp, fun a ha => ⟨a, v, rfl, upd_same, fun dx hdx ne => ?_⟩⟩
  have hd1 : H1 dx = none := by
    rw [upd_ne ne] at hdx
    exact hdx
  refine ⟨rfl, dx, [(n, v)], upd_same, ?_, hd1, ?_⟩
  · rw [upd_ne ne, upd_same]
  · have e : upd (del (upd (upd (upd H1 a (exo a C none)) dx (exd dx [(n, v)])) a (exo a C (some dx))) a) dx (.xd [(n, v)]) = upd H1 dx (.xd [(n, v)]) := by
      funext b
      by_cases h1 : b = dx
      · subst h1
        rw [upd_same, upd_same]
      · rw [upd_ne h1, upd_ne h1]
        by_cases h2 : b = a
        · subst h2
          unfold del
          rw [ha]
          simp
        · unfold del
          rw [if_neg h2, upd_ne h2, upd_ne h1, upd_ne h2]
    rw [e]
    exact h dx hd1
end Rw
namespace Rw
open PySem PySem.Spec PyProof.Rows L2
/-! ### == and != of instances by their class's own __eq__ -/
section
variable {X : Cx}
def rEqP (C : Addr) (sp : Sp) (E : XK) : R2 := fun x y H Q => ∃ a dx fs b dy gs, x = .ref a ∧ y = .ref b ∧ H a = some (.ins C dx fs) ∧ H b = some (.ins C dy gs) ∧ sp [x, y] H Q E
theorem op_eqP {CX : CXT} {C g : Addr} {n : Nat} {sp : Sp} {E : XK} (hs : PySem.W.findIn X.K (.ref C) "__eq__" = some (some (.ref g))) (hf : PySem.W.isFn X.K (.ref g) = true) (F : FnR X.prog X.w X.K X.mg X.base CX n g sp) (hr : Room n X.A) (hx : Passes CX X E) : OpR X (compareOp .Eq) (rEqP C sp E) := by
  intro pins s σ H x y v u Q I rx ry h
  obtain ⟨a, dx, fs, b, dy, gs, rfl, rfl, ha, hb, q⟩ := h
  obtain rfl : v = Value.ref a := rx
  obtain rfl : u = Value.ref b := ry
  obtain ⟨mA, J, _⟩ := ins_get I.hok ha
  obtain ⟨mB, J', _⟩ := ins_get I.hok hb
  obtain ⟨od, J, _⟩ := J.look
  obtain ⟨od', J', _⟩ := J'.look
  obtain ⟨m, hF⟩ := I.fr
  show wpAny _ _ (richCompare .Eq (.ref a) (.ref b)) _ _ _
  refine PySem.W.cmp_K hr.units0 hF I.ok.mod.kin J J'.type (by simp [PySem.W.notFirst]) hs hf ?_
  refine wpAny_mono (wpAny_call (run_fnR F hr hx I (vs := [.ref a, .ref b]) (.cons rfl (.cons rfl .nil)) q)) (fun r s' h => ?_) fun e s' h => h
  obtain ⟨z, H', I', r, q⟩ := h
  exact SlX.cmpback r ⟨z, H', I', r, q⟩
/-- what the class is, for != -/
structure NeC (K : PySem.W.Frag) (C g : Addr) : Prop where
  cls : ∃ nm q N bs hd sn sub ab col dd k0 k1 k2 k3 k5 nid oN es ep, K.lookup C = some (excClassObj nm q C N bs [.type "object"] hd sn sub ab col dd k0 k1 k2 k3 k5 nid) ∧ K.lookup N = some oN ∧ oN.data = .dict es ep ∧ StrKeys es ∧ nsFind es "__eq__" = some (.ref g) ∧ nsFind es "__ne__" = none
  fn : ∃ og, K.lookup g = some og ∧ og.cls = .type "function"
def rNeP (C : Addr) (sp : Sp) (E : XK) : R2 := fun x y H Q => ∃ a dx fs b dy gs, x = .ref a ∧ y = .ref b ∧ H a = some (.ins C dx fs) ∧ H b = some (.ins C dy gs) ∧ sp [x, y] H (fun v H' => ∃ t, v = .bl t ∧ Q (.bl (!t)) H') E
theorem op_neP {CX : CXT} {C g : Addr} {n : Nat} {sp : Sp} {E : XK} (N : NeC X.K C g) (F : FnR X.prog X.w X.K X.mg X.base CX n g sp) (hr : Room (n + 1) X.A) (hx : Passes CX X E) : OpR X (compareOp .NotEq) (rNeP C sp E) := by
  intro pins s σ H x y v u Q I rx ry h
  obtain ⟨a, dx, fs, b, dy, gs, rfl, rfl, ha, hb, q⟩ := h
  obtain rfl : v = Value.ref a := rx
  obtain rfl : u = Value.ref b := ry
  obtain ⟨mA, J, _⟩ := ins_get I.hok ha
  obtain ⟨mB, J', _⟩ := ins_get I.hok hb
  obtain ⟨od, J, _⟩ := J.look
  obtain ⟨od', J', _⟩ := J'.look
  obtain ⟨nm, q1, NN, bs, hd, sn, sub, ab, col, dd, k0, k1, k2, k3, k5, nid, oN, es, ep, c1, c2, c3, c4, c5, c6⟩ := N.cls
  obtain ⟨og, g1, g2⟩ := N.fn
  have kin := I.kIn
  have own : s.heap.OwnEqNoNe a C g "object" [.type "object"] := ⟨_, og, nm, q1, NN, bs, hd, sn, sub, ab, col, dd, k0, k1, k2, k3, k5, nid, _, _, J.at_, J.cls, kin _ _ c1, ⟨oN, es, ep, kin _ _ c2, c3, c4, fun _ => rfl⟩, c5, kin _ _ g1, g2, PySem.F.cmp_object.mro, PySem.F.cmp_object.eq.lookup, c6⟩
  have un := hr.un
  refine compareOp_ne_ownEq PySem.F.cmp_object own J'.at_ J'.cls (by omega) ?_
  have e0 := I.env0
  have e1 : Env0 X.prog X.w X.K X.mg X.base X.A.in1 X.stack s H := ⟨e0.frames, e0.mod, e0.bs, e0.bsz, e0.funs, e0.frf, e0.hok, e0.bare⟩
  refine wpAny_call (codeAny_mono (F X.A.in1 X.stack s H [.ref a, .ref b] [.ref a, .ref b] _ E hr.in1 e1 (.cons rfl (.cons rfl .nil)) q) fun r s' h => ?_)
  cases r with
  | error e => exact hx pins σ H s e s' I h
  | ok f =>
    cases f with
    | ret v =>
      obtain ⟨z, H', I', r, t, rfl, q⟩ := I.after h
      obtain rfl : v = Value.bool t := r
      exact ⟨t, rfl, .bl (!t), H', I', rfl, q⟩
    | _ => exact h.elim
end
end Rw
namespace Rw
open PySem PySem.Spec PyProof.Rows L2
/-! ### a def without defaults, called by names; C() of a class whose __init__ takes *args -/
theorem kbn_fun {K : PySem.W.Frag} {x qual : Str} {st : Stmt} {f : Addr} {fd : FuncData} {ps : List Str} (F : Fun K x qual st f fd) (n : Nat) (ks : List Str) (g : List Value → List Value → List Value) (gV : List V → List V → List V)
    (h : ∀ (kV doc pm : Value) (an : Option Addr) (cdv ct : Value) (us ws : List Value), us.length = n → ws.length = ks.length → bindArgs (PySem.W.fnOf x qual (defArgs st) (defBody st) (defScope st) .none kV doc pm an cdv ct) { pos := us, kw := ks.zip ws } = pure (ps.zip (g us ws)))
    (rel : ∀ {vs : List V} {us : List Value} {zs : List V} {ws : List Value}, Vals vs us → Vals zs ws → Vals (gV vs zs) (g us ws)) : KBn K fd ps n ks g gV := by
  obtain ⟨oc, od, kV, doc, pm, an, cdv, ct, osl, rfl, lk, hcd⟩ := F.ex
  refine ⟨fun s us ws X l1 l2 => ?_, fun a b => rel a b⟩
  intro M A E Q q
  rw [h kV doc pm an cdv ct us ws l1 l2]
  exact wpAny_pure q
theorem pe_makeR0 {X : Cx} {CX : CXT} {k : Nat} {f C : Addr} {sp : Sp} {E : XK} {x : Str} {p pos : Pos} (M : Mk X.K C f) (F : FnR X.prog X.w X.K X.mg X.base CX k f sp) (hr : Room (k + 1) X.A) (hg : Gl X x) (hm : X.mg x = some (.ref C)) (hx : Passes CX X E)
    (hd : (x == ("__debug__" : Str)) = false := by rfl) : PE X (.Call (.Name x p) [] [] pos) (StX.tMakeR C sp E tNil) :=
  ⟨fun pins s σ H Q I h => wpAny_Call_Name_kw (ld_glob I hg hm (PySem.W.callWith_K0 I.kIn M.kp (StX.run_makeR M F hr hx I Paired.nil h)) hd)⟩
theorem passNo {P : Program} {w : World} {X : Cx} : Passes (L2.CX P w) X (fun _ _ _ => False) := fun pins σ H s e s' _ h => by
  obtain ⟨_, _, _, _, _, _, _, _, _, _, _, _, z⟩ := h
  exact z.elim
end Rw
namespace Rw
open PySem PySem.Spec PyProof.Rows L2
/-! ### the text -/
def topS (i : Nat) : Stmt := PySem.Challenge.pw_ruleworlds_k27_what_sets_of_pairs_refuse.main.body.getD i (.Pass ⟨0, 0, 0, 0⟩)
abbrev sIsName : Stmt := topS 13
abbrev sIsWorld : Stmt := topS 14
abbrev sIsRule : Stmt := topS 15
abbrev sAreNames : Stmt := topS 17
abbrev sSetOf : Stmt := topS 18
abbrev sIsPair : Stmt := topS 25
abbrev sHasAll : Stmt := topS 26
abbrev sCheckWorld : Stmt := topS 29
abbrev sCheckKind : Stmt := topS 30
theorem scIsPair : FnScope ["thing", "here", "there"] ["thing"] (defScope sIsPair) := ⟨rfl, rfl, rfl, by decide +kernel, rfl, by decide +kernel, by decide +kernel⟩
theorem scHasAll : FnScope ["names", "wanted", "name"] ["names", "wanted"] (defScope sHasAll) := ⟨rfl, rfl, rfl, by decide +kernel, rfl, by decide +kernel, by decide +kernel⟩
theorem scCheckWorld : FnScope ["thing"] ["thing"] (defScope sCheckWorld) := ⟨rfl, rfl, rfl, by decide +kernel, rfl, by decide +kernel, by decide +kernel⟩
theorem scCheckKind : FnScope ["thing", "kinds"] ["thing", "kinds"] (defScope sCheckKind) := ⟨rfl, rfl, rfl, by decide +kernel, rfl, by decide +kernel, by decide +kernel⟩
abbrev sInit : Stmt := inClass (topS 16) 0
abbrev sOf : Stmt := inClass (topS 16) 1
abbrev sRules : Stmt := inClass (topS 16) 5
theorem scIsName : FnScope ["thing", "letter"] ["thing"] (defScope sIsName) := ⟨rfl, rfl, rfl, by decide +kernel, rfl, by decide +kernel, by decide +kernel⟩
theorem scIsWorld : FnScope ["thing"] ["thing"] (defScope sIsWorld) := ⟨rfl, rfl, rfl, by decide +kernel, rfl, by decide +kernel, by decide +kernel⟩
theorem scIsRule : FnScope ["thing", "part"] ["thing"] (defScope sIsRule) := ⟨rfl, rfl, rfl, by decide +kernel, rfl, by decide +kernel, by decide +kernel⟩
theorem scAreNames : FnScope ["thing", "item"] ["thing"] (defScope sAreNames) := ⟨rfl, rfl, rfl, by decide +kernel, rfl, by decide +kernel, by decide +kernel⟩
theorem scSetOf : FnScope ["names"] ["names"] (defScope sSetOf) := ⟨rfl, rfl, rfl, by decide +kernel, rfl, by decide +kernel, by decide +kernel⟩
theorem scInit : FnScope ["self", "rules", "place", "row"] ["self", "rules"] (defScope sInit) := ⟨rfl, rfl, rfl, by decide +kernel, rfl, by decide +kernel, by decide +kernel⟩
theorem scOf : FnScope ["cls", "rules"] ["cls", "rules"] (defScope sOf) := ⟨rfl, rfl, rfl, by decide +kernel, rfl, by decide +kernel, by decide +kernel⟩
theorem scRules : FnScope ["self"] ["self"] (defScope sRules) := ⟨rfl, rfl, rfl, by decide +kernel, rfl, by decide +kernel, by decide +kernel⟩
/-- the built-in names that the text does not bind -/
structure Bl (mg : Str → Option Value) : Prop where
  len : mg "len" = none
  isi : mg "isinstance" = none
  all : mg "all" = none
  any : mg "any" = none
  tuple : mg "tuple" = none
  list : mg "list" = none
  sorted : mg "sorted" = none
  set : mg "set" = none
  str : mg "str" = none
  int : mg "int" = none
  max : mg "max" = none
  min : mg "min" = none
  range : mg "range" = none
  enum : mg "enumerate" = none
/-! ### odd values -/
def nameD : PyData → Bool
  | .str x => nameB x
  | _ => false
def oddN : PyData → Prop
  | .str x => x.cps.size ≤ 10000
  | .bool _ => False
  | .dict _ => False
  | _ => True
def tyName : PyData → String
  | .none => "NoneType"
  | .bool _ => "bool"
  | .int _ => "int"
  | .str _ => "str"
  | .list _ => "list"
  | .tuple _ => "tuple"
  | .dict _ => "dict"
theorem tyx_dp {K : PySem.W.Frag} {H : Hp} {x : V} {d : PyData} (h : Dp K H x d) : TyX K H x (.type (tyName d)) := by
  cases h with
  | non => exact .base .non
  | bl b => exact .base (.bl b)
  | int i => exact .base (.int i)
  | str x => exact .base (.str x)
  | lst h1 _ =>
    rcases h1 with (h | ⟨o, h⟩) | ⟨o, its, n, h1, h2, _⟩
    · exact .base (.lst h)
    · exact .base (.frz h)
    · exact .kList h1 h2
  | tup h1 _ => exact tyx_tup h1
section
variable {K : PySem.W.Frag} {H H' : Hp}
mutual
theorem dp_same (e : Same H H') : ∀ (d : PyData) (x : V), Dp K H x d → Dp K H' x d
  | .none, _, h => by cases h; exact .non
  | .bool _, _, h => by cases h; exact .bl _
  | .int _, _, h => by cases h; exact .int _
  | .str _, _, h => by cases h; exact .str _
  | .list ds, _, h => by
    cases h with
    | lst h1 h2 => exact .lst (e.seq h1) (dpAll_same e ds _ h2)
  | .tuple ds, _, h => by
    cases h with
    | tup h1 h2 => exact .tup (same_tup e h1) (dpAll_same e ds _ h2)
  | .dict _, _, h => by cases h
theorem dpAll_same (e : Same H H') : ∀ (ds : List PyData) (xs : List V), DpAll K H xs ds → DpAll K H' xs ds
  | [], _, h => by cases h; exact .nil
  | d :: ds, _, h => by
    cases h with
    | cons h1 h2 => exact .cons (dp_same e d _ h1) (dpAll_same e ds _ h2)
end
end
theorem letter_in {c : Nat} : decide (c ∈ lettersS.cps.toList) = letter c := by
  cases h : letter c with
  | true => exact decide_eq_true (in_letters h)
  | false =>
    refine decide_eq_false fun m => ?_
    have all : (lettersS.cps.toList.all letter) = true := by decide +kernel
    rw [List.all_eq_true.mp all c m] at h
    exact nomatch h
section
variable {P : Program} {w : World} {K : PySem.W.Frag} {mg : Str → Option Value} {base : Heap} {f : Addr} {fd : FuncData} {k : Nat}
/-! ### is_name -/
def spIsName (K : PySem.W.Frag) : Sp := fun vs H Q _ => ∃ (x : V) (d : PyData), vs = [x] ∧ Dp K H x d ∧ oddN d ∧ ∀ H', Same H H' → Q (.bl (nameD d)) H'
theorem ok_isName (F : Fun K "is_name" "is_name" sIsName f fd) (T : Bl mg) (mL : ∃ t, mg "LETTERS" = some (.str lettersS t)) : FnOk P w K mg base CX0 (k + 1) f fd ["thing"] (spIsName K) := by
  refine F.ok scIsName (fun vs H Q E h => ?_) (fun cdv A outer s H vs Q E hr h => ?_)
  · obtain ⟨x, d, rfl, _⟩ := h
    rfl
  obtain ⟨x, d, rfl, hd, odd, q⟩ := h
  obtain ⟨tl, mL⟩ := mL
  refine ⟨_, pss_cons (ps_if (PW.pt (pw_or (pt_not (pt_val (pe_callB call_isi (by rfl) T.isi PyProof.Rows.boot_isinstance (pa_cons (pv 0) (pa_cons (pe_bltn (v := .ty "str") (by rfl) T.str (by decide +kernel) rfl) pa_nil)))))
      (pw_or1 (pt_cmpR op_eq (pv 0) pe_str (nomark _))))) (pss_one (ps_ret pe_bl)) pss_nil)
    (pss_one (ps_ret (pe_and (pe_chain op_le op_le pe_int (pe_callB call_len_str (by rfl) T.len PySem.boot_len (pa_cons (pv 0) pa_nil)) pe_int)
      (pe_one (pe_callB (cr_all rfl) (by rfl) T.all (by decide +kernel) (pa_cons (pe_lc (own := [("letter", 1)]) (g := gName 1) (by rfl) scIsName.nd (pi_str (pv 0)) (blkOk_by (N := ["thing", "letter"]) (sc := defScope sIsName) (by decide +kernel))
        (fun _ _ _ _ _ => pg_name (i := 1) scIsName.nd rfl (Or.inl rfl)) (fun _ _ _ _ _ => pts_nil) (fun _ _ _ _ _ => pe_cmpR op_in_sign (pv 1) (pe_glob (v := .str lettersS) (by rfl) mL ⟨_, rfl⟩) (by rfl))) pa_nil)))))), ?_⟩
  have cases' : (∃ t : String, TyX K H x (.type t) ∧ PySem.W.kitOne K (.type t) (.type "str") = some false ∧ nameD d = false) ∨ ∃ z, d = .str z := by
    have ty := tyx_dp hd
    cases d with
    | none => exact .inl ⟨"NoneType", ty, kit_ty (by decide +kernel), rfl⟩
    | bool _ => exact absurd odd id
    | dict _ => exact absurd odd id
    | int i => exact .inl ⟨"int", ty, kit_ty (by decide +kernel), rfl⟩
    | list ds => exact .inl ⟨"list", ty, kit_ty (by decide +kernel), rfl⟩
    | tuple ds => exact .inl ⟨"tuple", ty, kit_ty (by decide +kernel), rfl⟩
    | str z => exact .inr ⟨z, rfl⟩
  rcases cases' with ⟨t, h1, h2, h3⟩ | ⟨z, rfl⟩
  · refine ⟨x, rfl, x, .ty "str", .type t, .type "str", false, rfl, .ty "str", h1, h2, false, rfl, iteT ?_⟩
    have := q H fun _ _ e => e
    rw [h3] at this
    exact this
  · cases hd
    have few : z.cps.size ≤ 10000 := odd
    refine ⟨.str z, rfl, .str z, .ty "str", .type "str", .type "str", true, rfl, .ty "str", .base (.str z), kit_ty (by decide +kernel), true, rfl, ?_⟩
    refine ⟨.str z, rfl, rfl, _, rfl, ?_⟩
    refine ite2 (fun e => ?_) (fun e => ?_)
    · have ez : z = notS := V.str.inj (of_decide_eq_true e)
      have en : nameB z = false := by
        rw [ez]
        decide +kernel
      have := q H fun _ _ e => e
      rw [show nameD (.str z) = nameB z from rfl, en] at this
      exact this
    · have nz : z ≠ notS := fun h => e (decide_eq_true (by rw [h]; rfl))
      have val : nameB z = (decide (1 ≤ z.cps.size) && (decide (z.cps.size ≤ 8) && z.cps.toList.all letter)) := by
        unfold nameB
        rw [decide_eq_false nz]
        cases z.cps.toList.all letter <;> cases decide (1 ≤ z.cps.size) <;> cases decide (z.cps.size ≤ 8) <;> rfl
      have q' : ∀ H', Same H H' → Q (.bl (decide (1 ≤ z.cps.size) && (decide (z.cps.size ≤ 8) && z.cps.toList.all letter))) H' := fun H' s => by
        have := q H' s
        rw [show nameD (.str z) = nameB z from rfl, val] at this
        exact this
      refine ⟨.str z, rfl, z, rfl, small_line few, 1, z.length, rfl, rfl, decide ((1 : Int) ≤ (z.length : Int)), rfl, ite2 (fun e1 => ?_) (fun e1 => ?_)⟩
      · have h1 : decide (1 ≤ z.cps.size) = true := by
          have := of_decide_eq_true e1
          exact decide_eq_true (by have : (1 : Int) ≤ (z.cps.size : Int) := this; omega)
        rw [h1] at q'
        refine ⟨z.length, 8, rfl, rfl, decide ((z.length : Int) ≤ 8), rfl, ite2 (fun e2 => ?_) (fun e2 => ?_)⟩
        · have h2 : decide (z.cps.size ≤ 8) = true := by
            have := of_decide_eq_true e2
            exact decide_eq_true (by have : (z.cps.size : Int) ≤ 8 := this; omega)
          rw [h2] at q'
          refine ⟨.str z, rfl, z, rfl, fun D hD => ?_⟩
          have s1 : Same H (upd H D (.lst [])) := same_new hD _
          refine lc_sgn (x := z) (fun i H1 => Same H H1 ∧ H1 D = some (.lst ((z.cps.toList.take i).map fun c => V.bl (letter c)))) ⟨s1, upd_same⟩ (fun i c H1 hc hI => ?_) (fun H1 hI => ?_)
          · obtain ⟨sm, hd⟩ := hI
            have hc' : z.cps.toList[i]? = some c := by rw [Array.getElem?_toList]; exact hc
            have il : i < z.cps.size := (Array.getElem?_eq_some_iff.mp hc).1
            refine ⟨rfl, .str ⟨#[c]⟩, rfl, c, lettersS, rfl, rfl, ?_⟩
            rw [letter_in]
            refine ⟨_, hd, small_line' (by rw [List.length_map, List.length_take, Array.length_toList]; omega), same_put sm hD, ?_⟩
            rw [upd_same, take_snoc hc', List.map_append]
            rfl
          · obtain ⟨sm, hd⟩ := hI
            rw [show z.cps.size = z.cps.toList.length by rw [Array.length_toList], List.take_length] at hd
            refine ⟨D, z.cps.toList.map letter, rfl, SqL.of (by rw [List.map_map]; exact hd), ?_⟩
            have eq : (z.cps.toList.map letter).all id = z.cps.toList.all letter := by
              rw [List.all_map]
              rfl
            rw [eq]
            exact q' H1 sm
        · have h2 : decide (z.cps.size ≤ 8) = false := decide_eq_false fun h => e2 (decide_eq_true (by show (z.cps.size : Int) ≤ 8; omega))
          rw [h2] at q'
          exact q' H fun _ _ e => e
      · have h1 : decide (1 ≤ z.cps.size) = false := decide_eq_false fun h => e1 (decide_eq_true (by show (1 : Int) ≤ (z.cps.size : Int); omega))
        rw [h1] at q'
        exact ⟨false, rfl, iteF (q' H fun _ _ e => e)⟩
end
end Rw
namespace Rw
open PySem PySem.Spec PyProof.Rows L2
/-! ### worlds of odd values -/
def strOf : PyData → Str
  | .str x => x
  | _ => notS
theorem strs_of : ∀ {ds : List PyData}, ds.all nameD = true → ds = (ds.map strOf).map PyData.str ∧ ∀ x ∈ ds.map strOf, nameB x = true
  | [], _ => ⟨rfl, fun x hx => nomatch hx⟩
  | d :: ds, h => by
    rw [List.all_cons, Bool.and_eq_true] at h
    obtain ⟨h1, h2⟩ := h
    obtain ⟨e, hn⟩ := strs_of h2
    cases d with
    | str x =>
      refine ⟨by rw [List.map_cons, List.map_cons, ← e]; rfl, fun y hy => ?_⟩
      rw [List.map_cons] at hy
      rcases List.mem_cons.mp hy with z | hy
      · rw [z]
        exact h1
      · exact hn y hy
    | _ => exact absurd h1 (by simp [nameD])
instance (ns : W) : Decidable (UpX ns) := inferInstanceAs (Decidable (ns.Pairwise fun a b => a.cps.toList < b.cps.toList))
def worldD : PyData → Bool
  | .tuple ds => ds.all nameD && decide (UpX (ds.map strOf))
  | _ => false
def oddW : PyData → Prop
  | .tuple ds => (∀ d ∈ ds, oddN d) ∧ ds.length ≤ 40
  | .bool _ => False
  | .dict _ => False
  | _ => True
theorem worldD_wd {ns : W} (h : IsW ns) : worldD (wd ns) = true := by
  unfold worldD wd
  have e1 : ((ns.map PyData.str).all nameD) = true := by
    rw [List.all_map, List.all_eq_true]
    exact fun x hx => h.names x hx
  have e2 : (ns.map PyData.str).map strOf = ns := by
    rw [List.map_map]
    exact List.map_id' ns
  show ((ns.map PyData.str).all nameD && decide (UpX ((ns.map PyData.str).map strOf))) = true
  rw [e1, e2, decide_eq_true h.up]
  rfl
theorem worldD_of {d : PyData} (o : oddW d) (h : worldD d = true) : ∃ ns, IsW ns ∧ d = wd ns := by
  cases d with
  | tuple ds =>
    have h' : (ds.all nameD && decide (UpX (ds.map strOf))) = true := h
    rw [Bool.and_eq_true] at h'
    obtain ⟨h1, h2⟩ := h'
    obtain ⟨e, hn⟩ := strs_of h1
    refine ⟨ds.map strOf, ⟨hn, of_decide_eq_true h2, by rw [List.length_map]; exact o.2⟩, ?_⟩
    unfold wd
    rw [← e]
  | _ => exact nomatch h
theorem oddN_name {x : Str} (h : nameB x = true) : oddN (.str x) := by
  obtain ⟨_, _, h3, _⟩ := nameB_iff.mp h
  show x.cps.size ≤ 10000
  omega
theorem oddW_wd {ns : W} (h : IsW ns) : oddW (wd ns) := ⟨fun d hd => by
  obtain ⟨x, hx, rfl⟩ := List.mem_map.mp hd
  exact oddN_name (h.names x hx), by rw [List.length_map]; exact h.few⟩
theorem shaped_names {ns : W} (h : ∀ x ∈ ns, nameB x = true) : SeqAt.shaped (wd ns) = true := shaped_of (lay_wd h) (by rw [depth_wd]; decide)
/-- a thing offered as a world -/
def WQ (K : PySem.W.Frag) (H : Hp) (x : V) (d : PyData) : Prop := (Dp K H x d ∧ oddW d) ∨ (d = .dict [] ∧ ∃ a, x = .ref a ∧ H a = some (.dK []))
theorem WQ.same {K : PySem.W.Frag} {H H' : Hp} {x : V} {d : PyData} (h : WQ K H x d) (e : Same H H') : WQ K H' x d := by
  rcases h with ⟨h, o⟩ | ⟨h1, a, h2, h3⟩
  · exact .inl ⟨dp_same e _ _ h, o⟩
  · exact .inr ⟨h1, a, h2, e _ _ h3⟩
theorem WQ.wd {K : PySem.W.Frag} {H : Hp} {x : V} {d : PyData} (h : WQ K H x d) (t : worldD d = true) : ∃ ns, IsW ns ∧ d = wd ns ∧ Dp K H x (wd ns) := by
  rcases h with ⟨h, o⟩ | ⟨h1, _⟩
  · obtain ⟨ns, hn, e⟩ := worldD_of o t
    exact ⟨ns, hn, e, by rw [← e]; exact h⟩
  · rw [h1] at t
    exact nomatch t
section
variable {P : Program} {w : World} {K : PySem.W.Frag} {mg : Str → Option Value} {base : Heap} {f : Addr} {fd : FuncData} {k : Nat}
def spAreNames (K : PySem.W.Frag) : Sp := fun vs H Q _ => ∃ (a : Addr) (xs : List V) (ds : List PyData), vs = [.ref a] ∧ SqT K H a xs ∧ DpAll K H xs ds ∧ (∀ d ∈ ds, oddN d) ∧ ds.length ≤ 1000 ∧ ∀ H', Same H H' → Q (.bl (ds.all nameD)) H'
theorem ok_areNames {f1 : Addr} {fd1 : FuncData} (F : Fun K "_are_names" "_are_names" sAreNames f fd) (T : Bl mg) (G : FnOk P w K mg base CX0 k f1 fd1 ["thing"] (spIsName K)) (b1 : Binds K fd1 ["thing"] []) (k1 : PySem.W.keepIn K (.ref f1) = true) (m1 : mg "is_name" = some (.ref f1)) :
    FnOk P w K mg base CX0 (k + 1) f fd ["thing"] (spAreNames K) := by
  refine F.ok scAreNames (fun vs H Q E h => ?_) (fun cdv A outer s H vs Q E hr h => ?_)
  · obtain ⟨a, xs, ds, rfl, _⟩ := h
    rfl
  obtain ⟨a, xs, ds, rfl, hS, hx, odd, few, q⟩ := h
  have xl := dpAll_len hx
  refine ⟨_, pss_one (ps_ret (pe_and (pe_isiTL (pv 0) (by rfl) T.isi (pa_cons (pe_bltn (v := .ty "tuple") (by rfl) T.tuple (by decide +kernel) rfl) (pa_cons (pe_bltn (v := .ty "list") (by rfl) T.list (by decide +kernel) rfl) pa_nil)))
      (pe_one (pe_callB (cr_all rfl) (by rfl) T.all (by decide +kernel) (pa_cons (pe_lc (own := [("item", 1)]) (g := gName 1) (by rfl) scAreNames.nd (pi_tup (pv 0)) (blkOk_by (N := ["thing", "item"]) (sc := defScope sAreNames) (by decide +kernel))
        (fun _ _ _ _ _ => pg_name (i := 1) scAreNames.nd rfl (Or.inl rfl)) (fun _ _ _ _ _ => pts_nil) (fun _ _ _ _ _ => pe_call G hr (by rfl) m1 k1 b1 .nil pass0 (pa_cons (pv 1) pa_nil))) pa_nil))))), ?_⟩
  refine ⟨.ref a, rfl, ⟨a, _, rfl, hS⟩, fun T0 hT => ⟨true, rfl, iteT ?_⟩⟩
  have s0 : Same H (upd H T0 (.tup [.ty "tuple", .ty "list"])) := same_new hT _
  generalize upd H T0 (.tup [.ty "tuple", .ty "list"]) = H0 at s0 ⊢
  refine ⟨.ref a, rfl, a, rfl, ⟨_, same_tup s0 hS⟩, fun D hD => ?_⟩
  have s1 : Same H0 (upd H0 D (.lst [])) := same_new hD _
  refine lc_tup (xs := xs) (fun i H1 => Same H0 H1 ∧ H1 D = some (.lst ((ds.take i).map fun d => V.bl (nameD d)))) ⟨s1, upd_same⟩ (fun i H1 _ hI => same_tup (s0.trans hI.1) hS) (fun i x H1 hxi hI => ?_) (fun H1 hI => ?_)
  · obtain ⟨sm, hd⟩ := hI
    obtain ⟨d, hdi, hxd⟩ := dpAll_at' hx hxi
    have il : i < ds.length := (List.getElem?_eq_some_iff.mp hdi).1
    refine ⟨rfl, x, rfl, x, d, rfl, dp_same (s0.trans sm) _ _ hxd, odd d (List.mem_of_getElem? hdi), fun H2 sm2 => ⟨_, sm2 _ _ hd, small_line' (by rw [List.length_map, List.length_take]; omega), same_put (sm.trans sm2) hD, ?_⟩⟩
    rw [upd_same, take_snoc hdi, List.map_append]
    rfl
  · obtain ⟨sm, hd⟩ := hI
    rw [xl, List.take_length] at hd
    refine ⟨D, ds.map nameD, rfl, SqL.of (by rw [List.map_map]; exact hd), ?_⟩
    have z : (ds.map nameD).all id = ds.all nameD := by
      rw [List.all_map]
      rfl
    rw [z]
    exact q H1 (s0.trans sm)
/-! ### _set_of -/
def spSetOf (K : PySem.W.Frag) : Sp := fun vs H Q _ => ∃ (a : Addr) (ns : W), vs = [.ref a] ∧ (SqL K H a (ns.map V.str) ∨ SqT K H a (ns.map V.str)) ∧ ns.length < 1000 ∧ ∀ (H' : Hp) (p : Addr) (zs : W), Same H H' → H' p = some (.tup (zs.map V.str)) → UpX zs → (∀ z, z ∈ zs ↔ z ∈ ns) → Q (.ref p) H'
theorem ok_setOf (F : Fun K "_set_of" "_set_of" sSetOf f fd) (T : Bl mg) : FnOk P w K mg base CX0 (k + 1) f fd ["names"] (spSetOf K) := by
  refine F.ok scSetOf (fun vs H Q E h => ?_) (fun cdv A outer s H vs Q E hr h => ?_)
  · obtain ⟨a, ns, rfl, _⟩ := h
    rfl
  obtain ⟨a, ns, rfl, hS, few, q⟩ := h
  refine ⟨_, pss_one (ps_ret (pe_callTy call_tuple_of (by rfl) T.tuple (by decide +kernel) (pa_cons (pe_callB (cr_sortX rfl hr.units) (by rfl) T.sorted (by decide +kernel) (pa_cons (pe_callTy (cr_setX rfl hr.units) (by rfl) T.set (by decide +kernel) (pa_cons (pv 0) pa_nil)) pa_nil)) pa_nil))), ?_⟩
  refine ⟨.ref a, rfl, a, ns, rfl, hS, few, fun b ms hb nd hm hl => ?_⟩
  refine ⟨b, ms, rfl, upd_same, by omega, fun zs p hz nz hlz rz hp => ?_⟩
  refine ⟨p, zs.map V.str, rfl, .inl ⟨SqL.of upd_same, fun l hl2 => ?_⟩⟩
  exact q _ l zs ((same_new hb _).trans ((same_new hp _).trans (same_new hl2 _))) upd_same (upX_of rz nz) fun z => (hz z).trans (hm z)
/-! ### is_world -/
def spIsWorld (K : PySem.W.Frag) : Sp := fun vs H Q _ => ∃ (x : V) (d : PyData), vs = [x] ∧ WQ K H x d ∧ ∀ H', Same H H' → Q (.bl (worldD d)) H'
theorem ok_isWorld {f1 f2 : Addr} {fd1 fd2 : FuncData} (F : Fun K "is_world" "is_world" sIsWorld f fd) (T : Bl mg) (G1 : FnOk P w K mg base CX0 k f1 fd1 ["thing"] (spAreNames K)) (b1 : Binds K fd1 ["thing"] []) (k1 : PySem.W.keepIn K (.ref f1) = true) (m1 : mg "_are_names" = some (.ref f1))
    (G2 : FnOk P w K mg base CX0 k f2 fd2 ["names"] (spSetOf K)) (b2 : Binds K fd2 ["names"] []) (k2 : PySem.W.keepIn K (.ref f2) = true) (m2 : mg "_set_of" = some (.ref f2)) : FnOk P w K mg base CX0 (k + 1) f fd ["thing"] (spIsWorld K) := by
  refine F.ok scIsWorld (fun vs H Q E h => ?_) (fun cdv A outer s H vs Q E hr h => ?_)
  · obtain ⟨x, d, rfl, _⟩ := h
    rfl
  obtain ⟨x, d, rfl, hq, q⟩ := h
  refine ⟨_, pss_one (ps_ret (pe_and (pe_callB call_isi (by rfl) T.isi PyProof.Rows.boot_isinstance (pa_cons (pv 0) (pa_cons (pe_bltn (v := .ty "tuple") (by rfl) T.tuple (by decide +kernel) rfl) pa_nil)))
    (pe_and (pe_call G1 hr (by rfl) m1 k1 b1 .nil pass0 (pa_cons (pv 0) pa_nil)) (pe_one (pe_cmpR (op_eqD hr.units) (pv 0) (pe_call G2 hr (by rfl) m2 k2 b2 .nil pass0 (pa_cons (pv 0) pa_nil)) (nomark _)))))), ?_⟩
  rcases hq with ⟨hx, odd⟩ | ⟨rfl, a, rfl, ha⟩
  case inr => exact ⟨.ref a, rfl, .ref a, .ty "tuple", .type "dict", .type "tuple", false, rfl, .ty "tuple", .base (.dK ha), kit_ty (by decide +kernel), false, rfl, iteF (q H fun _ _ e => e)⟩
  have cases' : (∃ t : String, TyX K H x (.type t) ∧ PySem.W.kitOne K (.type t) (.type "tuple") = some false ∧ worldD d = false) ∨ ∃ ds, d = .tuple ds := by
    have ty := tyx_dp hx
    cases d with
    | none => exact .inl ⟨"NoneType", ty, kit_ty (by decide +kernel), rfl⟩
    | bool _ => exact absurd odd id
    | dict _ => exact absurd odd id
    | int i => exact .inl ⟨"int", ty, kit_ty (by decide +kernel), rfl⟩
    | list ds => exact .inl ⟨"list", ty, kit_ty (by decide +kernel), rfl⟩
    | str z => exact .inl ⟨"str", ty, kit_ty (by decide +kernel), rfl⟩
    | tuple ds => exact .inr ⟨ds, rfl⟩
  rcases cases' with ⟨t, h1, h2, h3⟩ | ⟨ds, rfl⟩
  · refine ⟨x, rfl, x, .ty "tuple", .type t, .type "tuple", false, rfl, .ty "tuple", h1, h2, false, rfl, iteF ?_⟩
    have := q H fun _ _ e => e
    rw [h3] at this
    exact this
  obtain ⟨o1, o2⟩ := odd
  cases hx with
  | @tup a xs _ hS hxs =>
    refine ⟨.ref a, rfl, .ref a, .ty "tuple", .type "tuple", .type "tuple", true, rfl, .ty "tuple", tyx_tup hS, kit_ty (by decide +kernel), true, rfl, iteT ?_⟩
    refine ⟨.ref a, rfl, a, xs, ds, rfl, hS, hxs, o1, by omega, fun H1 s1 => ⟨_, rfl, ?_⟩⟩
    have val : ∀ b, ds.all nameD = b → worldD (.tuple ds) = (b && decide (UpX (ds.map strOf))) := fun b e => by
      rw [← e]
      rfl
    refine ite2 (fun c => ?_) (fun c => ?_)
    · rw [val _ c] at q
      obtain ⟨e, hn⟩ := strs_of c
      have ex : xs = (ds.map strOf).map V.str := dps_str (K := K) (H := H) (by rw [← e]; exact hxs)
      rw [ex] at hS
      refine ⟨.ref a, rfl, .ref a, rfl, a, ds.map strOf, rfl, .inr (same_tup s1 hS), by rw [List.length_map]; omega, fun H2 p zs s2 hp hu hm => ?_⟩
      have hz : ∀ x ∈ zs, nameB x = true := fun x hx => hn x ((hm x).mp hx)
      refine ⟨wd (ds.map strOf), wd zs, to_wd (same_tup (s1.trans s2) hS), to_wd (SqT.of hp), shaped_names hn, shaped_names hz, ?_⟩
      rw [eqv_wd]
      have ed : decide (ds.map strOf = zs) = decide (UpX (ds.map strOf)) := by
        by_cases u : UpX (ds.map strOf)
        · rw [decide_eq_true u, decide_eq_true (upX_one u hu fun z => (hm z).symm)]
        · rw [decide_eq_false u, decide_eq_false fun z => u (by rw [z]; exact hu)]
      rw [ed]
      exact q H2 (s1.trans s2)
    · rw [val false (by simpa using c)] at q
      exact q H1 s1
/-! ### has_all -/
def spHasAll (K : PySem.W.Frag) : Sp := fun vs H Q _ => ∃ (x y : V) (ns ms : W), vs = [x, y] ∧ Dp K H x (wd ns) ∧ Dp K H y (wd ms) ∧ ms.length ≤ 1000 ∧ ∀ H', Same H H' → Q (.bl (sub ms ns)) H'
theorem ok_hasAll (F : Fun K "has_all" "has_all" sHasAll f fd) (T : Bl mg) : FnOk P w K mg base CX0 (k + 1) f fd ["names", "wanted"] (spHasAll K) := by
  refine F.ok scHasAll (fun vs H Q E h => ?_) (fun cdv A outer s H vs Q E hr h => ?_)
  · obtain ⟨x, y, ns, ms, rfl, _⟩ := h
    rfl
  obtain ⟨x, y, ns, ms, rfl, hx, hy, few, q⟩ := h
  obtain ⟨a, rfl, hS⟩ := of_wd hx
  obtain ⟨b, rfl, hT⟩ := of_wd hy
  refine ⟨_, pss_one (ps_ret (pe_callB (cr_all rfl) (by rfl) T.all (by decide +kernel) (pa_cons (pe_lc (own := [("name", 2)]) (g := gName 2) (by rfl) scHasAll.nd (pi_tup (pv 1)) (blkOk_by (N := ["names", "wanted", "name"]) (sc := defScope sHasAll) (by decide +kernel))
        (fun _ _ _ _ _ => pg_name (i := 2) scHasAll.nd rfl (Or.inl rfl)) (fun _ _ _ _ _ => pts_nil) (fun _ _ _ _ _ => pe_cmpR (r := rIn K false) op_in_seq (pv 2) (pv 0) (by rfl))) pa_nil))), ?_⟩
  refine ⟨.ref b, rfl, b, rfl, ⟨_, hT⟩, fun D hD => ?_⟩
  have s1 : Same H (upd H D (.lst [])) := same_new hD _
  refine lc_tup (xs := ms.map V.str) (fun i H1 => Same H H1 ∧ H1 D = some (.lst ((ms.take i).map fun z => V.bl (decide (z ∈ ns))))) ⟨s1, upd_same⟩ (fun i H1 _ hI => same_tup hI.1 hT) (fun i x H1 hx hI => ?_) (fun H1 hI => ?_)
  · obtain ⟨sm, hd⟩ := hI
    obtain ⟨z, hz, rfl⟩ := map_at hx
    refine ⟨rfl, .str z, rfl, .ref a, rfl, a, ns.map V.str, rfl, .inr (same_tup sm hS), rfl, flat_strs ns, ?_⟩
    refine ⟨_, hd, small_line' (by rw [List.length_map, List.length_take]; omega), same_put sm hD, ?_⟩
    rw [upd_same, take_snoc hz, List.map_append]
    show some (HO.lst (_ ++ [V.bl (inV (.str z) (ns.map V.str))])) = _
    rw [inV_str]
    rfl
  · obtain ⟨sm, hd⟩ := hI
    rw [List.length_map, List.take_length] at hd
    refine ⟨D, ms.map fun z => decide (z ∈ ns), rfl, SqL.of (by rw [List.map_map]; exact hd), ?_⟩
    have z : (ms.map fun z => decide (z ∈ ns)).all id = sub ms ns := by
      unfold sub
      rw [List.all_map]
      rfl
    rw [z]
    exact q H1 sm
/-! ### is_pair -/
/-- a thing offered as a pair -/
def PQ (K : PySem.W.Frag) (H : Hp) (x : V) (d : PyData) : Prop := (Dp K H x d ∧ ∀ b, d ≠ .bool b) ∨ ∃ a y z dy dz, d = .tuple [dy, dz] ∧ x = .ref a ∧ SqT K H a [y, z] ∧ WQ K H y dy ∧ WQ K H z dz
def namesD : PyData → W
  | .tuple ds => ds.map strOf
  | _ => []
def pairD : PyData → Bool
  | .tuple [a, b] => worldD a && (worldD b && sub (namesD a) (namesD b))
  | _ => false
def oddP : PyData → Prop
  | .tuple [a, b] => (oddW a ∨ a = .dict []) ∧ (oddW b ∨ b = .dict [])
  | .bool _ => False
  | .dict _ => False
  | _ => True
theorem namesD_wd (ns : W) : namesD (wd ns) = ns := by
  show (ns.map PyData.str).map strOf = ns
  rw [List.map_map]
  exact List.map_id' ns
theorem PQ.two {K : PySem.W.Frag} {H : Hp} {x : V} {da db : PyData} (h : PQ K H x (.tuple [da, db])) (o : oddP (.tuple [da, db])) : ∃ a y z, x = .ref a ∧ SqT K H a [y, z] ∧ WQ K H y da ∧ WQ K H z db := by
  rcases h with ⟨h, _⟩ | ⟨a, y, z, dy, dz, e, rfl, h1, h2, h3⟩
  · cases h with
    | tup h1 h2 =>
      cases h2 with
      | cons a1 t =>
        cases t with
        | cons a2 t =>
          cases t
          have nd : ∀ {v : V} {d : PyData}, Dp K H v d → (oddW d ∨ d = .dict []) → WQ K H v d := fun hv od => by
            rcases od with od | rfl
            · exact .inl ⟨hv, od⟩
            · cases hv
          exact ⟨_, _, _, rfl, h1, nd a1 o.1, nd a2 o.2⟩
  · injection e with e
    injection e with e1 e
    injection e with e2 _
    subst e1 e2
    exact ⟨a, y, z, rfl, h1, h2, h3⟩
def spIsPair (K : PySem.W.Frag) : Sp := fun vs H Q _ => ∃ (x : V) (d : PyData), vs = [x] ∧ PQ K H x d ∧ oddP d ∧ ∀ H', Same H H' → Q (.bl (pairD d)) H'
theorem ok_isPair {f1 f2 : Addr} {fd1 fd2 : FuncData} (F : Fun K "is_pair" "is_pair" sIsPair f fd) (T : Bl mg) (G1 : FnOk P w K mg base CX0 k f1 fd1 ["thing"] (spIsWorld K)) (b1 : Binds K fd1 ["thing"] []) (k1 : PySem.W.keepIn K (.ref f1) = true) (m1 : mg "is_world" = some (.ref f1))
    (G2 : FnOk P w K mg base CX0 k f2 fd2 ["names", "wanted"] (spHasAll K)) (b2 : Binds K fd2 ["names", "wanted"] []) (k2 : PySem.W.keepIn K (.ref f2) = true) (m2 : mg "has_all" = some (.ref f2)) : FnOk P w K mg base CX0 (k + 1) f fd ["thing"] (spIsPair K) := by
  refine F.ok scIsPair (fun vs H Q E h => ?_) (fun cdv A outer s H vs Q E hr h => ?_)
  · obtain ⟨x, p, rfl, _⟩ := h
    rfl
  obtain ⟨x, d, rfl, hx, odd, q⟩ := h
  refine ⟨_, pss_cons (ps_if (PW.pt (pw_or (pt_not (pt_val (pe_callB call_isi (by rfl) T.isi PyProof.Rows.boot_isinstance (pa_cons (pv 0) (pa_cons (pe_bltn (v := .ty "tuple") (by rfl) T.tuple (by decide +kernel) rfl) pa_nil)))))
      (pw_or1 (pt_cmpR op_ne (pe_callB call_len_seq (by rfl) T.len PySem.boot_len (pa_cons (pv 0) pa_nil)) pe_int (nomark _))))) (pss_one (ps_ret pe_bl)) pss_nil)
    (pss_cons (ps_asg (pv 0) (pg_tup (by rfl) (pgs_cons (pg_name (i := 1) scIsPair.nd rfl (.inl rfl)) (pgs_cons (pg_name (i := 2) scIsPair.nd rfl (.inl rfl)) pgs_nil))))
    (pss_one (ps_ret (pe_and (pe_call G1 hr (by rfl) m1 k1 b1 .nil pass0 (pa_cons (pv 1) pa_nil)) (pe_and (pe_call G1 hr (by rfl) m1 k1 b1 .nil pass0 (pa_cons (pv 2) pa_nil))
      (pe_one (pe_call G2 hr (by rfl) m2 k2 b2 .nil pass0 (pa_cons (pv 2) (pa_cons (pv 1) pa_nil))))))))), ?_⟩
  have cases' : (∃ t : String, TyX K H x (.type t) ∧ PySem.W.kitOne K (.type t) (.type "tuple") = some false ∧ pairD d = false) ∨ ∃ ds, d = .tuple ds := by
    rcases hx with ⟨hx, nb⟩ | ⟨a, y, z, dy, dz, e, _⟩
    · have ty := tyx_dp hx
      cases d with
      | none => exact .inl ⟨"NoneType", ty, kit_ty (by decide +kernel), rfl⟩
      | bool _ => exact absurd odd id
      | dict _ => exact absurd odd id
      | int i => exact .inl ⟨"int", ty, kit_ty (by decide +kernel), rfl⟩
      | list ds => exact .inl ⟨"list", ty, kit_ty (by decide +kernel), rfl⟩
      | str z => exact .inl ⟨"str", ty, kit_ty (by decide +kernel), rfl⟩
      | tuple ds => exact .inr ⟨ds, rfl⟩
    · exact .inr ⟨_, e⟩
  rcases cases' with ⟨t, h1, h2, h3⟩ | ⟨ds, rfl⟩
  · refine ⟨x, rfl, x, .ty "tuple", .type t, .type "tuple", false, rfl, .ty "tuple", h1, h2, false, rfl, ?_⟩
    have := q H fun _ _ e => e
    rw [h3] at this
    exact this
  by_cases two : ∃ da db, ds = [da, db]
  · obtain ⟨da, db, rfl⟩ := two
    obtain ⟨a, y, z, rfl, hS, hy, hz⟩ := hx.two odd
    refine ⟨.ref a, rfl, .ref a, .ty "tuple", .type "tuple", .type "tuple", true, rfl, .ty "tuple", tyx_tup hS, kit_ty (by decide +kernel), true, rfl, ?_⟩
    refine ⟨.ref a, rfl, a, _, rfl, .inr hS, rfl, _, rfl, ?_⟩
    have en : decide (V.int ((([y, z] : List V).length : Nat) : Int) = V.int 2) = true := decide_eq_true rfl
    refine ite2 (fun e => by rw [en] at e; exact absurd e (by decide)) (fun _ => ?_)
    refine ⟨.ref a, rfl, a, [y, z], rfl, hS, rfl, y, [z], rfl, z, [], rfl, rfl, ?_⟩
    have val : pairD (.tuple [da, db]) = (worldD da && (worldD db && sub (namesD da) (namesD db))) := rfl
    rw [val] at q
    refine ⟨y, rfl, y, da, rfl, hy, fun H1 s1 => ⟨_, rfl, ite2 (fun c1 => ?_) (fun c1 => ?_)⟩⟩
    · obtain ⟨n1, w1, rfl, d1⟩ := hy.wd c1
      rw [c1] at q
      refine ⟨z, rfl, z, db, rfl, hz.same s1, fun H2 s2 => ⟨_, rfl, ite2 (fun c2 => ?_) (fun c2 => ?_)⟩⟩
      · obtain ⟨n2, w2, rfl, d2⟩ := hz.wd c2
        have s12 := s1.trans s2
        have few := w1.few
        rw [c2, namesD_wd, namesD_wd] at q
        exact ⟨z, rfl, y, rfl, z, y, n2, n1, rfl, (Stay.same s12).wd d2, (Stay.same s12).wd d1, by omega, fun H3 s3 => q H3 (s12.trans s3)⟩
      · have c2' : worldD db = false := by simpa using c2
        rw [c2'] at q
        exact q H2 (s1.trans s2)
    · have c1' : worldD da = false := by simpa using c1
      rw [c1'] at q
      exact q H1 s1
  · have no : pairD (.tuple ds) = false := by
      match ds, two with
      | [], _ => rfl
      | [_], _ => rfl
      | [a, b], t => exact absurd ⟨a, b, rfl⟩ t
      | _ :: _ :: _ :: _, _ => rfl
    rw [no] at q
    rcases hx with ⟨hx, _⟩ | ⟨_, _, _, _, _, e, _⟩
    · cases hx with
      | @tup a xs _ hS hxs =>
        have xl := dpAll_len hxs
        refine ⟨.ref a, rfl, .ref a, .ty "tuple", .type "tuple", .type "tuple", true, rfl, .ty "tuple", tyx_tup hS, kit_ty (by decide +kernel), true, rfl, ?_⟩
        refine ⟨.ref a, rfl, a, xs, rfl, .inr hS, rfl, _, rfl, ?_⟩
        refine ite2 (fun _ => q H fun _ _ e => e) (fun e => absurd ?_ two)
        have en : xs.length = 2 := by
          have e' : decide (V.int ((xs.length : Nat) : Int) = V.int 2) = true := by simpa using e
          have := V.int.inj (of_decide_eq_true e')
          omega
        match ds, xl.symm.trans en with
        | [a, b], _ => exact ⟨a, b, rfl⟩
    · injection e with e
      exact absurd ⟨_, _, e⟩ two
end
end Rw
namespace Rw
open PySem PySem.Spec PyProof.Rows L2
/-! ### lists of the very same things -/
def SameV (x y : V) : Prop := (x = y ∧ flatB x = true) ∨ ∃ a, x = .ref a ∧ y = .ref a
def EqL1 (K : PySem.W.Frag) (H : Hp) (x y : V) : Prop := SameV x y ∨ ∃ a b xs ys, x = .ref a ∧ y = .ref b ∧ SqL K H a xs ∧ SqL K H b ys ∧ Paired SameV xs ys
theorem paired_at {P : Program} {w : World} {A : Around} {s : Shared} {F : V → V → Prop} (ih : ∀ x y v u, F x y → RelV x v → RelV y u → SeqAt.EqAt A s v u true) {xs ys : List V} (hp : Paired F xs ys) :
    ∀ {us ws : List Value}, Vals xs us → Vals ys ws → ∀ j (h1 : j < us.length) (h2 : j < ws.length), SeqAt.EqAt A s us[j] ws[j] true := by
  induction hp with
  | nil =>
    intro us ws r1 r2 j h1 h2
    cases r1
    exact absurd h1 (Nat.not_lt_zero j)
  | cons h _ k =>
    intro us ws r1 r2 j h1 h2
    cases r1 with
    | cons a1 b1 =>
      cases r2 with
      | cons a2 b2 =>
        cases j with
        | zero => exact ih _ _ _ _ h a1 a2
        | succ j => exact k b1 b2 j (Nat.lt_of_succ_lt_succ h1) (Nat.lt_of_succ_lt_succ h2)
theorem sameV_at {A : Around} {s : Shared} {x y : V} {v u : Value} (h : SameV x y) (r1 : RelV x v) (r2 : RelV y u) : SeqAt.EqAt A s v u true := by
  rcases h with ⟨rfl, f⟩ | ⟨a, rfl, rfl⟩
  · exact eqAt_same r1 r2 f
  · cases (show v = Value.ref a from r1)
    cases (show u = Value.ref a from r2)
    exact SeqAt.EqAt.same _
section
variable {X : Cx}
def rNeI (K : PySem.W.Frag) : R2 := fun x y H Q => ∃ a b xs ys, x = .ref a ∧ y = .ref b ∧ SqL K H a xs ∧ SqL K H b ys ∧ Paired (EqL1 K H) xs ys ∧ Q (.bl false) H
theorem op_neI (hu : X.A.units + 64 < cLine) : OpR X (compareOp .NotEq) (rNeI X.K) := by
  intro pins s σ H x y v u Q I rx ry h
  obtain ⟨a, b, xs, ys, rfl, rfl, ha, hb, hp, q⟩ := h
  cases (show v = Value.ref a from rx)
  cases (show u = Value.ref b from ry)
  obtain ⟨us, r1, p1, _⟩ := I.list ha
  obtain ⟨ws, r2, p2, _⟩ := I.list hb
  have hsz : us.toArray.size = ws.toArray.size := by
    rw [List.size_toArray, List.size_toArray, ← r1.length, ← r2.length]
    exact Paired.length hp
  have hu1 : X.A.in1.units < cLine := by show X.A.units + 1 < cLine; omega
  have hu2 : X.A.in1.in1.units < cLine := by show X.A.units + 1 + 1 < cLine; omega
  have one : ∀ x y v u, EqL1 X.K H x y → RelV x v → RelV y u → SeqAt.EqAt X.A.in1 s v u true := fun x y v u h rx ry => by
    rcases h with h | ⟨a, b, xs, ys, rfl, rfl, ha, hb, hp⟩
    · exact sameV_at h rx ry
    · cases (show v = Value.ref a from rx)
      cases (show u = Value.ref b from ry)
      by_cases e : a = b
      · subst e
        exact SeqAt.EqAt.same _
      · obtain ⟨us, r1, p1, _⟩ := I.list ha
        obtain ⟨ws, r2, p2, _⟩ := I.list hb
        have hsz : us.toArray.size = ws.toArray.size := by
          rw [List.size_toArray, List.size_toArray, ← r1.length, ← r2.length]
          exact Paired.length hp
        refine SeqAt.EqAt.of_refs e ?_
        have := SeqAt.RcAt.lists (A := X.A.in1) (e := fun _ => true) p1.isList p2.isList hsz hu1 (fun j h1 h2 => by
          have k := paired_at (P := X.prog) (w := X.w) (A := X.A.in1.in1) (s := s) (fun x y v u h r1 r2 => sameV_at h r1 r2) hp r1 r2 j (by simpa using h1) (by simpa using h2)
          simpa using k)
        rw [show ((List.range us.toArray.size).all fun _ => true) = true from List.all_eq_true.mpr fun _ _ => rfl] at this
        exact this
  have := SeqAt.RcNeAt.lists (A := X.A) (e := fun _ => true) p1.isList p2.isList hsz (by omega) (fun j h1 h2 => by
    have k := paired_at (P := X.prog) (w := X.w) (A := X.A.in1) (s := s) one hp r1 r2 j (by simpa using h1) (by simpa using h2)
    simpa using k)
  rw [show ((List.range us.toArray.size).all fun _ => true) = true from List.all_eq_true.mpr fun _ _ => rfl] at this
  exact this X.prog X.w _ _ ⟨.bl false, H, I, rfl, q⟩
/-- x not in y, y a tuple of data -/
def rNotInDT (K : PySem.W.Frag) : R2 := fun x y H Q => ∃ d ds, Dp K H x d ∧ Dp K H y (.tuple ds) ∧ SeqAt.shaped d = true ∧ SeqAt.shaped (.tuple ds) = true ∧ Q (.bl (!ds.any fun z => PyData.eqv z d)) H
theorem op_notInDT (hu : X.A.units + 65 < cLine) : OpR X (compareOp .NotIn) (rNotInDT X.K) := by
  intro pins s σ H x y v u Q I rx ry h
  obtain ⟨d, ds, hd, he, sd, se, q⟩ := h
  obtain ⟨as, r1⟩ := Dp.reads I d x v hd rx
  obtain ⟨bs, r2⟩ := Dp.reads I (.tuple ds) y u he ry
  exact SeqAt.notIn_tuple_reads r2 r1 (SeqAt.canLay_of_shaped se) (SeqAt.canLay_of_shaped sd) (room_in_shaped sd hu) ⟨.bl _, H, I, rfl, q⟩
end
/-! ### the errors -/
abbrev sEWorld : Stmt := inClass (topS 5) 0
abbrev sEPair : Stmt := inClass (topS 6) 0
abbrev sEKind : Stmt := inClass (topS 8) 0
abbrev sEBarred : Stmt := inClass (topS 9) 0
theorem scEWorld : FnScope ["self", "thing"] ["self", "thing"] (defScope sEWorld) := ⟨rfl, rfl, rfl, by decide +kernel, rfl, by decide +kernel, by decide +kernel⟩
theorem scEPair : FnScope ["self", "thing"] ["self", "thing"] (defScope sEPair) := ⟨rfl, rfl, rfl, by decide +kernel, rfl, by decide +kernel, by decide +kernel⟩
theorem scEKind : FnScope ["self", "value"] ["self", "value"] (defScope sEKind) := ⟨rfl, rfl, rfl, by decide +kernel, rfl, by decide +kernel, by decide +kernel⟩
theorem scEBarred : FnScope ["self", "why"] ["self", "why"] (defScope sEBarred) := ⟨rfl, rfl, rfl, by decide +kernel, rfl, by decide +kernel, by decide +kernel⟩
/-- what the text's own error class with one field is -/
structure ErrT (P : Program) (w : World) (K : PySem.W.Frag) (mg : Str → Option Value) (base : Heap) (k : Nat) (x : Str) (n : Str) (C : Addr) : Prop where
  oex : OexC K C
  ex : ∃ (fI : Addr) (fd : FuncData), PySem.W.findIn K (.ref C) "__init__" = some (some (.ref fI)) ∧ PySem.W.typeIn K (.ref fI) = some (.type "function") ∧ FnOk P w K mg base CX0 k fI fd ["self", n] (spErr C n) ∧ Binds K fd ["self", n] []
  m : mg x = some (.ref C)
section
variable {P : Program} {w : World} {K : PySem.W.Frag} {mg : Str → Option Value} {base : Heap} {f : Addr} {fd : FuncData} {k : Nat}
theorem ok_eWorld {C : Addr} (F : FunD K "__init__" "InvalidWorld.__init__" (defArgs sEWorld) (defBody sEWorld) (defScope sEWorld) [.non] [] f fd) (O : OexC K C) (no : PySem.W.findIn K (.ref C) "thing" = some none) : FnOk P w K mg base CX0 (k + 1) f fd ["self", "thing"] (spErr C "thing") := by
  refine F.ok scEWorld (fun vs H Q E h => ?_) (fun cdv A outer s H vs Q E hr h => ?_)
  · obtain ⟨a, v, rfl, _⟩ := h
    rfl
  obtain ⟨a, v, rfl, ha, q⟩ := h
  exact ⟨_, PSs.nox (pss_one (ps_ost (pv 0) (pv 1))), v, rfl, .ref a, rfl, a, C, rfl, O, no, .inl ⟨ha, fun dx h1 h2 => q dx h1 h2⟩⟩
theorem ok_ePair {C : Addr} (F : FunD K "__init__" "InvalidPair.__init__" (defArgs sEPair) (defBody sEPair) (defScope sEPair) [.non] [] f fd) (O : OexC K C) (no : PySem.W.findIn K (.ref C) "thing" = some none) : FnOk P w K mg base CX0 (k + 1) f fd ["self", "thing"] (spErr C "thing") := by
  refine F.ok scEPair (fun vs H Q E h => ?_) (fun cdv A outer s H vs Q E hr h => ?_)
  · obtain ⟨a, v, rfl, _⟩ := h
    rfl
  obtain ⟨a, v, rfl, ha, q⟩ := h
  exact ⟨_, PSs.nox (pss_one (ps_ost (pv 0) (pv 1))), v, rfl, .ref a, rfl, a, C, rfl, O, no, .inl ⟨ha, fun dx h1 h2 => q dx h1 h2⟩⟩
theorem ok_eKind {C : Addr} (F : FunD K "__init__" "InvalidKind.__init__" (defArgs sEKind) (defBody sEKind) (defScope sEKind) [.non] [] f fd) (O : OexC K C) (no : PySem.W.findIn K (.ref C) "value" = some none) : FnOk P w K mg base CX0 (k + 1) f fd ["self", "value"] (spErr C "value") := by
  refine F.ok scEKind (fun vs H Q E h => ?_) (fun cdv A outer s H vs Q E hr h => ?_)
  · obtain ⟨a, v, rfl, _⟩ := h
    rfl
  obtain ⟨a, v, rfl, ha, q⟩ := h
  exact ⟨_, PSs.nox (pss_one (ps_ost (pv 0) (pv 1))), v, rfl, .ref a, rfl, a, C, rfl, O, no, .inl ⟨ha, fun dx h1 h2 => q dx h1 h2⟩⟩
theorem ok_eBarred {C : Addr} (F : FunD K "__init__" "Barred.__init__" (defArgs sEBarred) (defBody sEBarred) (defScope sEBarred) [.non] [] f fd) (O : OexC K C) (no : PySem.W.findIn K (.ref C) "why" = some none) : FnOk P w K mg base CX0 (k + 1) f fd ["self", "why"] (spErr C "why") := by
  refine F.ok scEBarred (fun vs H Q E h => ?_) (fun cdv A outer s H vs Q E hr h => ?_)
  · obtain ⟨a, v, rfl, _⟩ := h
    rfl
  obtain ⟨a, v, rfl, ha, q⟩ := h
  exact ⟨_, PSs.nox (pss_one (ps_ost (pv 0) (pv 1))), v, rfl, .ref a, rfl, a, C, rfl, O, no, .inl ⟨ha, fun dx h1 h2 => q dx h1 h2⟩⟩
/-! ### the checks -/
def spCheckWorld (K : PySem.W.Frag) (CE : Addr) : Sp := fun vs H Q E => ∃ (v : V) (d : PyData), vs = [v] ∧ WQ K H v d ∧ ∀ H', Same H H' → (worldD d = true → Q .non H') ∧ (worldD d = false → ∀ dx, H' dx = none → E (.ref CE) (some dx) (upd H' dx (.xd [(("thing" : Str), v)])))
theorem ok_checkWorld {f1 CE : Addr} {fd1 : FuncData} (F : Fun K "check_world" "check_world" sCheckWorld f fd) (G1 : FnOk P w K mg base CX0 (k + 1) f1 fd1 ["thing"] (spIsWorld K)) (b1 : Binds K fd1 ["thing"] []) (k1 : PySem.W.keepIn K (.ref f1) = true) (m1 : mg "is_world" = some (.ref f1)) (X : ErrT P w K mg base k "InvalidWorld" "thing" CE) :
    FnOk P w K mg base (L2.CX P w) (k + 2) f fd ["thing"] (spCheckWorld K CE) := by
  obtain ⟨fI, fdI, i1, i2, i3, i4⟩ := X.ex
  refine F.okX scCheckWorld (fun vs H Q E h => ?_) (fun cdv A outer s H vs Q E hr h => ?_)
  · obtain ⟨v, d, rfl, _⟩ := h
    rfl
  obtain ⟨v, d, rfl, hd, q⟩ := h
  refine ⟨_, pss_one (ps_if (pt_not (pt_val (pe_call G1 hr (by rfl) m1 k1 b1 .nil pass0 (pa_cons (pv 0) pa_nil))))
    (pss_one (ps_raise rfl (takes_of rfl rfl rfl rfl) (pmk_oex X.oex i1 i2 i3 hr i4 .nil pass0 (by rfl) X.m (pa_cons (pv 0) pa_nil)))) pss_nil), ?_⟩
  refine ⟨v, rfl, v, d, rfl, hd, fun H1 s1 => ⟨_, rfl, ?_⟩⟩
  cases e : worldD d with
  | true => exact iteF ((q H1 s1).1 e)
  | false => exact iteT ⟨v, rfl, err_made ((q H1 s1).2 e)⟩
def kindsS : W := ["any", "plain", "single"]
def kindD : PyData → Bool
  | .str x => decide (x ∈ kindsS)
  | _ => false
theorem kind_any {d : PyData} (hs : SeqAt.shaped d = true) (h : kindD d = false) : ((kindsS.map PyData.str).any fun z => PyData.eqv z d) = false := by
  rw [List.any_eq_false]
  intro z hz
  obtain ⟨x, hx, rfl⟩ := List.mem_map.mp hz
  cases d with
  | str y =>
    have h' : decide (y ∈ kindsS) = false := h
    have n : ¬ y ∈ kindsS := of_decide_eq_false h'
    have : PyData.eqv (.str x) (.str y) = decide (x = y) := by
      by_cases e : x = y
      · subst e
        rw [eqv_self hs, decide_eq_true rfl]
      · rw [decide_eq_false e]
        show (x == y) = false
        simpa using e
    rw [this]
    simp only [decide_eq_true_eq]
    intro e
    exact n (e ▸ hx)
  | _ => exact fun e => nomatch e
def spCheckKind (K : PySem.W.Frag) (CE : Addr) : Sp := fun vs H Q E => ∃ (v : V) (d : PyData) (a : Addr), vs = [v, .ref a] ∧ Dp K H v d ∧ SeqAt.shaped d = true ∧ SqT K H a (kindsS.map V.str) ∧ (kindD d = true → Q .non H) ∧ (kindD d = false → ∀ dx, H dx = none → E (.ref CE) (some dx) (upd H dx (.xd [(("value" : Str), v)])))
theorem ok_checkKind {CE : Addr} (F : Fun K "check_kind" "check_kind" sCheckKind f fd) (X : ErrT P w K mg base k "InvalidKind" "value" CE) : FnOk P w K mg base (L2.CX P w) (k + 2) f fd ["thing", "kinds"] (spCheckKind K CE) := by
  obtain ⟨fI, fdI, i1, i2, i3, i4⟩ := X.ex
  refine F.okX scCheckKind (fun vs H Q E h => ?_) (fun cdv A outer s H vs Q E hr h => ?_)
  · obtain ⟨v, d, a, rfl, _⟩ := h
    rfl
  obtain ⟨v, d, a, rfl, hv, hs, hS, q1, q2⟩ := h
  refine ⟨_, pss_one (ps_if (pt_cmpR (op_notInDT (room65 hr)) (pv 0) (pv 1) (by rfl)) (pss_one (ps_raise rfl (takes_of rfl rfl rfl rfl) (pmk_oex X.oex i1 i2 i3 hr i4 .nil pass0 (by rfl) X.m (pa_cons (pv 0) pa_nil)))) pss_nil), ?_⟩
  have sk : SeqAt.shaped (.tuple (kindsS.map PyData.str)) = true := by decide +kernel
  refine ⟨v, rfl, .ref a, rfl, d, kindsS.map .str, hv, to_wd hS, hs, sk, _, rfl, ?_⟩
  cases e : kindD d with
  | true =>
    cases d with
    | str y =>
      have e' : decide (y ∈ kindsS) = true := e
      have n : y ∈ kindsS := of_decide_eq_true e'
      have : ((kindsS.map PyData.str).any fun z => PyData.eqv z (.str y)) = true := List.any_eq_true.mpr ⟨.str y, List.mem_map.mpr ⟨y, n, rfl⟩, eqv_self hs⟩
      rw [this]
      exact iteF (q1 e)
    | _ => exact nomatch e
  | false =>
    rw [kind_any hs e]
    exact iteT ⟨v, rfl, err_made (q2 e)⟩
end
end Rw
namespace Rw
open PySem PySem.Spec PyProof.Rows L2
theorem of_pd {K : PySem.W.Frag} {H : Hp} {x : V} {p : Pr} (h : Dp K H x (pd p)) : ∃ a y z, x = .ref a ∧ SqT K H a [y, z] ∧ Dp K H y (wd p.1) ∧ Dp K H z (wd p.2) := by
  unfold pd at h
  cases h with
  | tup h1 h2 =>
    cases h2 with
    | cons a1 t =>
      cases t with
      | cons a2 t =>
        cases t
        exact ⟨_, _, _, rfl, h1, a1, a2⟩
theorem to_pd {K : PySem.W.Frag} {H : Hp} {a : Addr} {y z : V} {p : Pr} (h : SqT K H a [y, z]) (h1 : Dp K H y (wd p.1)) (h2 : Dp K H z (wd p.2)) : Dp K H (.ref a) (pd p) := .tup h (.cons h1 (.cons h2 .nil))
theorem Stay.pd {K : PySem.W.Frag} {H H' : Hp} {x : V} {p : Pr} (e : Stay H H') (h : Dp K H x (Rw.pd p)) : Dp K H' x (Rw.pd p) := e.dp _ _ (ok_pd p) h
/-! ### what barred tells -/
/-- the first that is told -/
def totalS : Str := ("total" : Str)
def upwardS : Str := ("upward" : Str)
def meetS : Str := ("meet" : Str)
def anyS : Str := ("any" : Str)
def plainS : Str := ("plain" : Str)
def singleS : Str := ("single" : Str)
def tops (R : List Pr) : List W := (R.filter fun p => decide (p.1 = p.2)).map (·.2)
def lows (R : List Pr) (t : W) : List W := (R.filter fun p => decide (p.2 = t)).map (·.1)
def totIn (R : List Pr) (p : Pr) : Option PyData := if (p.2, p.2) ∈ R then none else some (.tuple [.str totalS, pd p])
def upIn (R : List Pr) (p : Pr) (h : W) : Option PyData := if sub p.2 h = true ∧ (p.1, h) ∉ R then some (.tuple [.str upwardS, pd p, wd h]) else none
def meIn (R : List Pr) (p : Pr) (o : W) : Option PyData := if (meet p.1 o, p.2) ∈ R then none else some (.tuple [.str meetS, pd p, pd (o, p.2)])
def totO (R : List Pr) : Option PyData := R.findSome? (totIn R)
def upO (R : List Pr) : Option PyData := R.findSome? fun p => (tops R).findSome? (upIn R p)
def meO (R : List Pr) : Option PyData := R.findSome? fun p => (lows R p.2).findSome? (meIn R p)
def or2 (a b : Option PyData) : Option PyData := match a with | none => b | some d => some d
def whyO (R : List Pr) (z : Str) : Option PyData := or2 (or2 (totO R) (if z = anyS then none else upO R)) (if z = singleS then meO R else none)
/-- what is told, as a value -/
def Told (K : PySem.W.Frag) (H : Hp) (x : V) : Option PyData → Prop
  | none => x = .non
  | some d => (∃ a, x = .ref a) ∧ okD d = true ∧ Dp K H x d
theorem Told.stay {K : PySem.W.Frag} {H H' : Hp} {x : V} {o : Option PyData} (h : Told K H x o) (e : Stay H H') : Told K H' x o := by
  cases o with
  | none => exact h
  | some d => exact ⟨h.1, h.2.1, e.dp _ _ h.2.1 h.2.2⟩
theorem told_isN {K : PySem.W.Frag} {H : Hp} {x : V} {o : Option PyData} (h : Told K H x o) : decide (x = V.non) = o.isNone := by
  cases o with
  | none =>
    rw [show x = V.non from h]
    rfl
  | some d =>
    obtain ⟨⟨a, rfl⟩, _⟩ := h
    exact decide_eq_false (fun z => nomatch z)
/-- the list of pairs at l -/
structure PL (K : PySem.W.Frag) (H : Hp) (l : Addr) (R : List Pr) : Prop where
  ex : ∃ xs, SqL K H l xs ∧ DpAll K H xs (R.map pd)
theorem PL.same {K : PySem.W.Frag} {H H' : Hp} {l : Addr} {R : List Pr} (h : PL K H l R) (e : Same H H') : PL K H' l R := by
  obtain ⟨xs, h1, h2⟩ := h.ex
  exact ⟨xs, e.seq h1, (Stay.same e).dpAll _ _ (okDs_all fun d hd => by obtain ⟨p, _, rfl⟩ := List.mem_map.mp hd; exact ok_pd p) h2⟩
/-- the dict of the pairs at d -/
structure PD (K : PySem.W.Frag) (P : Program) (w : World) (H : Hp) (d : Addr) (R : List Pr) : Prop where
  ex : ∃ kvs, H d = some (NDO P w d kvs) ∧ KeysOk K H kvs ∧ kvs.map (·.1) = R.map pd
theorem PD.same {K : PySem.W.Frag} {P : Program} {w : World} {H H' : Hp} {d : Addr} {R : List Pr} (h : PD K P w H d R) (e : Same H H') : PD K P w H' d R := by
  obtain ⟨kvs, h1, h2, h3⟩ := h.ex
  exact ⟨kvs, e _ _ h1, h2.stay (.same e), h3⟩
theorem pd_mem {R : List Pr} {p : Pr} : pd p ∈ R.map pd ↔ p ∈ R :=
  ⟨fun h => by obtain ⟨q, hq, e⟩ := List.mem_map.mp h; rw [← pd_inj e]; exact hq, fun h => List.mem_map.mpr ⟨p, h, rfl⟩⟩
theorem mk_pd {K : PySem.W.Frag} {H H' : Hp} {u : Addr} {y z : V} {p : Pr} (e : Stay H H') (hu : H' u = some (.tup [y, z])) (hy : Dp K H y (wd p.1)) (hz : Dp K H z (wd p.2)) : Dp K H' (.ref u) (pd p) := to_pd (SqT.of hu) (e.wd hy) (e.wd hz)
abbrev sBarred : Stmt := topS 41
abbrev sAsked : Stmt := topS 43
abbrev sWhyNot : Stmt := topS 44
abbrev sTotal : Stmt := topS 45
abbrev sUpward : Stmt := topS 46
abbrev sMeeting : Stmt := topS 47
abbrev sBelow : Stmt := topS 49
abbrev sCommon : Stmt := topS 50
theorem scBarred : FnScope ["pairs", "names", "kind"] ["pairs", "names", "kind"] (defScope sBarred) := ⟨rfl, rfl, rfl, by decide +kernel, rfl, by decide +kernel, by decide +kernel⟩
theorem scAsked : FnScope ["pairs", "names", "kind", "thing"] ["pairs", "names", "kind"] (defScope sAsked) := ⟨rfl, rfl, rfl, by decide +kernel, rfl, by decide +kernel, by decide +kernel⟩
theorem scWhyNot : FnScope ["chosen", "kind", "present", "why", "pair"] ["chosen", "kind"] (defScope sWhyNot) := ⟨rfl, rfl, rfl, by decide +kernel, rfl, by decide +kernel, by decide +kernel⟩
theorem scTotal : FnScope ["chosen", "present", "here", "there"] ["chosen", "present"] (defScope sTotal) := ⟨rfl, rfl, rfl, by decide +kernel, rfl, by decide +kernel, by decide +kernel⟩
theorem scUpward : FnScope ["chosen", "present", "here", "there", "tops", "high"] ["chosen", "present"] (defScope sUpward) := ⟨rfl, rfl, rfl, by decide +kernel, rfl, by decide +kernel, by decide +kernel⟩
theorem scMeeting : FnScope ["chosen", "present", "lows", "one", "there", "other"] ["chosen", "present"] (defScope sMeeting) := ⟨rfl, rfl, rfl, by decide +kernel, rfl, by decide +kernel, by decide +kernel⟩
theorem scBelow : FnScope ["chosen", "lows", "here", "there"] ["chosen"] (defScope sBelow) := ⟨rfl, rfl, rfl, by decide +kernel, rfl, by decide +kernel, by decide +kernel⟩
theorem scCommon : FnScope ["one", "other", "name"] ["one", "other"] (defScope sCommon) := ⟨rfl, rfl, rfl, by decide +kernel, rfl, by decide +kernel, by decide +kernel⟩
section
variable {P : Program} {w : World} {K : PySem.W.Frag} {mg : Str → Option Value} {base : Heap} {f : Addr} {fd : FuncData} {k : Nat}
/-! ### _common -/
def spCommon (K : PySem.W.Frag) : Sp := fun vs H Q _ => ∃ (x y : V) (ns ms : W), vs = [x, y] ∧ Dp K H x (wd ns) ∧ Dp K H y (wd ms) ∧ ns.length ≤ 1000 ∧ ∀ H' a, Same H H' → H' a = some (.tup ((meet ns ms).map V.str)) → Q (.ref a) H'
theorem ok_common (F : Fun K "_common" "_common" sCommon f fd) (T : Bl mg) : FnOk P w K mg base CX0 (k + 1) f fd ["one", "other"] (spCommon K) := by
  refine F.ok scCommon (fun vs H Q E h => ?_) (fun cdv A outer s H vs Q E hr h => ?_)
  · obtain ⟨x, y, ns, ms, rfl, _⟩ := h
    rfl
  obtain ⟨x, y, ns, ms, rfl, hx, hy, few, q⟩ := h
  obtain ⟨a, rfl, hS⟩ := of_wd hx
  obtain ⟨b, rfl, hT⟩ := of_wd hy
  refine ⟨_, pss_one (ps_ret (pe_callTy call_tuple_of (by rfl) T.tuple (by decide +kernel) (pa_cons (pe_lc (own := [("name", 2)]) (g := gName 2) (by rfl) scCommon.nd (pi_tup (pv 0)) (blkOk_by (N := ["one", "other", "name"]) (sc := defScope sCommon) (by decide +kernel))
        (fun _ _ _ _ _ => pg_name (i := 2) scCommon.nd rfl (Or.inl rfl)) (fun _ _ _ _ _ => pts_one (pt_cmpR (r := rIn K false) op_in_seq (pv 2) (pv 1) (by rfl))) (fun _ _ _ _ _ => pv 2)) pa_nil))), ?_⟩
  refine ⟨.ref a, rfl, a, rfl, ⟨_, hS⟩, fun D hD => ?_⟩
  have s1 : Same H (upd H D (.lst [])) := same_new hD _
  refine lc_tup (xs := ns.map V.str) (fun i H1 => Same H H1 ∧ H1 D = some (.lst (((ns.take i).filter fun z => decide (z ∈ ms)).map V.str))) ⟨s1, upd_same⟩ (fun i H1 _ hI => same_tup hI.1 hS) (fun i x H1 hx hI => ?_) (fun H1 hI => ?_)
  · obtain ⟨sm, hd⟩ := hI
    obtain ⟨z, hz, rfl⟩ := map_at hx
    refine ⟨rfl, .str z, rfl, .ref b, rfl, b, ms.map V.str, rfl, .inr (same_tup sm hT), rfl, flat_strs ms, _, rfl, ?_⟩
    rw [inV_str]
    refine ite2 (fun e => ?_) (fun e => ?_)
    · refine ⟨.str z, rfl, _, hd, small_line' ?_, same_put sm hD, ?_⟩
      · rw [List.length_map]
        have := List.length_filter_le (fun z => decide (z ∈ ms)) (ns.take i)
        rw [List.length_take] at this
        omega
      · rw [upd_same, filt_t hz (show decide (z ∈ ms) = true by simpa using e), List.map_append]
        rfl
    · refine ⟨sm, ?_⟩
      rw [filt_f hz (show decide (z ∈ ms) = false by simpa using e)]
      exact hd
  · obtain ⟨sm, hd⟩ := hI
    rw [List.length_map, List.take_length] at hd
    refine ⟨D, _, rfl, .inl ⟨SqL.of hd, fun l hl => ?_⟩⟩
    exact q _ l (sm.trans (same_new hl _)) upd_same
/-! ### _not_total -/
def spTotal (K : PySem.W.Frag) (P : Program) (w : World) : Sp := fun vs H Q _ => ∃ (l d : Addr) (R : List Pr), vs = [.ref l, .ref d] ∧ PL K H l R ∧ PD K P w H d R ∧ ∀ H' x, Same H H' → Told K H' x (totO R) → Q x H'
theorem ok_total (F : Fun K "_not_total" "_not_total" sTotal f fd) : FnOk P w K mg base CX0 (k + 1) f fd ["chosen", "present"] (spTotal K P w) := by
  refine F.ok scTotal (fun vs H Q E h => ?_) (fun cdv A outer s H vs Q E hr h => ?_)
  · obtain ⟨l, d, R, rfl, _⟩ := h
    rfl
  obtain ⟨l, d, R, rfl, hl, hd, q⟩ := h
  refine ⟨_, pss_cons (ps_for PassesOwn.never rfl (pi_list (pv 0)) (pg_tup (by rfl) (pgs_cons (pg_name (i := 2) scTotal.nd rfl (.inl rfl)) (pgs_cons (pg_name (i := 3) scTotal.nd rfl (.inl rfl)) pgs_nil)))
      (pss_one (ps_if (pt_cmpR (op_notInN hr.units) (pe_tup (pa_cons (pv 3) (pa_cons (pv 3) pa_nil))) (pv 1) (by rfl)) (pss_one (ps_ret (pe_tup (pa_cons pe_str (pa_cons (pe_tup (pa_cons (pv 2) (pa_cons (pv 3) pa_nil))) pa_nil))))) pss_nil)))
    (pss_one (ps_ret pe_non)), ?_⟩
  obtain ⟨xs, hS, hx⟩ := hl.ex
  refine ⟨.ref l, rfl, l, rfl, ⟨_, hS⟩, for_list (xs := xs) (fun i σ H1 => (∃ y2 y3, σ = [some (.ref l), some (.ref d), y2, y3]) ∧ Same H H1 ∧ ∀ p ∈ R.take i, totIn R p = none) ⟨⟨none, none, rfl⟩, fun _ _ e => e, by simp⟩ (fun i σ H1 _ hI => hI.2.1.seq hS) (fun i x σ H1 hxi hI => ?_) (fun σ H1 hI => ?_)⟩
  · obtain ⟨⟨y2, y3, rfl⟩, sm, h0⟩ := hI
    obtain ⟨dd, hdd, hxd⟩ := dpAll_at' hx hxi
    obtain ⟨p, hp, rfl⟩ := map_at hdd
    obtain ⟨a, y, z, rfl, hP, hy, hz⟩ := of_pd ((Stay.same sm).pd hxd)
    refine ⟨a, [y, z], rfl, hP, rfl, y, [z], rfl, z, [], rfl, rfl, ?_⟩
    refine ⟨z, rfl, z, rfl, by show 2 ≤ sizeLine; decide, fun t ht => ?_⟩
    have st : Same H1 (upd H1 t (.tup [z, z])) := same_new ht _
    have dt : Dp K (upd H1 t (.tup [z, z])) (.ref t) (pd (p.2, p.2)) := to_pd (SqT.of upd_same) ((Stay.same st).wd hz) ((Stay.same st).wd hz)
    obtain ⟨kvs, hd1, hd2, hd3⟩ := (hd.same (sm.trans st)).ex
    refine ⟨.ref d, rfl, t, d, kvs, pd (p.2, p.2), rfl, rfl, hd1, hd2, good_pd _, dt, fun b hb => ⟨_, rfl, ?_⟩⟩
    rw [hd3, pd_mem] at hb
    refine ite2 (fun e => ?_) (fun e => ?_)
    · have nb : (p.2, p.2) ∉ R := fun h => by
        rw [hb.mpr h] at e
        exact absurd e (by decide)
      refine ⟨y, rfl, z, rfl, by show 2 ≤ sizeLine; decide, fun u hu => ⟨by show 2 ≤ sizeLine; decide, fun v hv => ?_⟩⟩
      have su := same_new hu (.tup [y, z])
      have sv := same_new hv (.tup [.str totalS, .ref u])
      refine q _ _ (sm.trans (st.trans (su.trans sv))) ?_
      have e0 : totIn R p = some (.tuple [.str totalS, pd p]) := by
        unfold totIn
        rw [if_neg nb]
      have et : totO R = some (.tuple [.str totalS, pd p]) := first_at h0 hp e0
      rw [et]
      exact ⟨⟨v, rfl⟩, by simp [okD, okDs, ok_pd], .tup (SqT.of upd_same) (.cons (.str _) (.cons (mk_pd (.same (st.trans (su.trans sv))) (sv _ _ upd_same) hy hz) .nil))⟩
    · have nb : (p.2, p.2) ∈ R := hb.mp (by simpa using e)
      refine ⟨⟨_, _, rfl⟩, sm.trans st, none_snoc h0 hp ?_⟩
      unfold totIn
      rw [if_pos nb]
  · obtain ⟨⟨y2, y3, rfl⟩, sm, h0⟩ := hI
    refine q H1 _ sm ?_
    have xl : xs.length = R.length := by rw [dpAll_len hx, List.length_map]
    rw [xl, List.take_length] at h0
    have et : totO R = none := first_none h0
    rw [et]
    exact rfl
/-! ### _not_upward -/
def spUpward (K : PySem.W.Frag) (P : Program) (w : World) : Sp := fun vs H Q _ => ∃ (l d : Addr) (R : List Pr), vs = [.ref l, .ref d] ∧ PL K H l R ∧ PD K P w H d R ∧ R.length ≤ 1000 ∧ (∀ p ∈ R, IsW p.1 ∧ IsW p.2) ∧ ∀ H' x, Same H H' → Told K H' x (upO R) → Q x H'
theorem ok_upward {f1 : Addr} {fd1 : FuncData} (F : Fun K "_not_upward" "_not_upward" sUpward f fd) (G1 : FnOk P w K mg base CX0 k f1 fd1 ["names", "wanted"] (spHasAll K)) (b1 : Binds K fd1 ["names", "wanted"] []) (k1 : PySem.W.keepIn K (.ref f1) = true) (m1 : mg "has_all" = some (.ref f1)) :
    FnOk P w K mg base CX0 (k + 1) f fd ["chosen", "present"] (spUpward K P w) := by
  refine F.ok scUpward (fun vs H Q E h => ?_) (fun cdv A outer s H vs Q E hr h => ?_)
  · obtain ⟨l, d, R, rfl, _⟩ := h
    rfl
  obtain ⟨l, d, R, rfl, hl, hd, few, hR, q⟩ := h
  refine ⟨_, pss_cons (ps_setLc (i := 4) (own := [("here", 2), ("there", 3)]) (g := gTup K 2 (gCons (gName 2) (gCons (gName 3) gNil))) (by rfl) scUpward.nd rfl rfl (sw_true rfl rfl rfl (by decide +kernel)) (pi_list (pv 0)) (blkOk_by (N := ["chosen", "present", "here", "there", "tops", "high"]) (sc := defScope sUpward) (by decide +kernel))
        (fun _ _ _ _ _ => pg_tup (by rfl) (pgs_cons (pg_name (i := 2) scUpward.nd rfl (.inl rfl)) (pgs_cons (pg_name (i := 3) scUpward.nd rfl (.inl rfl)) pgs_nil))) (fun _ _ _ _ _ => pts_one (pt_cmpR (r := rEqD K) (op_eqD hr.units) (pv 2) (pv 3) (nomark _))) (fun _ _ _ _ _ => pv 3))
    (pss_cons (ps_for PassesOwn.never rfl (pi_list (pv 0)) (pg_tup (by rfl) (pgs_cons (pg_name (i := 2) scUpward.nd rfl (.inl rfl)) (pgs_cons (pg_name (i := 3) scUpward.nd rfl (.inl rfl)) pgs_nil)))
      (pss_one (ps_for PassesOwn.never rfl (pi_list (pv 4)) (pg_name (i := 5) scUpward.nd rfl (.inl rfl))
        (pss_one (ps_if (PW.pt (pw_and (pt_val (pe_call G1 hr (by rfl) m1 k1 b1 .nil pass0 (pa_cons (pv 5) (pa_cons (pv 3) pa_nil)))) (pw_and1 (pt_cmpR (op_notInN hr.units) (pe_tup (pa_cons (pv 2) (pa_cons (pv 5) pa_nil))) (pv 1) (by rfl)))))
          (pss_one (ps_ret (pe_tup (pa_cons pe_str (pa_cons (pe_tup (pa_cons (pv 2) (pa_cons (pv 3) pa_nil))) (pa_cons (pv 5) pa_nil)))))) pss_nil)))))
    (pss_one (ps_ret pe_non))), ?_⟩
  obtain ⟨xs, hS, hx⟩ := hl.ex
  have xl : xs.length = R.length := by rw [dpAll_len hx, List.length_map]
  refine ⟨.ref l, rfl, l, rfl, ⟨_, hS⟩, fun D hD => ?_⟩
  refine lc_list (xs := xs) (fun i H1 => Same H H1 ∧ ∃ ys, H1 D = some (.lst ys) ∧ DpAll K H1 ys ((tops (R.take i)).map wd)) ⟨same_new hD _, [], upd_same, .nil⟩ (fun i H1 _ hI => hI.1.seq hS) (fun i x H1 hxi hI => ?_) (fun HB hI => ?_)
  · obtain ⟨sm, ys, hdd, hys⟩ := hI
    obtain ⟨dd, hd1, hxd⟩ := dpAll_at' hx hxi
    obtain ⟨p, hp, rfl⟩ := map_at hd1
    obtain ⟨a, y, z, rfl, hP, hy, hz⟩ := of_pd ((Stay.same sm).pd hxd)
    obtain ⟨w1, w2⟩ := hR p (List.mem_of_getElem? hp)
    have il : i < R.length := (List.getElem?_eq_some_iff.mp hp).1
    refine ⟨a, [y, z], rfl, hP, rfl, y, [z], rfl, z, [], rfl, rfl, rfl, y, rfl, z, rfl, wd p.1, wd p.2, hy, hz, shaped_wd w1, shaped_wd w2, _, rfl, ?_⟩
    rw [eqv_wd]
    refine ite2 (fun e => ?_) (fun e => ?_)
    · have st : Same H (upd H1 D (.lst (ys ++ [z]))) := same_put sm hD
      refine ⟨z, rfl, ys, hdd, small_line' ?_, st, _, upd_same, ?_⟩
      · rw [dpAll_len hys, List.length_map]
        unfold tops
        rw [List.length_map]
        have := List.length_filter_le (fun p : Pr => decide (p.1 = p.2)) (R.take i)
        rw [List.length_take] at this
        omega
      · unfold tops
        rw [filt_t hp e, List.map_append, List.map_append]
        have hm : Mut (H1 D) := by rw [hdd]; exact True.intro
        refine dpAll_app ((Stay.put hm _).dpAll _ _ (okDs_all ?_) hys) (.cons ((Stay.put hm _).wd hz) .nil)
        intro d hd
        obtain ⟨q, _, rfl⟩ := List.mem_map.mp hd
        exact ok_wd q
    · refine ⟨sm, ys, hdd, ?_⟩
      unfold tops
      rw [filt_f hp (by simpa using e)]
      exact hys
  obtain ⟨sB, ys, hDB, hys⟩ := hI
  rw [xl, List.take_length] at hys
  have yl : ys.length = (tops R).length := by rw [dpAll_len hys, List.length_map]
  have hxB : DpAll K HB xs (R.map pd) := by
    obtain ⟨xs', h1, h2⟩ := (hl.same sB).ex
    exact (Stay.same sB).dpAll _ _ (okDs_all fun d hd => by obtain ⟨p, _, rfl⟩ := List.mem_map.mp hd; exact ok_pd p) hx
  refine ⟨.ref l, rfl, l, rfl, ⟨_, sB.seq hS⟩, for_list (xs := xs) (fun i σ H1 => (∃ y2 y3 y5, σ = [some (.ref l), some (.ref d), y2, y3, some (.ref D), y5]) ∧ Same HB H1 ∧ ∀ p ∈ R.take i, (tops R).findSome? (upIn R p) = none) ⟨⟨none, none, none, rfl⟩, fun _ _ e => e, by simp⟩ (fun i σ H1 _ hI => (sB.trans hI.2.1).seq hS) (fun i x σ H1 hxi hI => ?_) (fun σ H1 hI => ?_)⟩
  · obtain ⟨⟨y2, y3, y5, rfl⟩, sm, h0⟩ := hI
    obtain ⟨dd, hdd, hxd⟩ := dpAll_at' hxB hxi
    obtain ⟨p, hp, rfl⟩ := map_at hdd
    obtain ⟨a, y, z, rfl, hP, hy, hz⟩ := of_pd hxd
    obtain ⟨w1, w2⟩ := hR p (List.mem_of_getElem? hp)
    refine ⟨a, [y, z], rfl, (Stay.same sm).seq hP, rfl, y, [z], rfl, z, [], rfl, rfl, ?_⟩
    refine ⟨.ref D, rfl, D, rfl, ⟨_, SqL.of (sm _ _ hDB)⟩, for_list (xs := ys) (fun j σ H2 => (∃ y5, σ = [some (.ref l), some (.ref d), some y, some z, some (.ref D), y5]) ∧ Same HB H2 ∧ ∀ h ∈ (tops R).take j, upIn R p h = none) ⟨⟨_, rfl⟩, sm, by simp⟩ (fun j σ H2 _ hI => SqL.of (hI.2.1 _ _ hDB)) (fun j u σ H2 hu hI => ?_) (fun σ H2 hI => ?_)⟩
    · obtain ⟨⟨y5, rfl⟩, sm2, g0⟩ := hI
      obtain ⟨du, hdu, hud⟩ := dpAll_at' hys hu
      obtain ⟨h, hh, rfl⟩ := map_at hdu
      have w2l := w2.few
      refine ⟨u, rfl, z, rfl, u, z, h, p.2, rfl, (Stay.same sm2).wd hud, (Stay.same sm2).wd hz, by omega, fun H3 s3 => ⟨_, rfl, ?_⟩⟩
      have sm3 := sm2.trans s3
      refine ite2 (fun e => ?_) (fun e => ?_)
      · refine ⟨y, rfl, u, rfl, by show 2 ≤ sizeLine; decide, fun t ht => ?_⟩
        have st := sm3.trans (same_new ht (.tup [y, u]))
        have dt : Dp K (upd H3 t (.tup [y, u])) (.ref t) (pd (p.1, h)) := to_pd (SqT.of upd_same) ((Stay.same st).wd hy) ((Stay.same st).wd hud)
        obtain ⟨kvs, hd1, hd2, hd3⟩ := (hd.same (sB.trans st)).ex
        refine ⟨.ref d, rfl, t, d, kvs, pd (p.1, h), rfl, rfl, hd1, hd2, good_pd _, dt, fun b hb => ⟨_, rfl, ?_⟩⟩
        rw [hd3, pd_mem] at hb
        refine ite2 (fun e2 => ?_) (fun e2 => ?_)
        · have nb : (p.1, h) ∉ R := fun h => by
            rw [hb.mpr h] at e2
            exact absurd e2 (by decide)
          refine ⟨y, rfl, z, rfl, by show 2 ≤ sizeLine; decide, fun c hc => ⟨u, rfl, by show 3 ≤ sizeLine; decide, fun v hv => ?_⟩⟩
          have su := same_new hc (.tup [y, z])
          have sv := same_new hv (.tup [.str upwardS, .ref c, u])
          have all := st.trans (su.trans sv)
          refine q _ _ (sB.trans all) ?_
          have e0 : upIn R p h = some (.tuple [.str upwardS, pd p, wd h]) := by
            unfold upIn
            rw [if_pos ⟨e, nb⟩]
          have et : upO R = some (.tuple [.str upwardS, pd p, wd h]) := first_at h0 hp (first_at g0 hh e0)
          rw [et]
          exact ⟨⟨v, rfl⟩, by simp [okD, okDs, ok_pd, ok_wd], .tup (SqT.of upd_same) (.cons (.str _) (.cons (mk_pd (.same all) (sv _ _ upd_same) hy hz) (.cons ((Stay.same all).wd hud) .nil)))⟩
        · have nb : (p.1, h) ∈ R := hb.mp (by simpa using e2)
          refine ⟨⟨_, rfl⟩, st, none_snoc g0 hh ?_⟩
          unfold upIn
          rw [if_neg fun z => z.2 nb]
      · refine ⟨⟨_, rfl⟩, sm3, none_snoc g0 hh ?_⟩
        unfold upIn
        rw [if_neg fun z => e z.1]
    · obtain ⟨⟨y5, rfl⟩, sm2, g0⟩ := hI
      rw [yl, List.take_length] at g0
      exact ⟨⟨_, _, _, rfl⟩, sm2, none_snoc h0 hp (first_none g0)⟩
  · obtain ⟨⟨y2, y3, y5, rfl⟩, sm, h0⟩ := hI
    refine q H1 _ (sB.trans sm) ?_
    rw [xl, List.take_length] at h0
    have et : upO R = none := first_none h0
    rw [et]
    exact rfl
end
/-! ### the worlds below -/
theorem lows_t {qs : List Pr} {p : Pr} : lows (qs ++ [p]) p.2 = lows qs p.2 ++ [p.1] := by
  unfold lows
  rw [List.filter_append, List.map_append]
  simp
theorem lows_f {qs : List Pr} {p : Pr} {t : W} (h : p.2 ≠ t) : lows (qs ++ [p]) t = lows qs t := by
  unfold lows
  rw [List.filter_append, List.map_append]
  simp [h]
theorem lows_none {qs : List Pr} {t : W} (h : ∀ p ∈ qs, p.2 ≠ t) : lows qs t = [] := by
  unfold lows
  rw [List.map_eq_nil_iff, List.filter_eq_nil_iff]
  intro p hp
  simpa using h p hp
abbrev LE : Type := W × Addr × Addr
def kv (e : LE) : Ent := (wd e.1, e.2.1, .ref e.2.2)
structure Lows (K : PySem.W.Frag) (P : Program) (w : World) (H0 H : Hp) (d : Addr) (qs : List Pr) (L : List LE) : Prop where
  di : H d = some (NDO P w d (L.map kv))
  ko : KeysOk K H (L.map kv)
  ls : ∀ e ∈ L, H0 e.2.2 = none ∧ ∃ ys, H e.2.2 = some (.lst ys) ∧ DpAll K H ys ((lows qs e.1).map wd)
  al : ∀ p ∈ qs, p.2 ∈ L.map (·.1)
  n1 : (L.map (·.1)).Nodup
  n2 : (L.map (·.2.2)).Nodup
  sm : Same H0 H
  dn : H0 d = none
  fe : L.length ≤ qs.length
section
variable {P : Program} {w : World} {K : PySem.W.Frag} {mg : Str → Option Value} {base : Heap} {f : Addr} {fd : FuncData} {k : Nat} {H0 H : Hp} {d : Addr} {qs : List Pr} {L : List LE}
theorem Lows.old (h : Lows K P w H0 H d qs L) {p : Pr} {e : LE} (he : e ∈ L) (et : e.1 = p.2) {y : V} (hy : Dp K H y (wd p.1)) {o : Addr} (no : H o = none) :
    ∃ ys, (upd H o (.lst [])) e.2.2 = some (.lst ys) ∧ ys.length ≤ qs.length ∧ Lows K P w H0 (upd (upd H o (.lst [])) e.2.2 (.lst (ys ++ [y]))) d (qs ++ [p]) L := by
  obtain ⟨l0, ys, hl, hys⟩ := h.ls e he
  have s1 : Same H (upd H o (.lst [])) := same_new no _
  have hl1 := s1 _ _ hl
  have hm : Mut ((upd H o (.lst [])) e.2.2) := by rw [hl1]; exact True.intro
  have st : Stay H (upd (upd H o (.lst [])) e.2.2 (.lst (ys ++ [y]))) := (Stay.same s1).trans (.put hm _)
  have yl : ys.length = (lows qs e.1).length := by rw [dpAll_len hys, List.length_map]
  have dl : d ≠ e.2.2 := fun z => by
    have := h.di
    rw [z, hl] at this
    cases this
  refine ⟨ys, hl1, ?_, ?_, h.ko.stay st, fun e' he' => ?_, fun q hq => ?_, h.n1, h.n2, ?_, h.dn, ?_⟩
  · rw [yl]
    unfold lows
    rw [List.length_map]
    exact List.length_filter_le _ _
  · rw [upd_ne dl]
    exact s1 _ _ h.di
  · obtain ⟨l0', ys', hl', hys'⟩ := h.ls e' he'
    refine ⟨l0', ?_⟩
    by_cases c : e' = e
    · subst c
      rw [hl] at hl'
      cases hl'
      refine ⟨ys ++ [y], upd_same, ?_⟩
      rw [et, lows_t, List.map_append]
      rw [et] at hys
      exact dpAll_app (st.dpAll _ _ (okDs_wd _) hys) (.cons (st.wd hy) .nil)
    · have nl : e'.2.2 ≠ e.2.2 := fun z => c (map_inj_nodup h.n2 e' he' e he z)
      have nt : p.2 ≠ e'.1 := fun z => c (map_inj_nodup h.n1 e' he' e he (by rw [← z, et]))
      refine ⟨ys', ?_, ?_⟩
      · rw [upd_ne nl]
        exact s1 _ _ hl'
      · rw [lows_f nt]
        exact st.dpAll _ _ (okDs_wd _) hys'
  · rcases List.mem_append.mp hq with hq | hq
    · exact h.al q hq
    · rw [List.mem_singleton.mp hq, ← et]
      exact List.mem_map.mpr ⟨e, he, rfl⟩
  · exact same_put (h.sm.trans s1) l0
  · rw [List.length_append, List.length_singleton]
    exact Nat.le_succ_of_le h.fe
theorem Lows.new (h : Lows K P w H0 H d qs L) {p : Pr} (hn : p.2 ∉ L.map (·.1)) {y z : V} (hy : Dp K H y (wd p.1)) {a : Addr} (ha : Dp K H (.ref a) (wd p.2)) {o : Addr} (no : H o = none) :
    (upd (upd H o (.lst [])) d (NDO P w d (L.map kv ++ [kv (p.2, a, o)]))) o = some (.lst []) ∧
    Lows K P w H0 (upd (upd (upd H o (.lst [])) d (NDO P w d (L.map kv ++ [kv (p.2, a, o)]))) o (.lst ([] ++ [y]))) d (qs ++ [p]) (L ++ [(p.2, a, o)]) := by
  have s1 : Same H (upd H o (.lst [])) := same_new no _
  have hod : o ≠ d := fun z => by
    have := h.di
    rw [← z, no] at this
    cases this
  have hm1 : Mut ((upd H o (.lst [])) d) := by rw [s1 _ _ h.di]; exact True.intro
  have ho : (upd (upd H o (.lst [])) d (NDO P w d (L.map kv ++ [kv (p.2, a, o)]))) o = some (.lst []) := by
    rw [upd_ne hod, upd_same]
  have hm2 : Mut ((upd (upd H o (.lst [])) d (NDO P w d (L.map kv ++ [kv (p.2, a, o)]))) o) := by rw [ho]; exact True.intro
  have st : Stay H (upd (upd (upd H o (.lst [])) d (NDO P w d (L.map kv ++ [kv (p.2, a, o)]))) o (.lst ([] ++ [y]))) := ((Stay.same s1).trans (.put hm1 _)).trans (.put hm2 _)
  refine ⟨ho, ?_, ?_, fun e he => ?_, fun q hq => ?_, ?_, ?_, ?_, h.dn, ?_⟩
  · rw [upd_ne hod.symm, upd_same, List.map_append]
    rfl
  · intro e he
    rw [List.map_append] at he
    rcases List.mem_append.mp he with he | he
    · exact h.ko.stay st e he
    · rw [List.map_singleton, List.mem_singleton] at he
      subst he
      exact ⟨good_wd _, st.wd ha⟩
  · rcases List.mem_append.mp he with he | he
    · obtain ⟨l0, ys, hl, hys⟩ := h.ls e he
      have nt : p.2 ≠ e.1 := fun z => hn (by rw [z]; exact List.mem_map.mpr ⟨e, he, rfl⟩)
      have n1 : e.2.2 ≠ o := fun z => by
        rw [z, no] at hl
        cases hl
      have n2 : e.2.2 ≠ d := fun z => by
        rw [z, h.di] at hl
        cases hl
      refine ⟨l0, ys, ?_, ?_⟩
      · rw [upd_ne n1, upd_ne n2, upd_ne n1]
        exact hl
      · rw [lows_f nt]
        exact st.dpAll _ _ (okDs_wd _) hys
    · rw [List.mem_singleton] at he
      subst he
      refine ⟨none_back h.sm no, [] ++ [y], upd_same, ?_⟩
      have e0 : lows qs p.2 = [] := lows_none fun q hq z => hn (by rw [← z]; exact h.al q hq)
      show DpAll K _ _ ((lows (qs ++ [p]) p.2).map wd)
      rw [lows_t, e0]
      exact .cons (st.wd hy) .nil
  · rw [List.map_append]
    rcases List.mem_append.mp hq with hq | hq
    · exact List.mem_append_left _ (h.al q hq)
    · rw [List.mem_singleton.mp hq]
      exact List.mem_append_right _ (List.mem_singleton.mpr rfl)
  · rw [List.map_append]
    exact List.nodup_append.mpr ⟨h.n1, by simp, fun x hx y hy z => hn (by rw [List.map_singleton, List.mem_singleton] at hy; rw [← show y = p.2 from hy, ← z]; exact hx)⟩
  · rw [List.map_append]
    refine List.nodup_append.mpr ⟨h.n2, by simp, fun x hx y hy z => ?_⟩
    rw [List.map_singleton, List.mem_singleton] at hy
    obtain ⟨e, he, rfl⟩ := List.mem_map.mp hx
    obtain ⟨_, ys, hl, _⟩ := h.ls e he
    rw [z, show y = o from hy, no] at hl
    cases hl
  · exact same_put (same_put (h.sm.trans s1) h.dn) (none_back h.sm no)
  · rw [List.length_append, List.length_append]
    exact Nat.add_le_add_right h.fe 1
/-! ### _worlds_below -/
def spBelow (K : PySem.W.Frag) (P : Program) (w : World) : Sp := fun vs H Q _ => ∃ (l : Addr) (R : List Pr), vs = [.ref l] ∧ PL K H l R ∧ R.length ≤ 1000 ∧ ∀ H' d L, Lows K P w H H' d R L → Q (.ref d) H'
theorem ok_below (F : Fun K "_worlds_below" "_worlds_below" sBelow f fd) : FnOk P w K mg base CX0 (k + 1) f fd ["chosen"] (spBelow K P w) := by
  refine F.ok scBelow (fun vs H Q E h => ?_) (fun cdv A outer s H vs Q E hr h => ?_)
  · obtain ⟨l, R, rfl, _⟩ := h
    rfl
  obtain ⟨l, R, rfl, hl, few, q⟩ := h
  refine ⟨_, pss_cons (ps_set (i := 1) scBelow.nd rfl (.inl rfl) pe_dnewN)
    (pss_cons (ps_for PassesOwn.never rfl (pi_list (pv 0)) (pg_tup (by rfl) (pgs_cons (pg_name (i := 2) scBelow.nd rfl (.inl rfl)) (pgs_cons (pg_name (i := 3) scBelow.nd rfl (.inl rfl)) pgs_nil)))
      (pss_one (ps_expr (pe_bm PySem.F.plainAttrs_list PySem.F.slot_list_append PySem.F.type_list_append mt_append (pe_setdN hr.units (pv 1) (pv 3) (pe_lst pa_nil) ⟨rfl, rfl, rfl, rfl⟩) (pa_cons (pv 2) pa_nil)))))
    (pss_one (ps_ret (pv 1)))), ?_⟩
  obtain ⟨xs, hS, hx⟩ := hl.ex
  have xl : xs.length = R.length := by rw [dpAll_len hx, List.length_map]
  refine fun d hd => ?_
  refine ⟨.ref l, rfl, l, rfl, ⟨_, (same_new hd _).seq hS⟩, for_list (xs := xs) (fun i σ H1 => (∃ y2 y3, σ = [some (.ref l), some (.ref d), y2, y3]) ∧ ∃ L, Lows K P w H H1 d (R.take i) L) ⟨⟨none, none, rfl⟩, [], ?_⟩ (fun i σ H1 _ hI => hI.2.elim fun L z => z.sm.seq hS) (fun i x σ H1 hxi hI => ?_) (fun σ H1 hI => ?_)⟩
  · exact ⟨upd_same, (fun _ z => nomatch z), (fun _ z => nomatch z), by simp, List.nodup_nil, List.nodup_nil, same_new hd _, hd, by simp⟩
  · obtain ⟨⟨y2, y3, rfl⟩, L, hL⟩ := hI
    obtain ⟨dd, hdd, hxd⟩ := dpAll_at' hx hxi
    obtain ⟨p, hp, rfl⟩ := map_at hdd
    obtain ⟨a, y, z, rfl, hP, hy, hz⟩ := of_pd ((Stay.same hL.sm).pd hxd)
    refine ⟨a, [y, z], rfl, hP, rfl, y, [z], rfl, z, [], rfl, rfl, ?_⟩
    obtain ⟨c, rfl, hc⟩ := of_wd hz
    have il : i < R.length := (List.getElem?_eq_some_iff.mp hp).1
    refine ⟨.ref d, rfl, d, _, rfl, hL.di, .ref c, rfl, Nat.zero_le _, fun o no => ?_⟩
    have s1 : Same H1 (upd H1 o (.lst [])) := same_new no _
    have hLl := hL.fe
    rw [List.length_take] at hLl
    refine ⟨c, L.map kv, wd p.2, rfl, s1 _ _ hL.di, hL.ko.stay (.same s1), good_wd _, (Stay.same s1).wd hz, by rw [List.length_map]; omega, fun e he ek => ?_, fun hn => ?_⟩
    · obtain ⟨e0, he0, rfl⟩ := List.mem_map.mp he
      obtain ⟨ys, h1, h2, h3⟩ := hL.old (p := p) he0 (wd_inj ek) hy no
      rw [List.length_take] at h2
      refine ⟨.inl ⟨rfl, _, SqL.of h1⟩, y, rfl, e0.2.2, ys, y, rfl, rfl, h1, small_line' (by omega), ⟨_, _, rfl⟩, L, ?_⟩
      rw [take_snoc hp]
      exact h3
    · have hn' : p.2 ∉ L.map (·.1) := fun hm => by
        obtain ⟨e, he, ee⟩ := List.mem_map.mp hm
        exact hn (List.mem_map.mpr ⟨kv e, List.mem_map.mpr ⟨e, he, rfl⟩, by show wd e.1 = wd p.2; rw [ee]⟩)
      obtain ⟨h1, h3⟩ := hL.new (p := p) (z := y) hn' hy hz no
      refine ⟨.inl ⟨rfl, _, SqL.of h1⟩, y, rfl, o, [], y, rfl, rfl, h1, small_line' (Nat.zero_le _), ⟨_, _, rfl⟩, L ++ [(p.2, c, o)], ?_⟩
      rw [take_snoc hp]
      exact h3
  · obtain ⟨⟨y2, y3, rfl⟩, L, hL⟩ := hI
    rw [xl, List.take_length] at hL
    exact ⟨_, rfl, q H1 d L hL⟩
/-! ### _not_meeting -/
def spMeeting (K : PySem.W.Frag) (P : Program) (w : World) : Sp := fun vs H Q _ => ∃ (l d : Addr) (R : List Pr), vs = [.ref l, .ref d] ∧ PL K H l R ∧ PD K P w H d R ∧ R.length ≤ 1000 ∧ (∀ p ∈ R, IsW p.1 ∧ IsW p.2) ∧ ∀ H' x, Same H H' → Told K H' x (meO R) → Q x H'
theorem ok_meeting {f1 f2 : Addr} {fd1 fd2 : FuncData} (F : Fun K "_not_meeting" "_not_meeting" sMeeting f fd) (G1 : FnOk P w K mg base CX0 k f1 fd1 ["chosen"] (spBelow K P w)) (b1 : Binds K fd1 ["chosen"] []) (k1 : PySem.W.keepIn K (.ref f1) = true) (m1 : mg "_worlds_below" = some (.ref f1))
    (G2 : FnOk P w K mg base CX0 k f2 fd2 ["one", "other"] (spCommon K)) (b2 : Binds K fd2 ["one", "other"] []) (k2 : PySem.W.keepIn K (.ref f2) = true) (m2 : mg "_common" = some (.ref f2)) :
    FnOk P w K mg base CX0 (k + 1) f fd ["chosen", "present"] (spMeeting K P w) := by
  refine F.ok scMeeting (fun vs H Q E h => ?_) (fun cdv A outer s H vs Q E hr h => ?_)
  · obtain ⟨l, d, R, rfl, _⟩ := h
    rfl
  obtain ⟨l, d, R, rfl, hl, hd, few, hR, q⟩ := h
  refine ⟨_, pss_cons (ps_set (i := 2) scMeeting.nd rfl (.inl rfl) (pe_call G1 hr (by rfl) m1 k1 b1 .nil pass0 (pa_cons (pv 0) pa_nil)))
    (pss_cons (ps_for PassesOwn.never rfl (pi_list (pv 0)) (pg_tup (by rfl) (pgs_cons (pg_name (i := 3) scMeeting.nd rfl (.inl rfl)) (pgs_cons (pg_name (i := 4) scMeeting.nd rfl (.inl rfl)) pgs_nil)))
      (pss_one (ps_for PassesOwn.never rfl (pi_list (pe_getN hr.units (pv 2) (pv 4) (fun _ _ => rfl))) (pg_name (i := 5) scMeeting.nd rfl (.inl rfl))
        (pss_one (ps_if (pt_cmpR (op_notInN hr.units) (pe_tup (pa_cons (pe_call G2 hr (by rfl) m2 k2 b2 .nil pass0 (pa_cons (pv 3) (pa_cons (pv 5) pa_nil))) (pa_cons (pv 4) pa_nil))) (pv 1) (by rfl))
          (pss_one (ps_ret (pe_tup (pa_cons pe_str (pa_cons (pe_tup (pa_cons (pv 3) (pa_cons (pv 4) pa_nil))) (pa_cons (pe_tup (pa_cons (pv 5) (pa_cons (pv 4) pa_nil))) pa_nil)))))) pss_nil)))))
    (pss_one (ps_ret pe_non))), ?_⟩
  obtain ⟨xs, hS, hx⟩ := hl.ex
  have xl : xs.length = R.length := by rw [dpAll_len hx, List.length_map]
  refine ⟨.ref l, rfl, l, R, rfl, hl, few, fun HB D L hL => ?_⟩
  have sB := hL.sm
  have hxB : DpAll K HB xs (R.map pd) := (Stay.same sB).dpAll _ _ (okDs_all fun d hd => by obtain ⟨p, _, rfl⟩ := List.mem_map.mp hd; exact ok_pd p) hx
  refine ⟨.ref l, rfl, l, rfl, ⟨_, sB.seq hS⟩, for_list (xs := xs) (fun i σ H1 => (∃ y3 y4 y5, σ = [some (.ref l), some (.ref d), some (.ref D), y3, y4, y5]) ∧ Same HB H1 ∧ ∀ p ∈ R.take i, (lows R p.2).findSome? (meIn R p) = none) ⟨⟨none, none, none, rfl⟩, fun _ _ e => e, by simp⟩ (fun i σ H1 _ hI => (sB.trans hI.2.1).seq hS) (fun i x σ H1 hxi hI => ?_) (fun σ H1 hI => ?_)⟩
  · obtain ⟨⟨y3, y4, y5, rfl⟩, sm, h0⟩ := hI
    obtain ⟨dd, hdd, hxd⟩ := dpAll_at' hxB hxi
    obtain ⟨p, hp, rfl⟩ := map_at hdd
    obtain ⟨a, y, z, rfl, hP, hy, hz⟩ := of_pd hxd
    have pm := List.mem_of_getElem? hp
    obtain ⟨w1, w2⟩ := hR p pm
    refine ⟨a, [y, z], rfl, (Stay.same sm).seq hP, rfl, y, [z], rfl, z, [], rfl, rfl, ?_⟩
    obtain ⟨c, rfl, hc⟩ := of_wd hz
    refine ⟨.ref D, rfl, .ref c, rfl, c, D, L.map kv, wd p.2, rfl, rfl, sm _ _ hL.di, hL.ko.stay (.same sm), good_wd _, (Stay.same sm).wd hz, ?_, fun e he ek => ?_⟩
    · obtain ⟨e, he, ee⟩ := List.mem_map.mp (hL.al p pm)
      exact List.mem_map.mpr ⟨kv e, List.mem_map.mpr ⟨e, he, rfl⟩, by show wd e.1 = wd p.2; rw [ee]⟩
    obtain ⟨e0, he0, rfl⟩ := List.mem_map.mp he
    have et : e0.1 = p.2 := wd_inj ek
    obtain ⟨_, ys, hDB, hys⟩ := hL.ls e0 he0
    rw [et] at hys
    have yl : ys.length = (lows R p.2).length := by rw [dpAll_len hys, List.length_map]
    refine ⟨e0.2.2, rfl, ⟨_, SqL.of (sm _ _ hDB)⟩, for_list (xs := ys) (fun j σ H2 => (∃ y5, σ = [some (.ref l), some (.ref d), some (.ref D), some y, some (.ref c), y5]) ∧ Same HB H2 ∧ ∀ h ∈ (lows R p.2).take j, meIn R p h = none) ⟨⟨_, rfl⟩, sm, by simp⟩ (fun j σ H2 _ hI => SqL.of (hI.2.1 _ _ hDB)) (fun j u σ H2 hu hI => ?_) (fun σ H2 hI => ?_)⟩
    · obtain ⟨⟨y5, rfl⟩, sm2, g0⟩ := hI
      obtain ⟨du, hdu, hud⟩ := dpAll_at' hys hu
      obtain ⟨h, hh, rfl⟩ := map_at hdu
      have w1l := w1.few
      refine ⟨y, rfl, u, rfl, y, u, p.1, h, rfl, (Stay.same sm2).wd hy, (Stay.same sm2).wd hud, by omega, fun H3 m s3 hm => ⟨.ref c, rfl, by show 2 ≤ sizeLine; decide, fun t ht => ?_⟩⟩
      have sm3 := sm2.trans s3
      have s4 := same_new ht (.tup [.ref m, .ref c])
      have st := sm3.trans s4
      have dt : Dp K (upd H3 t (.tup [.ref m, .ref c])) (.ref t) (pd (meet p.1 h, p.2)) := to_pd (SqT.of upd_same) (to_wd (SqT.of (s4 _ _ hm))) ((Stay.same st).wd hz)
      obtain ⟨kvs, hd1, hd2, hd3⟩ := (hd.same (sB.trans st)).ex
      refine ⟨.ref d, rfl, t, d, kvs, pd (meet p.1 h, p.2), rfl, rfl, hd1, hd2, good_pd _, dt, fun b hb => ⟨_, rfl, ?_⟩⟩
      rw [hd3, pd_mem] at hb
      refine ite2 (fun e2 => ?_) (fun e2 => ?_)
      · have nb : (meet p.1 h, p.2) ∉ R := fun h => by
          rw [hb.mpr h] at e2
          exact absurd e2 (by decide)
        refine ⟨y, rfl, .ref c, rfl, by show 2 ≤ sizeLine; decide, fun c1 hc1 => ⟨u, rfl, .ref c, rfl, by show 2 ≤ sizeLine; decide, fun c2 hc2 => ⟨by show 3 ≤ sizeLine; decide, fun v hv => ?_⟩⟩⟩
        have su := same_new hc1 (.tup [y, .ref c])
        have su2 := same_new hc2 (.tup [u, .ref c])
        have sv := same_new hv (.tup [.str meetS, .ref c1, .ref c2])
        have all := st.trans (su.trans (su2.trans sv))
        refine q _ _ (sB.trans all) ?_
        have e0 : meIn R p h = some (.tuple [.str meetS, pd p, pd (h, p.2)]) := by
          unfold meIn
          rw [if_neg nb]
        have et : meO R = some (.tuple [.str meetS, pd p, pd (h, p.2)]) := first_at h0 hp (first_at g0 hh e0)
        rw [et]
        exact ⟨⟨v, rfl⟩, by simp [okD, okDs, ok_pd], .tup (SqT.of upd_same) (.cons (.str _) (.cons (mk_pd (.same all) ((su2.trans sv) _ _ upd_same) hy hz) (.cons (mk_pd (p := (h, p.2)) (.same all) (sv _ _ upd_same) hud hz) .nil)))⟩
      · have nb : (meet p.1 h, p.2) ∈ R := hb.mp (by simpa using e2)
        refine ⟨⟨_, rfl⟩, st, none_snoc g0 hh ?_⟩
        unfold meIn
        rw [if_pos nb]
    · obtain ⟨⟨y5, rfl⟩, sm2, g0⟩ := hI
      rw [yl, List.take_length] at g0
      exact ⟨⟨_, _, _, rfl⟩, sm2, none_snoc h0 hp (first_none g0)⟩
  · obtain ⟨⟨y3, y4, y5, rfl⟩, sm, h0⟩ := hI
    refine q H1 _ (sB.trans sm) ?_
    rw [xl, List.take_length] at h0
    have et : meO R = none := first_none h0
    rw [et]
    exact rfl
end
theorem okDs_pd (R : List Pr) : okDs (R.map pd) = true := okDs_all fun d hd => by
  obtain ⟨p, _, rfl⟩ := List.mem_map.mp hd
  exact ok_pd p
theorem all_pd : ∀ {ds : List PyData}, (∀ d ∈ ds, ∃ p, d = pd p) → ∃ R : List Pr, ds = R.map pd
  | [], _ => ⟨[], rfl⟩
  | d :: ds, h => by
    obtain ⟨p, rfl⟩ := h d List.mem_cons_self
    obtain ⟨R, rfl⟩ := all_pd fun e he => h e (List.mem_cons_of_mem _ he)
    exact ⟨p :: R, rfl⟩
theorem pd_nodup {R : List Pr} (h : R.Nodup) : (R.map pd).Nodup := by
  induction R with
  | nil => exact List.nodup_nil
  | cons p R ih =>
    obtain ⟨h1, h2⟩ := List.nodup_cons.mp h
    exact List.nodup_cons.mpr ⟨fun z => h1 (pd_mem.mp z), ih h2⟩
/-- a pair of worlds of a pool -/
structure IsP (pool : W) (p : Pr) : Prop where
  w1 : IsW p.1
  w2 : IsW p.2
  le : sub p.1 p.2 = true
  up : sub p.2 pool = true
/-- the pairs, a list or a tuple -/
def PS2 (K : PySem.W.Frag) (H : Hp) (l : Addr) (R : List Pr) : Prop := ∃ xs, (SqL K H l xs ∨ SqT K H l xs) ∧ DpAll K H xs (R.map pd)
theorem PS2.same {K : PySem.W.Frag} {H H' : Hp} {l : Addr} {R : List Pr} (h : PS2 K H l R) (e : Same H H') : PS2 K H' l R := by
  obtain ⟨xs, h1, h2⟩ := h
  exact ⟨xs, h1.elim (fun z => .inl (e.seq z)) (fun z => .inr (same_tup e z)), (Stay.same e).dpAll _ _ (okDs_pd R) h2⟩
section
variable {P : Program} {w : World} {K : PySem.W.Frag} {mg : Str → Option Value} {base : Heap} {f : Addr} {fd : FuncData} {k : Nat}
/-! ### _why_not -/
def spWhyNot (K : PySem.W.Frag) : Sp := fun vs H Q _ => ∃ (l : Addr) (z : Str) (R : List Pr), vs = [.ref l, .str z] ∧ PL K H l R ∧ R.Nodup ∧ R.length ≤ 1000 ∧ (∀ p ∈ R, IsW p.1 ∧ IsW p.2) ∧ ∀ H' x, Same H H' → Told K H' x (whyO R z) → Q x H'
theorem ok_whyNot {f1 f2 f3 : Addr} {fd1 fd2 fd3 : FuncData} (F : Fun K "_why_not" "_why_not" sWhyNot f fd) (G1 : FnOk P w K mg base CX0 k f1 fd1 ["chosen", "present"] (spTotal K P w)) (b1 : Binds K fd1 ["chosen", "present"] []) (k1 : PySem.W.keepIn K (.ref f1) = true) (m1 : mg "_not_total" = some (.ref f1))
    (G2 : FnOk P w K mg base CX0 k f2 fd2 ["chosen", "present"] (spUpward K P w)) (b2 : Binds K fd2 ["chosen", "present"] []) (k2 : PySem.W.keepIn K (.ref f2) = true) (m2 : mg "_not_upward" = some (.ref f2))
    (G3 : FnOk P w K mg base CX0 k f3 fd3 ["chosen", "present"] (spMeeting K P w)) (b3 : Binds K fd3 ["chosen", "present"] []) (k3 : PySem.W.keepIn K (.ref f3) = true) (m3 : mg "_not_meeting" = some (.ref f3)) :
    FnOk P w K mg base CX0 (k + 1) f fd ["chosen", "kind"] (spWhyNot K) := by
  refine F.ok scWhyNot (fun vs H Q E h => ?_) (fun cdv A outer s H vs Q E hr h => ?_)
  · obtain ⟨l, z, R, rfl, _⟩ := h
    rfl
  obtain ⟨l, z, R, rfl, hl, hn, few, hR, q⟩ := h
  refine ⟨_, pss_cons (ps_setDictTrue (i := 2) (own := [("pair", 4)]) (by rfl) hr.units scWhyNot.nd rfl rfl (sw_trueD rfl rfl rfl (by decide +kernel)) (pv 0) (blkOk_by (N := ["chosen", "kind", "present", "why", "pair"]) (sc := defScope sWhyNot) (by decide +kernel)) rfl rfl (by decide +kernel))
    (pss_cons (ps_set (i := 3) scWhyNot.nd rfl (.inl rfl) (pe_call G1 hr (by rfl) m1 k1 b1 .nil pass0 (pa_cons (pv 0) (pa_cons (pv 2) pa_nil))))
    (pss_cons (ps_if (PW.pt (pw_and (pt_cmpR op_isN (pv 3) pe_non (nomark _)) (pw_and1 (pt_cmpR op_ne (pv 1) pe_str (nomark _))))) (pss_one (ps_set (i := 3) scWhyNot.nd rfl (.inl rfl) (pe_call G2 hr (by rfl) m2 k2 b2 .nil pass0 (pa_cons (pv 0) (pa_cons (pv 2) pa_nil))))) pss_nil)
    (pss_cons (ps_if (PW.pt (pw_and (pt_cmpR op_isN (pv 3) pe_non (nomark _)) (pw_and1 (pt_cmpR op_eq (pv 1) pe_str (nomark _))))) (pss_one (ps_set (i := 3) scWhyNot.nd rfl (.inl rfl) (pe_call G3 hr (by rfl) m3 k3 b3 .nil pass0 (pa_cons (pv 0) (pa_cons (pv 2) pa_nil))))) pss_nil)
    (pss_one (ps_ret (pv 3)))))), ?_⟩
  obtain ⟨xs, hS, hx⟩ := hl.ex
  refine ⟨.ref l, rfl, l, xs, R.map pd, rfl, hS, hx, (fun d hd => by obtain ⟨p, _, rfl⟩ := List.mem_map.mp hd; exact good_pd p), pd_nodup hn, by rw [List.length_map]; exact few, fun D kvs hD e ko => ?_⟩
  have sD : Same H (upd H D (NDO P w D kvs)) := same_new hD _
  have hd : PD K P w (upd H D (NDO P w D kvs)) D R := ⟨kvs, upd_same, ko.stay (.same sD), e⟩
  refine ⟨.ref l, rfl, .ref D, rfl, l, D, R, rfl, hl.same sD, hd, fun H1 x s1 tx => ?_⟩
  have a1 := sD.trans s1
  refine ⟨x, rfl, rfl, _, rfl, ?_⟩
  rw [told_isN tx]
  have fin : ∀ H' x' o, Same H H' → Told K H' x' o → whyO R z = o → Q x' H' := fun H' x' o sm t e => q H' x' sm (by rw [e]; exact t)
  cases e1 : totO R with
  | some d1 =>
    rw [e1] at tx
    refine iteF ⟨x, rfl, rfl, _, rfl, ?_⟩
    rw [told_isN tx]
    refine iteF ⟨x, rfl, fin H1 x _ a1 tx ?_⟩
    unfold whyO
    rw [e1]
    rfl
  | none =>
    rw [e1] at tx
    refine iteT ⟨.str z, rfl, rfl, _, rfl, ?_⟩
    refine ite2 (fun c => ?_) (fun c => ?_)
    · have nz : z ≠ anyS := fun e => by
        rw [e] at c
        exact absurd c (by decide)
      refine ⟨.ref l, rfl, .ref D, rfl, l, D, R, rfl, hl.same a1, hd.same s1, few, hR, fun H2 x2 s2 tx2 => ?_⟩
      have a2 := a1.trans s2
      refine ⟨x2, rfl, rfl, _, rfl, ?_⟩
      rw [told_isN tx2]
      cases e2 : upO R with
      | some d2 =>
        rw [e2] at tx2
        refine iteF ⟨x2, rfl, fin H2 x2 _ a2 tx2 ?_⟩
        unfold whyO
        rw [e1, if_neg nz, e2]
        rfl
      | none =>
        rw [e2] at tx2
        refine iteT ⟨.str z, rfl, rfl, _, rfl, ?_⟩
        refine ite2 (fun c2 => ?_) (fun c2 => ?_)
        · have ez : z = singleS := V.str.inj (of_decide_eq_true c2)
          refine ⟨.ref l, rfl, .ref D, rfl, l, D, R, rfl, hl.same a2, hd.same (s1.trans s2), few, hR, fun H3 x3 s3 tx3 => ?_⟩
          refine ⟨x3, rfl, fin H3 x3 _ (a2.trans s3) tx3 ?_⟩
          unfold whyO
          rw [e1, if_neg nz, e2, if_pos ez]
          rfl
        · have ez : z ≠ singleS := fun e => c2 (by rw [e]; exact decide_eq_true rfl)
          refine ⟨x2, rfl, fin H2 x2 _ a2 tx2 ?_⟩
          unfold whyO
          rw [e1, if_neg nz, e2, if_neg ez]
          rfl
    · have ez : z = anyS := by
        have c' : decide (V.str z = V.str ("any" : Str)) = true := by simpa using c
        exact V.str.inj (of_decide_eq_true c')
      refine ⟨x, rfl, rfl, _, rfl, ?_⟩
      rw [told_isN tx]
      refine iteT ⟨.str z, rfl, rfl, _, rfl, ?_⟩
      have ns : decide (V.str z = V.str ("single" : Str)) = false := decide_eq_false fun e => by
        rw [ez] at e
        exact absurd (V.str.inj e) (by decide)
      refine ite2 (fun c2 => by rw [ns] at c2; exact absurd c2 (by decide)) (fun _ => ?_)
      refine ⟨x, rfl, fin H1 x _ a1 tx ?_⟩
      unfold whyO
      rw [e1, if_pos ez, if_neg fun e => absurd (ez.symm.trans e) (by decide)]
      rfl
end
end Rw
namespace Rw
open PySem PySem.Spec PyProof.Rows L2
/-! ### what is handed in -/
theorem PQ.same {K : PySem.W.Frag} {H H' : Hp} {x : V} {d : PyData} (h : PQ K H x d) (e : Same H H') : PQ K H' x d := by
  rcases h with ⟨h, n⟩ | ⟨a, y, z, dy, dz, h1, h2, h3, h4, h5⟩
  · exact .inl ⟨dp_same e _ _ h, n⟩
  · exact .inr ⟨a, y, z, dy, dz, h1, h2, same_tup e h3, h4.same e, h5.same e⟩
def Its (K : PySem.W.Frag) (H : Hp) : List V → List PyData → Prop
  | [], [] => True
  | x :: xs, d :: ds => (PQ K H x d ∧ oddP d) ∧ Its K H xs ds
  | _, _ => False
theorem Its.same {K : PySem.W.Frag} {H H' : Hp} (e : Same H H') : ∀ {xs : List V} {ds : List PyData}, Its K H xs ds → Its K H' xs ds
  | [], [], _ => True.intro
  | _ :: _, _ :: _, h => ⟨⟨h.1.1.same e, h.1.2⟩, Its.same e h.2⟩
  | [], _ :: _, h => h.elim
  | _ :: _, [], h => h.elim
theorem Its.len {K : PySem.W.Frag} {H : Hp} : ∀ {xs : List V} {ds : List PyData}, Its K H xs ds → xs.length = ds.length
  | [], [], _ => rfl
  | _ :: _, _ :: _, h => by rw [List.length_cons, List.length_cons, Its.len h.2]
  | [], _ :: _, h => h.elim
  | _ :: _, [], h => h.elim
theorem Its.at {K : PySem.W.Frag} {H : Hp} : ∀ {xs : List V} {ds : List PyData} {i : Nat} {x : V}, Its K H xs ds → xs[i]? = some x → ∃ d, ds[i]? = some d ∧ PQ K H x d ∧ oddP d
  | [], [], _, _, _, e => by simp at e
  | x :: xs, d :: ds, 0, y, h, e => by
    have : x = y := by simpa using e
    subst this
    exact ⟨d, rfl, h.1⟩
  | x :: xs, d :: ds, i + 1, y, h, e => by
    obtain ⟨d2, h1, h2⟩ := Its.at (i := i) h.2 (by simpa using e)
    exact ⟨d2, by simpa using h1, h2⟩
  | [], _ :: _, _, _, h, _ => h.elim
  | _ :: _, [], _, _, h, _ => h.elim
def goodD (ns : W) : PyData → Bool
  | .tuple [a, b] => pairD (.tuple [a, b]) && sub (namesD b) ns
  | _ => false
theorem goodD_f {ns : W} {d : PyData} (h : pairD d = false) : goodD ns d = false := by
  unfold goodD
  split
  · rw [h]
    rfl
  · rfl
theorem pairD_two {d : PyData} (h : pairD d = true) (o : oddP d) : ∃ da db n2, d = .tuple [da, db] ∧ IsW n2 ∧ db = wd n2 := by
  cases d with
  | tuple ds =>
    match ds, h, o with
    | [a, b], h, o =>
      have h' : (worldD a && (worldD b && sub (namesD a) (namesD b))) = true := h
      rw [Bool.and_eq_true, Bool.and_eq_true] at h'
      rcases o.2 with ob | rfl
      · obtain ⟨ns, hn, e⟩ := worldD_of ob h'.2.1
        exact ⟨a, b, ns, rfl, hn, e⟩
      · exact nomatch h'.2.1
  | _ => exact nomatch h
/-- what the three refusals lead to, and G if nothing is refused -/
def AskP (K : PySem.W.Frag) (CW CP CK : Addr) (l : Addr) (x kv : V) (H : Hp) (E : XK) (G : Hp → Prop) : Prop := ∃ (xs : List V) (ds : List PyData) (d dk : PyData), (SqL K H l xs ∨ SqT K H l xs) ∧ Its K H xs ds ∧ WQ K H x d ∧ Dp K H kv dk ∧ SeqAt.shaped dk = true ∧ ∀ H', Same H H' →
  (worldD d = false → ∀ dx, H' dx = none → E (.ref CW) (some dx) (upd H' dx (.xd [(("thing" : Str), x)]))) ∧
  (∀ ns, IsW ns → d = wd ns → (∀ i xi di, xs[i]? = some xi → ds[i]? = some di → goodD ns di = false → (∀ e ∈ ds.take i, goodD ns e = true) → ∀ dx, H' dx = none → E (.ref CP) (some dx) (upd H' dx (.xd [(("thing" : Str), xi)]))) ∧
    ((∀ e ∈ ds, goodD ns e = true) → (kindD dk = true → G H') ∧ (kindD dk = false → ∀ dx, H' dx = none → E (.ref CK) (some dx) (upd H' dx (.xd [(("value" : Str), kv)])))))
theorem AskP.mono {K : PySem.W.Frag} {CW CP CK l : Addr} {x kv : V} {H : Hp} {E E2 : XK} {G G2 : Hp → Prop} (h : AskP K CW CP CK l x kv H E G) (me : ∀ c d H', E c d H' → E2 c d H') (mg : ∀ H', G H' → G2 H') : AskP K CW CP CK l x kv H E2 G2 := by
  obtain ⟨xs, ds, d, dk, h1, h2, h3, h4, h5, q⟩ := h
  refine ⟨xs, ds, d, dk, h1, h2, h3, h4, h5, fun H' s => ⟨fun a dx b => me _ _ _ ((q H' s).1 a dx b), fun ns hn e => ⟨fun i xi di a b c f dx g => me _ _ _ (((q H' s).2 ns hn e).1 i xi di a b c f dx g), fun a => ⟨fun b => mg _ ((((q H' s).2 ns hn e).2 a).1 b), fun b dx c => me _ _ _ ((((q H' s).2 ns hn e).2 a).2 b dx c)⟩⟩⟩⟩
section
variable {P : Program} {w : World} {K : PySem.W.Frag} {mg : Str → Option Value} {base : Heap} {f : Addr} {fd : FuncData} {k : Nat}
def spAsked (K : PySem.W.Frag) (CW CP CK : Addr) : Sp := fun vs H Q E => ∃ (l : Addr) (x kv : V), vs = [.ref l, x, kv] ∧ AskP K CW CP CK l x kv H E (Q .non)
theorem ok_asked {f1 f2 f3 f4 aK CW CP CK : Addr} {fd1 fd2 fd3 fd4 : FuncData} (F : Fun K "_check_asked" "_check_asked" sAsked f fd) (G1 : FnOk P w K mg base (L2.CX P w) (k + 2) f1 fd1 ["thing"] (spCheckWorld K CW)) (b1 : Binds K fd1 ["thing"] []) (k1 : PySem.W.keepIn K (.ref f1) = true) (m1 : mg "check_world" = some (.ref f1))
    (G2 : FnOk P w K mg base CX0 (k + 2) f2 fd2 ["thing"] (spIsPair K)) (b2 : Binds K fd2 ["thing"] []) (k2 : PySem.W.keepIn K (.ref f2) = true) (m2 : mg "is_pair" = some (.ref f2))
    (G3 : FnOk P w K mg base CX0 (k + 2) f3 fd3 ["names", "wanted"] (spHasAll K)) (b3 : Binds K fd3 ["names", "wanted"] []) (k3 : PySem.W.keepIn K (.ref f3) = true) (m3 : mg "has_all" = some (.ref f3))
    (G4 : FnOk P w K mg base (L2.CX P w) (k + 2) f4 fd4 ["thing", "kinds"] (spCheckKind K CK)) (b4 : Binds K fd4 ["thing", "kinds"] []) (k4 : PySem.W.keepIn K (.ref f4) = true) (m4 : mg "check_kind" = some (.ref f4))
    (X : ErrT P w K mg base (k + 1) "InvalidPair" "thing" CP) (mK : mg "KINDS" = some (.ref aK)) (hK : ∀ H : Hp, SqT K H aK (kindsS.map V.str)) :
    FnOk P w K mg base (L2.CX P w) (k + 3) f fd ["pairs", "names", "kind"] (spAsked K CW CP CK) := by
  obtain ⟨fI, fdI, i1, i2, i3, i4⟩ := X.ex
  refine F.okX scAsked (fun vs H Q E h => ?_) (fun cdv A outer s H vs Q E hr h => ?_)
  · obtain ⟨l, x, kv, rfl, _⟩ := h
    rfl
  obtain ⟨l, x, kv, rfl, xs, ds, d, dk, hS, hi, hx, hk, sk, q⟩ := h
  rcases hS with hS | hS
  · refine ⟨_, pss_cons (ps_expr (pe_call G1 hr (by rfl) m1 k1 b1 .nil (passes_call (takes_of rfl rfl rfl rfl) (fun _ _ _ _ h => h)) (pa_cons (pv 1) pa_nil)))
      (pss_cons (ps_for (passes_of rfl) rfl (pi_list (pv 0)) (pg_name (i := 3) scAsked.nd rfl (.inl rfl))
        (pss_one (ps_if (PW.pt (pw_or (pt_not (pt_val (pe_call G2 hr (by rfl) m2 k2 b2 .nil pass0 (pa_cons (pv 3) pa_nil)))) (pw_or1 (pt_not (pt_val (pe_call G3 hr (by rfl) m3 k3 b3 .nil pass0 (pa_cons (pv 1) (pa_cons (pe_ix ix_tup (pv 3) pe_int (fun _ _ => rfl)) pa_nil))))))))
          (pss_one (ps_raise rfl (takes_of rfl rfl rfl rfl) (pmk_oex X.oex i1 i2 i3 hr i4 .nil pass0 (by rfl) X.m (pa_cons (pv 3) pa_nil)))) pss_nil)))
      (pss_one (ps_expr (pe_call G4 hr (by rfl) m4 k4 b4 .nil (passes_call (takes_of rfl rfl rfl rfl) (fun _ _ _ _ h => h)) (pa_cons (pv 2) (pa_cons (pe_glob (v := .ref aK) (by rfl) mK rfl) pa_nil)))))), ?_⟩
    refine ⟨x, rfl, x, d, rfl, hx, fun H1 s1 => ⟨fun wt => ?_, fun wf => (q H1 s1).1 wf⟩⟩
    obtain ⟨ns, hn, rfl, hp⟩ := hx.wd wt
    refine ⟨.ref l, rfl, l, rfl, ⟨_, s1.seq hS⟩, for_list (xs := xs) (fun i σ H2 => (∃ y3, σ = [some (.ref l), some x, some kv, y3]) ∧ Same H1 H2 ∧ ∀ e ∈ ds.take i, goodD ns e = true) ⟨⟨none, rfl⟩, fun _ _ e => e, fun e he => absurd he (by simp)⟩ (fun i σ H2 _ hI => (s1.trans hI.2.1).seq hS) (fun i u σ H2 hu hI => ?_) (fun σ H2 hI => ?_)⟩
    · obtain ⟨⟨y3, rfl⟩, sm, hg⟩ := hI
      obtain ⟨di, hdi, hpq, odd⟩ := hi.at hu
      have hpq2 := hpq.same (s1.trans sm)
      have bad : ∀ H3, Same H2 H3 → goodD ns di = false → ∀ dx, H3 dx = none → E (.ref CP) (some dx) (upd H3 dx (.xd [(("thing" : Str), u)])) := fun H3 s3 gf dx hdx => ((q H3 (s1.trans (sm.trans s3))).2 ns hn rfl).1 i u di hu hdi gf hg dx hdx
      refine ⟨u, rfl, u, di, rfl, hpq2, odd, fun H3 s3 => ⟨_, rfl, ?_⟩⟩
      cases e1 : pairD di with
      | false => exact iteT ⟨u, rfl, err_made (bad H3 s3 (goodD_f e1))⟩
      | true =>
        obtain ⟨da, db, n2, rfl, w2, ed⟩ := pairD_two e1 odd
        subst ed
        obtain ⟨a, y, z, rfl, hS2, _, hz⟩ := hpq2.two odd
        obtain ⟨n2', _, e2, hz2⟩ := hz.wd (worldD_wd w2)
        have few := w2.few
        have e2' : n2 = n2' := by
          have := congrArg namesD e2
          rw [namesD_wd, namesD_wd] at this
          exact this
        subst e2'
        refine iteF ⟨x, rfl, .ref a, rfl, a, [y, z], 1, z, rfl, rfl, same_tup s3 hS2, atI_nat (j := 1) rfl, x, z, ns, n2, rfl, (Stay.same (s1.trans (sm.trans s3))).wd hp, (Stay.same s3).wd hz2, by omega, fun H4 s4 => ⟨_, rfl, ?_⟩⟩
        have gv : goodD ns (.tuple [da, wd n2]) = sub n2 ns := by
          show (pairD (.tuple [da, wd n2]) && sub (namesD (wd n2)) ns) = _
          rw [e1, namesD_wd, Bool.true_and]
        cases e3 : sub n2 ns with
        | false => exact iteT ⟨.ref a, rfl, err_made (bad H4 (s3.trans s4) (by rw [gv, e3]))⟩
        | true =>
          refine iteF ⟨⟨_, rfl⟩, sm.trans (s3.trans s4), fun e he => ?_⟩
          rw [take_snoc hdi] at he
          rcases List.mem_append.mp he with he | he
          · exact hg e he
          · rw [List.mem_singleton.mp he, gv, e3]
    · obtain ⟨⟨y3, rfl⟩, sm, hg⟩ := hI
      rw [hi.len, List.take_length] at hg
      have z := ((q H2 (s1.trans sm)).2 ns hn rfl).2 hg
      exact ⟨kv, rfl, kv, dk, aK, rfl, dp_same (s1.trans sm) _ _ hk, sk, hK _, z.1, z.2⟩
  · refine ⟨_, pss_cons (ps_expr (pe_call G1 hr (by rfl) m1 k1 b1 .nil (passes_call (takes_of rfl rfl rfl rfl) (fun _ _ _ _ h => h)) (pa_cons (pv 1) pa_nil)))
      (pss_cons (ps_for (passes_of rfl) rfl (pi_tup (pv 0)) (pg_name (i := 3) scAsked.nd rfl (.inl rfl))
        (pss_one (ps_if (PW.pt (pw_or (pt_not (pt_val (pe_call G2 hr (by rfl) m2 k2 b2 .nil pass0 (pa_cons (pv 3) pa_nil)))) (pw_or1 (pt_not (pt_val (pe_call G3 hr (by rfl) m3 k3 b3 .nil pass0 (pa_cons (pv 1) (pa_cons (pe_ix ix_tup (pv 3) pe_int (fun _ _ => rfl)) pa_nil))))))))
          (pss_one (ps_raise rfl (takes_of rfl rfl rfl rfl) (pmk_oex X.oex i1 i2 i3 hr i4 .nil pass0 (by rfl) X.m (pa_cons (pv 3) pa_nil)))) pss_nil)))
      (pss_one (ps_expr (pe_call G4 hr (by rfl) m4 k4 b4 .nil (passes_call (takes_of rfl rfl rfl rfl) (fun _ _ _ _ h => h)) (pa_cons (pv 2) (pa_cons (pe_glob (v := .ref aK) (by rfl) mK rfl) pa_nil)))))), ?_⟩
    refine ⟨x, rfl, x, d, rfl, hx, fun H1 s1 => ⟨fun wt => ?_, fun wf => (q H1 s1).1 wf⟩⟩
    obtain ⟨ns, hn, rfl, hp⟩ := hx.wd wt
    refine ⟨.ref l, rfl, l, rfl, ⟨_, same_tup s1 hS⟩, for_tup (xs := xs) (fun i σ H2 => (∃ y3, σ = [some (.ref l), some x, some kv, y3]) ∧ Same H1 H2 ∧ ∀ e ∈ ds.take i, goodD ns e = true) ⟨⟨none, rfl⟩, fun _ _ e => e, fun e he => absurd he (by simp)⟩ (fun i σ H2 _ hI => same_tup (s1.trans hI.2.1) hS) (fun i u σ H2 hu hI => ?_) (fun σ H2 hI => ?_)⟩
    · obtain ⟨⟨y3, rfl⟩, sm, hg⟩ := hI
      obtain ⟨di, hdi, hpq, odd⟩ := hi.at hu
      have hpq2 := hpq.same (s1.trans sm)
      have bad : ∀ H3, Same H2 H3 → goodD ns di = false → ∀ dx, H3 dx = none → E (.ref CP) (some dx) (upd H3 dx (.xd [(("thing" : Str), u)])) := fun H3 s3 gf dx hdx => ((q H3 (s1.trans (sm.trans s3))).2 ns hn rfl).1 i u di hu hdi gf hg dx hdx
      refine ⟨u, rfl, u, di, rfl, hpq2, odd, fun H3 s3 => ⟨_, rfl, ?_⟩⟩
      cases e1 : pairD di with
      | false => exact iteT ⟨u, rfl, err_made (bad H3 s3 (goodD_f e1))⟩
      | true =>
        obtain ⟨da, db, n2, rfl, w2, ed⟩ := pairD_two e1 odd
        subst ed
        obtain ⟨a, y, z, rfl, hS2, _, hz⟩ := hpq2.two odd
        obtain ⟨n2', _, e2, hz2⟩ := hz.wd (worldD_wd w2)
        have few := w2.few
        have e2' : n2 = n2' := by
          have := congrArg namesD e2
          rw [namesD_wd, namesD_wd] at this
          exact this
        subst e2'
        refine iteF ⟨x, rfl, .ref a, rfl, a, [y, z], 1, z, rfl, rfl, same_tup s3 hS2, atI_nat (j := 1) rfl, x, z, ns, n2, rfl, (Stay.same (s1.trans (sm.trans s3))).wd hp, (Stay.same s3).wd hz2, by omega, fun H4 s4 => ⟨_, rfl, ?_⟩⟩
        have gv : goodD ns (.tuple [da, wd n2]) = sub n2 ns := by
          show (pairD (.tuple [da, wd n2]) && sub (namesD (wd n2)) ns) = _
          rw [e1, namesD_wd, Bool.true_and]
        cases e3 : sub n2 ns with
        | false => exact iteT ⟨.ref a, rfl, err_made (bad H4 (s3.trans s4) (by rw [gv, e3]))⟩
        | true =>
          refine iteF ⟨⟨_, rfl⟩, sm.trans (s3.trans s4), fun e he => ?_⟩
          rw [take_snoc hdi] at he
          rcases List.mem_append.mp he with he | he
          · exact hg e he
          · rw [List.mem_singleton.mp he, gv, e3]
    · obtain ⟨⟨y3, rfl⟩, sm, hg⟩ := hI
      rw [hi.len, List.take_length] at hg
      have z := ((q H2 (s1.trans sm)).2 ns hn rfl).2 hg
      exact ⟨kv, rfl, kv, dk, aK, rfl, dp_same (s1.trans sm) _ _ hk, sk, hK _, z.1, z.2⟩
end
end Rw
namespace Rw
open PySem PySem.Spec PyProof.Rows L2
abbrev sProgramOf : Stmt := topS 42
theorem scProgramOf : FnScope ["pairs", "names", "kind", "chosen", "why", "lows", "free", "rows", "there", "bars", "here", "heads", "denied"] ["pairs", "names", "kind"] (defScope sProgramOf) := ⟨rfl, rfl, rfl, by decide +kernel, rfl, by decide +kernel, by decide +kernel⟩
/-- nothing is refused: what the pairs are, and what is told of them -/
def Rest (K : PySem.W.Frag) (l : Addr) (kv : V) (R : Option PyData → V → Hp → Prop) (H1 : Hp) : Prop := ∃ z L, kv = .str z ∧ PS2 K H1 l L ∧ (∀ p ∈ L, IsW p.1 ∧ IsW p.2) ∧ L.length < 64 ∧ ∀ H' y S, Same H1 H' → S.Nodup → (∀ p, p ∈ S ↔ p ∈ L) → Told K H' y (whyO S z) → R (whyO S z) y H'
section
variable {P : Program} {w : World} {K : PySem.W.Frag} {mg : Str → Option Value} {base : Heap} {f : Addr} {fd : FuncData} {k : Nat}
def spBarred (K : PySem.W.Frag) (CW CP CK : Addr) : Sp := fun vs H Q E => ∃ (l : Addr) (x kv : V), vs = [.ref l, x, kv] ∧ AskP K CW CP CK l x kv H E (Rest K l kv fun _ y H' => Q y H')
theorem ok_barred {f1 f2 CW CP CK : Addr} {fd1 fd2 : FuncData} (F : FunD K "barred" "barred" (defArgs sBarred) (defBody sBarred) (defScope sBarred) [.str anyS] [] f fd) (T : Bl mg) (G1 : FnOk P w K mg base (L2.CX P w) (k + 3) f1 fd1 ["pairs", "names", "kind"] (spAsked K CW CP CK)) (b1 : Binds K fd1 ["pairs", "names", "kind"] []) (k1 : PySem.W.keepIn K (.ref f1) = true) (m1 : mg "_check_asked" = some (.ref f1))
    (G2 : FnOk P w K mg base CX0 (k + 3) f2 fd2 ["chosen", "kind"] (spWhyNot K)) (b2 : Binds K fd2 ["chosen", "kind"] []) (k2 : PySem.W.keepIn K (.ref f2) = true) (m2 : mg "_why_not" = some (.ref f2)) :
    FnOk P w K mg base (L2.CX P w) (k + 4) f fd ["pairs", "names", "kind"] (spBarred K CW CP CK) := by
  refine F.ok scBarred (fun vs H Q E h => ?_) (fun cdv A outer s H vs Q E hr h => ?_)
  · obtain ⟨l, x, kv, rfl, _⟩ := h
    rfl
  obtain ⟨l, x, kv, rfl, h⟩ := h
  refine ⟨_, pss_cons (ps_expr (pe_call G1 hr (by rfl) m1 k1 b1 .nil (passes_call (takes_of rfl rfl rfl rfl) (fun _ _ _ _ h => h)) (pa_cons (pv 0) (pa_cons (pv 1) (pa_cons (pv 2) pa_nil)))))
    (pss_one (ps_ret (pe_call G2 hr (by rfl) m2 k2 b2 .nil pass0 (pa_cons (pe_callB (cr_sortT rfl hr.units) (by rfl) T.sorted (by decide +kernel) (pa_cons (pe_callTy (cr_setT rfl hr.units) (by rfl) T.set (by decide +kernel) (pa_cons (pv 0) pa_nil)) pa_nil)) (pa_cons (pv 2) pa_nil))))), ?_⟩
  refine ⟨.ref l, rfl, x, rfl, kv, rfl, l, x, kv, rfl, h.mono (fun _ _ _ e => e) fun H1 hR => ?_⟩
  obtain ⟨z, L, rfl, hS, hL, few, q⟩ := hR
  obtain ⟨xs, hS1, hx1⟩ := hS
  refine ⟨.ref l, rfl, l, xs, L.map pd, rfl, hS1, hx1, (fun d hd => by obtain ⟨p, _, rfl⟩ := List.mem_map.mp hd; exact good_pd p), by rw [List.length_map]; exact few, fun a M ha hM hall => ?_⟩
  have s2 := same_new ha (TSetO w a M)
  have sa := same_new ha (TSetO w a M)
  have isP : ∀ e ∈ M, ∃ p ∈ L, e.2 = pd p := fun e he => by
    obtain ⟨p, hp, ep⟩ := List.mem_map.mp (hM e he).1
    exact ⟨p, hp, ep.symm⟩
  refine ⟨a, M, rfl, upd_same, fun e he => ?_, ?_, fun ys ds p perm nd lt ris hys hp' => ?_⟩
  · obtain ⟨p, _, ep⟩ := isP e he
    refine ⟨by rw [ep]; exact good_pd p, (Stay.same sa).dp _ _ (by rw [ep]; exact ok_pd p) (hM e he).2⟩
  · refine fun d hd d' hd' => ?_
    obtain ⟨e, he, rfl⟩ := List.mem_map.mp hd
    obtain ⟨e', he', rfl⟩ := List.mem_map.mp hd'
    obtain ⟨p, _, ep⟩ := isP e he
    obtain ⟨p', _, ep'⟩ := isP e' he'
    rw [ep, ep']
    exact alike_pd p p'
  · obtain ⟨R, rfl⟩ := all_pd (ds := ds) fun d hd => by
      obtain ⟨e, he, rfl⟩ := List.mem_map.mp (perm.mem_iff.mp hd)
      obtain ⟨p, _, ep⟩ := isP e he
      exact ⟨p, ep⟩
    have memR : ∀ p, p ∈ R ↔ p ∈ L := fun p => by
      rw [← pd_mem, perm.mem_iff]
      constructor
      · intro hm
        obtain ⟨e, he, ee⟩ := List.mem_map.mp hm
        obtain ⟨p', hp', ep⟩ := isP e he
        rw [← pd_inj (ep.symm.trans ee)]
        exact hp'
      · intro hm
        exact hall _ (pd_mem.mpr hm)
    have nR : R.Nodup := nodup_of_map nd
    have sp := same_new hp' (.lst ys)
    have s3 := s2.trans sp
    rw [List.length_map] at lt
    refine ⟨.str z, rfl, p, z, R, rfl, ⟨ys, SqL.of upd_same, (Stay.same sp).dpAll _ _ (okDs_pd R) hys⟩, nR, by omega, fun p hp => hL p ((memR p).mp hp), fun H' y s4 t => q H' y R (s3.trans s4) nR memR t⟩
def spProgramOf (K : PySem.W.Frag) (CW CP CK CB : Addr) : Sp := fun vs H _ E => ∃ (l : Addr) (x kv : V), vs = [.ref l, x, kv] ∧ AskP K CW CP CK l x kv H E (Rest K l kv fun o y H' => o.isSome = true ∧ ∀ dx, H' dx = none → E (.ref CB) (some dx) (upd H' dx (.xd [(("why" : Str), y)])))
theorem ok_programOf {f1 f2 CW CP CK CB : Addr} {fd1 fd2 : FuncData} (F : FunD K "program_of" "program_of" (defArgs sProgramOf) (defBody sProgramOf) (defScope sProgramOf) [.str anyS] [] f fd) (T : Bl mg) (G1 : FnOk P w K mg base (L2.CX P w) (k + 4) f1 fd1 ["pairs", "names", "kind"] (spAsked K CW CP CK)) (b1 : Binds K fd1 ["pairs", "names", "kind"] []) (k1 : PySem.W.keepIn K (.ref f1) = true) (m1 : mg "_check_asked" = some (.ref f1))
    (G2 : FnOk P w K mg base CX0 (k + 4) f2 fd2 ["chosen", "kind"] (spWhyNot K)) (b2 : Binds K fd2 ["chosen", "kind"] []) (k2 : PySem.W.keepIn K (.ref f2) = true) (m2 : mg "_why_not" = some (.ref f2)) (X : ErrT P w K mg base (k + 3) "Barred" "why" CB) :
    FnOk P w K mg base (L2.CX P w) (k + 5) f fd ["pairs", "names", "kind"] (spProgramOf K CW CP CK CB) := by
  obtain ⟨fI, fdI, i1, i2, i3, i4⟩ := X.ex
  refine F.ok scProgramOf (fun vs H Q E h => ?_) (fun cdv A outer s H vs Q E hr h => ?_)
  · obtain ⟨l, x, kv, rfl, _⟩ := h
    rfl
  obtain ⟨l, x, kv, rfl, h⟩ := h
  refine ⟨_, pss_cons (ps_expr (pe_call G1 hr (by rfl) m1 k1 b1 .nil (passes_call (takes_of rfl rfl rfl rfl) (fun _ _ _ _ h => h)) (pa_cons (pv 0) (pa_cons (pv 1) (pa_cons (pv 2) pa_nil)))))
    (pss_cons (ps_set (i := 3) scProgramOf.nd rfl (.inl rfl) (pe_callB (cr_sortT rfl hr.units) (by rfl) T.sorted (by decide +kernel) (pa_cons (pe_callTy (cr_setT rfl hr.units) (by rfl) T.set (by decide +kernel) (pa_cons (pv 0) pa_nil)) pa_nil)))
    (pss_cons (ps_set (i := 4) scProgramOf.nd rfl (.inl rfl) (pe_call G2 hr (by rfl) m2 k2 b2 .nil pass0 (pa_cons (pv 3) (pa_cons (pv 2) pa_nil))))
    (pss_cons (ps_if (pt_cmpR op_notN (pv 4) pe_non (nomark _)) (pss_one (ps_raise rfl (takes_of rfl rfl rfl rfl) (pmk_oex X.oex i1 i2 i3 hr i4 .nil pass0 (by rfl) X.m (pa_cons (pv 4) pa_nil)))) pss_nil)
    pss_never))), ?_⟩
  refine ⟨.ref l, rfl, x, rfl, kv, rfl, l, x, kv, rfl, h.mono (fun _ _ _ e => e) fun H1 hR => ?_⟩
  obtain ⟨z, L, rfl, hS, hL, few, q⟩ := hR
  obtain ⟨xs, hS1, hx1⟩ := hS
  refine ⟨.ref l, rfl, l, xs, L.map pd, rfl, hS1, hx1, (fun d hd => by obtain ⟨p, _, rfl⟩ := List.mem_map.mp hd; exact good_pd p), by rw [List.length_map]; exact few, fun a M ha hM hall => ?_⟩
  have s2 := same_new ha (TSetO w a M)
  have sa := same_new ha (TSetO w a M)
  have isP : ∀ e ∈ M, ∃ p ∈ L, e.2 = pd p := fun e he => by
    obtain ⟨p, hp, ep⟩ := List.mem_map.mp (hM e he).1
    exact ⟨p, hp, ep.symm⟩
  refine ⟨a, M, rfl, upd_same, fun e he => ?_, ?_, fun ys ds p perm nd lt ris hys hp' => ?_⟩
  · obtain ⟨p, _, ep⟩ := isP e he
    refine ⟨by rw [ep]; exact good_pd p, (Stay.same sa).dp _ _ (by rw [ep]; exact ok_pd p) (hM e he).2⟩
  · refine fun d hd d' hd' => ?_
    obtain ⟨e, he, rfl⟩ := List.mem_map.mp hd
    obtain ⟨e', he', rfl⟩ := List.mem_map.mp hd'
    obtain ⟨p, _, ep⟩ := isP e he
    obtain ⟨p', _, ep'⟩ := isP e' he'
    rw [ep, ep']
    exact alike_pd p p'
  · obtain ⟨R, rfl⟩ := all_pd (ds := ds) fun d hd => by
      obtain ⟨e, he, rfl⟩ := List.mem_map.mp (perm.mem_iff.mp hd)
      obtain ⟨p, _, ep⟩ := isP e he
      exact ⟨p, ep⟩
    have memR : ∀ p, p ∈ R ↔ p ∈ L := fun p => by
      rw [← pd_mem, perm.mem_iff]
      constructor
      · intro hm
        obtain ⟨e, he, ee⟩ := List.mem_map.mp hm
        obtain ⟨p', hp', ep⟩ := isP e he
        rw [← pd_inj (ep.symm.trans ee)]
        exact hp'
      · intro hm
        exact hall _ (pd_mem.mpr hm)
    have nR : R.Nodup := nodup_of_map nd
    have sp := same_new hp' (.lst ys)
    have s3 := s2.trans sp
    rw [List.length_map] at lt
    refine ⟨.ref p, rfl, .str z, rfl, p, z, R, rfl, ⟨ys, SqL.of upd_same, (Stay.same sp).dpAll _ _ (okDs_pd R) hys⟩, nR, by omega, fun p hp => hL p ((memR p).mp hp), fun H' y s4 t => ?_⟩
    have qq := q H' y R (s3.trans s4) nR memR t
    refine ⟨y, rfl, rfl, _, rfl, ?_⟩
    rw [told_isN t]
    have : (whyO R z).isNone = false := by
      cases e : whyO R z with
      | none =>
        rw [e] at qq
        exact absurd qq.1 (by decide)
      | some _ => rfl
    rw [this]
    exact iteT ⟨y, rfl, err_made qq.2⟩
end
end Rw
namespace Rw
open PySem PySem.Spec PyProof.Rows L2
/-! ### the law's own defs: numbers -/
abbrev sLawAt : Stmt := topS 52
abbrev sLawMixed : Stmt := topS 53
abbrev sLawPurse : Stmt := topS 54
abbrev sLawDraw : Stmt := topS 55
theorem scLawAt : FnScope ["script", "k"] ["script", "k"] (defScope sLawAt) := ⟨rfl, rfl, rfl, by decide +kernel, rfl, by decide +kernel, by decide +kernel⟩
theorem scLawMixed : FnScope ["cell", "k", "number"] ["cell", "k"] (defScope sLawMixed) := ⟨rfl, rfl, rfl, by decide +kernel, rfl, by decide +kernel, by decide +kernel⟩
theorem scLawPurse : FnScope ["script", "at", "cell"] ["script", "at"] (defScope sLawPurse) := ⟨rfl, rfl, rfl, by decide +kernel, rfl, by decide +kernel, by decide +kernel⟩
theorem scLawDraw : FnScope ["purse", "out_of", "drawn"] ["purse", "out_of"] (defScope sLawDraw) := ⟨rfl, rfl, rfl, by decide +kernel, rfl, by decide +kernel, by decide +kernel⟩
section
variable {P : Program} {w : World} {K : PySem.W.Frag} {mg : Str → Option Value} {base : Heap} {f : Addr} {fd : FuncData} {k : Nat}
def spLawAt (K : PySem.W.Frag) : Sp := fun vs H Q _ => ∃ (a : Addr) (ns : List Int) (j : Nat), vs = [.ref a, .int j] ∧ SqL K H a (ns.map V.int) ∧ ns.length ≤ 63 ∧ ∀ r, Q (.int r) H
theorem ok_lawAt (F : Fun K "_law_at" "_law_at" sLawAt f fd) (T : Bl mg) : FnOk P w K mg base CX0 (k + 1) f fd ["script", "k"] (spLawAt K) := by
  refine F.ok scLawAt (fun vs H Q E h => ?_) (fun cdv A outer s H vs Q E hr h => ?_)
  · obtain ⟨a, ns, j, rfl, _⟩ := h
    rfl
  obtain ⟨a, ns, j, rfl, hS, hl, q⟩ := h
  refine ⟨_, pss_cons (ps_if (pt_cmpR op_lt (pv 1) (pe_callB call_len_seq (by rfl) T.len PySem.boot_len (pa_cons (pv 0) pa_nil)) (nomark _)) (pss_one (ps_ret (pe_ix ix_list (pv 0) (pv 1) (fun _ _ => rfl)))) pss_nil) (pss_one (ps_ret pe_int)), ?_⟩
  refine ⟨.int j, rfl, .ref a, rfl, a, _, rfl, .inl hS, j, _, rfl, rfl, _, rfl, ite2 (fun e => ?_) (fun _ => ?_)⟩
  · have hlt : j < (ns.map V.int).length := by
      have := of_decide_eq_true e
      omega
    have hlt' : j < ns.length := by rwa [List.length_map] at hlt
    refine ⟨.ref a, rfl, .int j, rfl, a, _, j, .int ns[j], rfl, rfl, hS, atI_nat (j := j) ?_, q _⟩
    rw [List.getElem?_map, List.getElem?_eq_getElem hlt']
    rfl
  · exact q _
def spLawMixed : Sp := fun vs H Q _ => ∃ c k : Int, vs = [.int c, .int k] ∧ 0 ≤ c ∧ c < 2147483647 ∧ 0 ≤ k ∧ k ≤ 2000000 ∧ ∀ r, 0 ≤ r → Q (.int r) H
theorem ok_lawMixed (F : Fun K "_law_mixed" "_law_mixed" sLawMixed f fd) (T : Bl mg) : FnOk P w K mg base CX0 (k + 1) f fd ["cell", "k"] spLawMixed := by
  refine F.ok scLawMixed (fun vs H Q E h => ?_) (fun cdv A outer s H vs Q E hr h => ?_)
  · obtain ⟨c, k, rfl, _⟩ := h
    rfl
  obtain ⟨c, k, rfl, c0, c1, k0, k1, q⟩ := h
  refine ⟨_, pss_cons (ps_set (i := 2) scLawMixed.nd rfl (.inl rfl) (pe_op op_mod (pe_callTy call_int1 (by rfl) T.int (by decide +kernel) (pa_cons (pe_op op_add (pe_op op_add (pe_op op_add (pe_op op_mul (pv 0) pe_int) (pe_op op_mul (pe_op op_mul pe_int (pv 1)) (pv 1))) (pv 1)) pe_int) pa_nil)) pe_int))
    (pss_cons (ps_set (i := 2) scLawMixed.nd rfl (.inl rfl) (pe_op op_mod (pe_callTy call_int1 (by rfl) T.int (by decide +kernel) (pa_cons (pe_op op_add (pe_op op_mul (pv 2) (pv 2)) pe_int) pa_nil)) pe_int))
    (pss_one (ps_ret (pe_op op_mod (pe_callTy call_int1 (by rfl) T.int (by decide +kernel) (pa_cons (pe_op op_mul (pv 2) pe_int) pa_nil)) pe_int)))), ?_⟩
  refine ⟨.int c, rfl, c, _, rfl, rfl, .inl ⟨by omega, by omega⟩, .int k, rfl, _, k, rfl, rfl, .inl ⟨by decide, by decide⟩, .int k, rfl, _, k, rfl, rfl, .inl ⟨by omega, by omega⟩, ?_⟩
  refine ⟨_, _, rfl, rfl, .int k, rfl, _, k, rfl, rfl, _, _, rfl, rfl, .inl ⟨_, rfl, _, _, rfl, rfl, by show (0 : Int) < 2147483647; decide, ?_⟩⟩
  refine ⟨_, rfl, _, rfl, _, _, rfl, rfl, .inl (b64 (Int.emod_nonneg _ (by decide)) (Int.emod_lt_of_pos _ (by decide))), _, _, rfl, rfl, .inl ⟨_, rfl, _, _, rfl, rfl, by show (0 : Int) < 2147483629; decide, ?_⟩⟩
  refine ⟨_, rfl, _, _, rfl, rfl, .inl (b64 (Int.emod_nonneg _ (by decide)) (Int.lt_trans (Int.emod_lt_of_pos _ (by decide)) (by decide))), .inl ⟨_, rfl, _, _, rfl, rfl, by show (0 : Int) < 2147483587; decide, q _ (Int.emod_nonneg _ (by decide))⟩⟩
def spLawPurse (K : PySem.W.Frag) : Sp := fun vs H Q _ => ∃ (a : Addr) (ns : List Int) (j : Nat), vs = [.ref a, .int j] ∧ SqL K H a (ns.map V.int) ∧ ns.length ≤ 63 ∧ j ≤ 100 ∧ ∀ H' p, Same H H' → H p = none → Pur H' p 100000 → Q (.ref p) H'
theorem ok_lawPurse {f1 : Addr} {fd1 : FuncData} (F : Fun K "_law_purse" "_law_purse" sLawPurse f fd) (T : Bl mg) (G1 : FnOk P w K mg base CX0 k f1 fd1 ["script", "k"] (spLawAt K)) (b1 : Binds K fd1 ["script", "k"] []) (k1 : PySem.W.keepIn K (.ref f1) = true) (m1 : mg "_law_at" = some (.ref f1)) :
    FnOk P w K mg base CX0 (k + 1) f fd ["script", "at"] (spLawPurse K) := by
  refine F.ok scLawPurse (fun vs H Q E h => ?_) (fun cdv A outer s H vs Q E hr h => ?_)
  · obtain ⟨a, ns, j, rfl, _⟩ := h
    rfl
  obtain ⟨a, ns, j, rfl, hS, hl, hj, q⟩ := h
  refine ⟨_, pss_cons (ps_set (i := 2) scLawPurse.nd rfl (.inl rfl) (pe_call G1 hr (by rfl) m1 k1 b1 .nil pass0 (pa_cons (pv 0) (pa_cons (pv 1) pa_nil))))
    (pss_one (ps_ret (pe_lst (pa_cons (pe_op op_mod (pe_callTy call_int1 (by rfl) T.int (by decide +kernel) (pa_cons (pe_callB (call_max2 rfl) (by rfl) T.max (by decide +kernel) (pa_cons (pe_op op_sub (pv 2) (pe_op op_pow pe_int pe_int)) (pa_cons pe_int pa_nil))) pa_nil)) (pe_op op_powB (pe_op op_pow pe_int pe_int) pe_int))
      (pa_cons (pe_op op_mod (pe_callTy call_int1 (by rfl) T.int (by decide +kernel) (pa_cons (pv 2) pa_nil)) pe_int) (pa_cons (pe_op op_mul pe_int (pv 1)) pa_nil)))))), ?_⟩
  refine ⟨.ref a, rfl, .int j, rfl, a, ns, j, rfl, hS, hl, fun c => ?_⟩
  refine ⟨.int c, rfl, _, _, rfl, rfl, ⟨by decide, by decide, by decide⟩, _, _, rfl, rfl, _, _, rfl, .inl ⟨_, rfl, _, _, rfl, rfl, ⟨by decide, by decide, by decide⟩, _, _, rfl, rfl, ⟨by decide, by decide +kernel⟩, _, _, rfl, rfl, by show (0 : Int) < (10 ^ Int.toNat 60) ^ Int.toNat 10; decide +kernel, ?_⟩⟩
  refine ⟨.int c, rfl, .inl ⟨_, rfl, _, _, rfl, rfl, by show (0 : Int) < 2147483647; decide, .int j, rfl, _, _, rfl, rfl, .inl ⟨by decide, by decide⟩, by show 3 ≤ sizeLine; decide, fun p hp => ?_⟩⟩
  refine q _ p (same_new hp _) hp ⟨_, _, _, upd_same, Int.emod_nonneg _ (by decide +kernel), Int.emod_nonneg _ (by decide), Int.emod_lt_of_pos _ (by decide), ?_, ?_⟩
  · show (0 : Int) ≤ 1000 * (j : Int)
    omega
  · show 1000 * (j : Int) ≤ 100000
    omega
def spLawDraw : Sp := fun vs H Q _ => ∃ (p : Addr) (n c : Int), vs = [.ref p, .int n] ∧ Pur H p c ∧ c ≤ 1000000 ∧ 1 ≤ n ∧ n ≤ 1000 ∧ ∀ r us, 0 ≤ r → r < n → Pur (upd H p (.lst us)) p (c + 1) → Q (.int r) (upd H p (.lst us))
theorem ok_lawDraw {f1 : Addr} {fd1 : FuncData} (F : Fun K "_law_draw" "_law_draw" sLawDraw f fd) (T : Bl mg) (G1 : FnOk P w K mg base CX0 k f1 fd1 ["cell", "k"] spLawMixed) (b1 : Binds K fd1 ["cell", "k"] []) (k1 : PySem.W.keepIn K (.ref f1) = true) (m1 : mg "_law_mixed" = some (.ref f1)) :
    FnOk P w K mg base CX0 (k + 1) f fd ["purse", "out_of"] spLawDraw := by
  refine F.ok scLawDraw (fun vs H Q E h => ?_) (fun cdv A outer s H vs Q E hr h => ?_)
  · obtain ⟨p, n, c, rfl, _⟩ := h
    rfl
  obtain ⟨p, n, c, rfl, ⟨a, b, e, hp, a0, b0, b1', e0, e1⟩, c1, n0, n1, q⟩ := h
  refine ⟨_, pss_cons (ps_if (pt_cmpR op_gt (pe_ix ix_list (pv 0) pe_int (fun _ _ => rfl)) pe_int (nomark _))
      (pss_cons (ps_set (i := 2) scLawDraw.nd rfl (.inl rfl) (pe_op op_mod (pe_callTy call_int1 (by rfl) T.int (by decide +kernel) (pa_cons (pe_ix ix_list (pv 0) pe_int (fun _ _ => rfl)) pa_nil)) (pv 1)))
      (pss_cons (ps_asg (pe_op op_fdiv (pe_ix ix_list (pv 0) pe_int (fun _ _ => rfl)) (pv 1)) (pg_sub (pv 0) pe_int set_list)) (pss_one (ps_ret (pv 2))))) pss_nil)
    (pss_cons (ps_asg (pe_op op_add (pe_ix ix_list (pv 0) pe_int (fun _ _ => rfl)) pe_int) (pg_sub (pv 0) pe_int set_list))
    (pss_one (ps_ret (pe_op op_mod (pe_callTy call_int1 (by rfl) T.int (by decide +kernel) (pa_cons (pe_call G1 hr (by rfl) m1 k1 b1 .nil pass0 (pa_cons (pe_ix ix_list (pv 0) pe_int (fun _ _ => rfl)) (pa_cons (pe_ix ix_list (pv 0) pe_int (fun _ _ => rfl)) pa_nil))) pa_nil)) (pv 1))))), ?_⟩
  have hS : SqL K H p [.int a, .int b, .int e] := SqL.of hp
  refine ⟨.ref p, rfl, p, _, 0, .int a, rfl, rfl, hS, atI_nat (j := 0) rfl, _, _, rfl, rfl, _, rfl, ite2 (fun g => ?_) (fun _ => ?_)⟩
  · refine ⟨.ref p, rfl, p, _, 0, .int a, rfl, rfl, hS, atI_nat (j := 0) rfl, .inl ⟨_, rfl, .int n, rfl, _, _, rfl, rfl, by show 0 < n; omega, ?_⟩⟩
    refine ⟨.ref p, rfl, p, _, 0, .int a, rfl, rfl, hS, atI_nat (j := 0) rfl, .int n, rfl, _, _, rfl, rfl, ⟨by omega, by omega⟩, .ref p, rfl, p, _, 0, 0, rfl, rfl, hp, rfl, ?_⟩
    refine ⟨.int (a % n), rfl, q _ _ (Int.emod_nonneg _ (by omega)) (Int.emod_lt_of_pos _ (by omega)) ⟨a / n, b, e, upd_same, Int.ediv_nonneg a0 (by omega), b0, b1', e0, by omega⟩⟩
  · refine ⟨.ref p, rfl, p, _, 2, .int e, rfl, rfl, hS, atI_nat (j := 2) rfl, _, _, rfl, rfl, .ref p, rfl, p, _, 2, 2, rfl, rfl, hp, rfl, ?_⟩
    have hS2 : SqL K (upd H p (.lst [.int a, .int b, .int (e + 1)])) p [.int a, .int b, .int (e + 1)] := SqL.of upd_same
    refine ⟨.ref p, rfl, p, _, 1, .int b, rfl, rfl, hS2, atI_nat (j := 1) rfl, .ref p, rfl, p, _, 2, .int (e + 1), rfl, rfl, hS2, atI_nat (j := 2) rfl, b, e + 1, rfl, b0, b1', by omega, by omega, fun r r0 => ?_⟩
    refine .inl ⟨r, rfl, .int n, rfl, _, _, rfl, rfl, by show 0 < n; omega, ?_⟩
    exact q _ _ (Int.emod_nonneg _ (by omega)) (Int.emod_lt_of_pos _ (by omega)) ⟨a, b, e + 1, upd_same, a0, b0, b1', by omega, by omega⟩
end
end Rw
namespace Rw
open PySem PySem.Spec PyProof.Rows L2
/-! ### a call with keywords inside a try -/
section
variable {X : Cx} {CX : CXT} {k n : Nat} {f : Addr} {fd : FuncData} {ps ks : List Str} {sp : Sp} {E : L2.St → XK} {x : Str} {p pos : Pos} {e : Expr} {es : List Expr} {kws : List Keyword} {t tk : TA} {g : List Value → List Value → List Value} {gV : List V → List V → List V}
theorem run_fnNS {pins : List (Addr × Obj)} {σ : L2.St} {H : Hp} {s : Shared} {Q : VK} {us ws : List Value} {vs zs : List V} (F : FnOk X.prog X.w X.K X.mg X.base CX k f fd ps sp) (hr : Room k X.A) (hb : KBn X.K fd ps n ks g gV) (hx : PassesAt CX X σ (E σ))
    (I : Inv X pins σ H s) (r : Vals vs us) (rz : Vals zs ws) (l1 : vs.length = n) (l2 : zs.length = ks.length) (h : sp (gV vs zs) H Q (E σ)) : wpAny (model X.prog X.w) X.A (call (.ref f) us (ks.zip ws)) (EP X pins σ Q) X.xe s := by
  have r2 := hb.rel r rz
  refine wpAny_call (codeAny_mono (F.run X.A X.stack s H ⟨us, ks.zip ws⟩ (g us ws) (gV vs zs) Q (E σ) hr I.env0 (hb.to s us ws I.kIn (r.length.symm.trans l1) (rz.length.symm.trans l2)) r2 h) fun r s' hq => ?_)
  cases r with
  | error e => exact hx pins H s e s' I hq
  | ok fl =>
    cases fl with
    | ret u => exact I.after hq
    | next => exact False.elim hq
    | brk => exact False.elim hq
    | cont => exact False.elim hq
def tCallNS (n m : Nat) (sp : Sp) (gV : List V → List V → List V) (E : L2.St → XK) (t tk : TA) : TE := fun σ H Q => t σ H fun vs H1 => tk σ H1 fun zs H2 => vs.length = n ∧ zs.length = m ∧ sp (gV vs zs) H2 Q (E σ)
theorem pe_callNS (F : FnOk X.prog X.w X.K X.mg X.base CX k f fd ps sp) (hr : Room k X.A) (hg : Gl X x) (hm : X.mg x = some (.ref f)) (hk : PySem.W.keepIn X.K (.ref f) = true) (hb : KBn X.K fd ps n ks g gV) (hx : ∀ σ, PassesAt CX X σ (E σ))
    (ha : PA X (e :: es) t) (hkw : PK X kws tk) (hall : (backToKw pos (keywordEach kws X.env)).all (·.1.isSome) = true := by rfl) (hks : (backToKw pos (keywordEach kws X.env)).filterMap (·.1) = ks := by rfl)
    (hdb : (x == ("__debug__" : Str)) = false := by decide) (he : starEach (e :: es) X.env = (false, eval e X.env) :: starEach es X.env := by rfl)
    (hpl : ((backTo pos (starEach (e :: es) X.env)).any (·.1) || (backToKw pos (keywordEach kws X.env)).any (·.1.isNone)) = false := by rfl) :
    PE X (.Call (.Name x p) (e :: es) kws pos) (tCallNS n ks.length sp gV E t tk) := by
  refine ⟨fun pins s σ H Q I h => ?_⟩
  refine wpAny_Call_Name_kw (ld_glob I hg hm ?_ hdb)
  refine PySem.W.callWith_KW (h₀ := X.base) I.ok.mod.kin hk hall (thn (ha.run pos pins s σ H _ I h) fun us s1 ⟨vs, H1, I1, r, q⟩ => ?_) hpl he
  refine thn (hkw.run pos pins s1 σ H1 _ I1 q) fun ws s2 ⟨zs, H2, I2, rz, l1, l2, q2⟩ => ⟨I2.kIn, ?_⟩
  rw [hks]
  exact run_fnNS F hr hb (hx σ) I2 r rz l1 l2 q2
end
/-! ### _law_asked -/
structure ErrK (K : PySem.W.Frag) (mg : Str → Option Value) (CW CP CK CB CR : Addr) : Prop where
  mW : mg "InvalidWorld" = some (.ref CW)
  mP : mg "InvalidPair" = some (.ref CP)
  mK : mg "InvalidKind" = some (.ref CK)
  mB : mg "Barred" = some (.ref CB)
  mR : mg "RuleError" = some (.ref CR)
  eW : PySem.W.exmOne K (.ref CW) (.ref CR) = some true
  eP : PySem.W.exmOne K (.ref CP) (.ref CR) = some true
  eK : PySem.W.exmOne K (.ref CK) (.ref CR) = some true
  eB : PySem.W.exmOne K (.ref CB) (.ref CR) = some true
  cW : ExcC K CW
  cP : ExcC K CP
  cK : ExcC K CK
  cB : ExcC K CB
  nW : PySem.W.findIn K (.ref CW) "thing" = some none
  nP : PySem.W.findIn K (.ref CP) "thing" = some none
  nK : PySem.W.findIn K (.ref CK) "value" = some none
  i0W : PySem.W.kitOne K (.type "NoneType") (.ref CW) = some false
  i0P : PySem.W.kitOne K (.type "NoneType") (.ref CP) = some false
  i0K : PySem.W.kitOne K (.type "NoneType") (.ref CK) = some false
  i0B : PySem.W.kitOne K (.type "NoneType") (.ref CB) = some false
  iWW : PySem.W.kitOne K (.ref CW) (.ref CW) = some true
  iPW : PySem.W.kitOne K (.ref CP) (.ref CW) = some false
  iPP : PySem.W.kitOne K (.ref CP) (.ref CP) = some true
  iKW : PySem.W.kitOne K (.ref CK) (.ref CW) = some false
  iKP : PySem.W.kitOne K (.ref CK) (.ref CP) = some false
  iKK : PySem.W.kitOne K (.ref CK) (.ref CK) = some true
  iBW : PySem.W.kitOne K (.ref CB) (.ref CW) = some false
  iBP : PySem.W.kitOne K (.ref CB) (.ref CP) = some false
  iBK : PySem.W.kitOne K (.ref CB) (.ref CK) = some false
  iBB : PySem.W.kitOne K (.ref CB) (.ref CB) = some true
theorem xf_of {K : PySem.W.Frag} {C : Addr} (h : ExcC K C) : XfC K C := ⟨h.hg, h.hk, h.hs, h.hd⟩
abbrev sLawAsked : Stmt := topS 56
theorem scLawAsked : FnScope ["way", "rows", "some", "word", "error", "told", "caught"] ["way", "rows", "some", "word"] (defScope sLawAsked) := ⟨rfl, rfl, rfl, by decide +kernel, rfl, by decide +kernel, by decide +kernel⟩
/-- a list [a word, a thing] is handed back -/
def TL (Q : VK) (s : Str) (x : V) (H : Hp) : Prop := ∀ H2 l, Same H H2 → H2 l = some (.lst [.str s, x]) → Q (.ref l) H2
theorem TL.same {Q : VK} {H : Hp} {s : Str} {x : V} {H' : Hp} (h : TL Q s x H) (e : Same H H') : TL Q s x H' := fun H2 l a1 a2 => h H2 l (e.trans a1) a2
/-- what the errors tell -/
def TE' (CW CP CK CB : Addr) (Q : VK) : XK := fun cls d H' => ∃ (dd D : Addr) (x : V) (n : Str), d = some dd ∧ cls = .ref D ∧ H' dd = some (.xd [(n, x)]) ∧
  ((D = CW ∧ n = "thing" ∧ TL Q "world" x H') ∨ (D = CP ∧ n = "thing" ∧ TL Q "pair" x H') ∨ (D = CK ∧ n = "value" ∧ TL Q "kind" x H') ∨ (D = CB ∧ TL Q "ok" (.bl true) H'))
section
variable {P : Program} {w : World} {K : PySem.W.Frag} {mg : Str → Option Value} {base : Heap} {f : Addr} {fd : FuncData} {k : Nat}
def spLawAsked (K : PySem.W.Frag) (CW CP CK CB : Addr) : Sp := fun vs H Q _ => ∃ (way : Int) (l : Addr) (x kv : V), vs = [.int way, .ref l, x, kv] ∧
  ((way = 0 ∧ AskP K CW CP CK l x kv H (TE' CW CP CK CB Q) (Rest K l kv fun _ y H' => y = .non ∧ TL Q "ok" (.bl true) H')) ∨
   (way = 1 ∧ AskP K CW CP CK l x kv H (TE' CW CP CK CB Q) (Rest K l kv fun o y H' => o.isSome = true ∧ TL Q "ok" (.bl true) H')))
theorem ok_lawAsked {CW CP CK CB CR f1 f2 : Addr} {g2 : List Value → List Value → List Value} {fd1 fd2 : FuncData} (F : Fun K "_law_asked" "_law_asked" sLawAsked f fd) (T : Bl mg) (E : ErrK K mg CW CP CK CB CR)
    (G1 : FnOk P w K mg base (L2.CX P w) k f1 fd1 ["pairs", "names", "kind"] (spBarred K CW CP CK)) (b1 : Binds K fd1 ["pairs", "names", "kind"] []) (k1 : PySem.W.keepIn K (.ref f1) = true) (m1 : mg "barred" = some (.ref f1))
    (G2 : FnOk P w K mg base (L2.CX P w) k f2 fd2 ["pairs", "names", "kind"] (spProgramOf K CW CP CK CB)) (kb2 : KBn K fd2 ["pairs", "names", "kind"] 1 ["names", "kind"] g2 (fun vs zs => vs ++ zs)) (k2 : PySem.W.keepIn K (.ref f2) = true) (m2 : mg "program_of" = some (.ref f2)) (mC : ∃ C, mg "Program" = some (.ref C)) :
    FnOk P w K mg base CX0 (k + 1) f fd ["way", "rows", "some", "word"] (spLawAsked K CW CP CK CB) := by
  obtain ⟨C, mC⟩ := mC
  refine F.ok scLawAsked (fun vs H Q E h => ?_) (fun cdv A outer s H vs Q E' hr h => ?_)
  · obtain ⟨way, l, x, kv, rfl, h⟩ := h
    rfl
  obtain ⟨way, l, x, kv, rfl, h⟩ := h
  refine ⟨_, pss_cons (ps_set (i := 4) scLawAsked.nd rfl (.inl rfl) pe_non)
    (pss_cons (ps_set (i := 5) scLawAsked.nd rfl (.inl rfl) pe_non)
    (pss_mid (ps_try_keep (i := 6) (j := 4) rfl rfl scLawAsked.nd rfl rfl ⟨rfl, by decide, .inl E.mR⟩ rfl rfl rfl rfl (by decide) (by decide) (by rfl) (fun W pn xe tk po =>
        pss_one (ps_if (pt_cmpR op_eq (pv 0) pe_int (nomark _))
          (pss_one (ps_set (i := 5) scLawAsked.nd rfl (.inl rfl) (pe_callS G1 hr (by rfl) m1 k1 b1 (fun σ => passAt tk σ) (pa_cons (pv 1) (pa_cons (pv 2) (pa_cons (pv 3) pa_nil))))))
          (pss_one (ps_set (i := 5) scLawAsked.nd rfl (.inl rfl) (pe_callNS G2 hr (by rfl) m2 k2 kb2 (fun σ => passAt tk σ) (pa_cons (pv 1) pa_nil) (pk_cons (pv 2) (pk_cons (pv 3) pk_nil))))))))
    (pss_cons (ps_if (pt_val (pe_callB call_isH (by rfl) T.isi PyProof.Rows.boot_isinstance (pa_cons (pv 4) (pa_cons (pe_glob (v := .ref CW) (by rfl) E.mW rfl) pa_nil)))) (pss_one (ps_ret (pe_lst (pa_cons pe_str (pa_cons (pe_fldH (xf_of E.cW) E.nW (pv 4)) pa_nil))))) pss_nil)
    (pss_cons (ps_if (pt_val (pe_callB call_isH (by rfl) T.isi PyProof.Rows.boot_isinstance (pa_cons (pv 4) (pa_cons (pe_glob (v := .ref CP) (by rfl) E.mP rfl) pa_nil)))) (pss_one (ps_ret (pe_lst (pa_cons pe_str (pa_cons (pe_fldH (xf_of E.cP) E.nP (pv 4)) pa_nil))))) pss_nil)
    (pss_cons (ps_if (pt_val (pe_callB call_isH (by rfl) T.isi PyProof.Rows.boot_isinstance (pa_cons (pv 4) (pa_cons (pe_glob (v := .ref CK) (by rfl) E.mK rfl) pa_nil)))) (pss_one (ps_ret (pe_lst (pa_cons pe_str (pa_cons (pe_fldH (xf_of E.cK) E.nK (pv 4)) pa_nil))))) pss_nil)
    (pss_one (ps_ret (pe_lst (pa_cons pe_str (pa_cons (pe_or (pe_callB call_isH (by rfl) T.isi PyProof.Rows.boot_isinstance (pa_cons (pv 4) (pa_cons (pe_glob (v := .ref CB) (by rfl) E.mB rfl) pa_nil)))
      (pe_or (pe_cmpR op_isN (pv 5) pe_non (nomark _)) (pe_one (pe_callB call_isi (by rfl) T.isi PyProof.Rows.boot_isinstance (pa_cons (pv 5) (pa_cons (pe_glob (v := .ref C) (by rfl) mC rfl) pa_nil)))))) pa_nil)))))))))), ?_⟩
  let I : L2.St → Hp → Prop := fun σ H' => ∃ ev tv, σ = [some (.int way), some (.ref l), some x, some kv, some ev, some tv, none] ∧ ((ev = .non ∧ tv = .non ∧ TL Q "ok" (.bl true) H') ∨ ∃ (a dd D : Addr) (x : V) (n : Str), ev = .ref a ∧ H' a = some (ExH (.ref D) (some dd) a) ∧ H' dd = some (.xd [(n, x)]) ∧
    ((D = CW ∧ n = "thing" ∧ TL Q "world" x H') ∨ (D = CP ∧ n = "thing" ∧ TL Q "pair" x H') ∨ (D = CK ∧ n = "value" ∧ TL Q "kind" x H') ∨ (D = CB ∧ TL Q "ok" (.bl true) H')))
  have no : ∀ {i j : Int}, i ≠ j → V.bl (decide (V.int i = V.int j)) = V.bl false := fun n => congrArg V.bl (decide_eq_false fun e => n (by injection e))
  have yes : ∀ {i : Int}, V.bl (decide (V.int i = V.int i)) = V.bl true := congrArg V.bl (decide_eq_true rfl)
  have bad : ∀ cls d H', TE' CW CP CK CB Q cls d H' → PySem.W.exmOne K cls (.ref CR) = some true ∧ ∀ a, H' a = none → I [some (.int way), some (.ref l), some x, some kv, some (.ref a), some .non, none] (upd H' a (ExH cls d a)) := fun cls d H' ⟨dd, D, x, n, e1, e2, h1, h2⟩ => by
    subst e1 e2
    refine ⟨?_, fun a ha => ⟨.ref a, .non, rfl, .inr ⟨a, dd, D, x, n, rfl, upd_same, (same_new ha _) _ _ h1, ?_⟩⟩⟩
    · rcases h2 with ⟨rfl, _⟩ | ⟨rfl, _⟩ | ⟨rfl, _⟩ | ⟨rfl, _⟩
      · exact E.eW
      · exact E.eP
      · exact E.eK
      · exact E.eB
    · have sa := same_new ha (ExH (.ref D) (some dd) a)
      rcases h2 with ⟨h, i, q⟩ | ⟨h, i, q⟩ | ⟨h, i, q⟩ | ⟨h, q⟩
      · exact .inl ⟨h, i, q.same sa⟩
      · exact .inr (.inl ⟨h, i, q.same sa⟩)
      · exact .inr (.inr (.inl ⟨h, i, q.same sa⟩))
      · exact .inr (.inr (.inr ⟨h, q.same sa⟩))
  refine ⟨I, ?_, fun σ' H' hI => ?_⟩
  · rcases h with ⟨rfl, h⟩ | ⟨rfl, h⟩
    · refine ⟨.int 0, rfl, rfl, true, yes, iteT ?_⟩
      refine ⟨.ref l, rfl, x, rfl, kv, rfl, ?_⟩
      dsimp only [tNil]
      refine ⟨l, x, kv, rfl, h.mono (fun cls d H' q => bad cls d H' q) fun H' hR => ?_⟩
      obtain ⟨z, L, e, h1, h2, h3, q⟩ := hR
      exact ⟨z, L, e, h1, h2, h3, fun H2 y S a b c d => by
        obtain ⟨e1, e2⟩ := q H2 y S a b c d
        exact ⟨.non, y, rfl, .inl ⟨rfl, e1, e2⟩⟩⟩
    · refine ⟨.int 1, rfl, rfl, false, no (by decide), iteF ?_⟩
      refine ⟨.ref l, rfl, x, rfl, kv, rfl, rfl, rfl, ?_⟩
      refine ⟨l, x, kv, rfl, h.mono (fun cls d H' q => bad cls d H' q) fun H' hR => ?_⟩
      obtain ⟨z, L, e, h1, h2, h3, q⟩ := hR
      refine ⟨z, L, e, h1, h2, h3, fun H2 y S a b c d => ⟨(q H2 y S a b c d).1, fun dx hdx => bad _ _ _ ⟨dx, CB, y, "why", rfl, rfl, upd_same, .inr (.inr (.inr ⟨rfl, (q H2 y S a b c d).2.same (same_new hdx _)⟩))⟩⟩⟩
  · obtain ⟨ev, tv, rfl, ⟨rfl, rfl, q⟩ | ⟨a, dd, D, x2, n, rfl, ha, hd, hs⟩⟩ := hI
    · refine ⟨.non, rfl, .non, .ref CW, .ref CW, rfl, fun v r => r, .inl ⟨rfl, false, E.i0W, false, rfl, iteF ?_⟩⟩
      refine ⟨.non, rfl, .non, .ref CP, .ref CP, rfl, fun v r => r, .inl ⟨rfl, false, E.i0P, false, rfl, iteF ?_⟩⟩
      refine ⟨.non, rfl, .non, .ref CK, .ref CK, rfl, fun v r => r, .inl ⟨rfl, false, E.i0K, false, rfl, iteF ?_⟩⟩
      refine ⟨.non, rfl, .non, .ref CB, .ref CB, rfl, fun v r => r, .inl ⟨rfl, false, E.i0B, false, rfl, iteF ?_⟩⟩
      refine ⟨.non, rfl, rfl, true, congrArg V.bl (decide_eq_true rfl), iteT ?_⟩
      refine ⟨by show 2 ≤ sizeLine; decide, fun l2 hl => ?_⟩
      exact q _ l2 (same_new hl _) upd_same
    · have fld : ∀ n : Str, ([(n, x2)] : List (Str × V)).lookup n = some x2 := fun n => by
        rw [List.lookup_cons, beq_self_eq_true]
      rcases hs with ⟨rfl, rfl, q⟩ | ⟨rfl, rfl, q⟩ | ⟨rfl, rfl, q⟩ | ⟨rfl, q⟩
      · refine ⟨.ref a, rfl, .ref a, .ref _, .ref _, rfl, fun v r => r, .inr ⟨a, _, dd, _, true, rfl, ha, hd, E.cW, E.iWW, true, rfl, iteT ?_⟩⟩
        refine ⟨.ref a, rfl, a, dd, _, x2, rfl, ha, hd, fld _, by show 2 ≤ sizeLine; decide, fun l2 hl => ?_⟩
        exact q _ l2 (same_new hl _) upd_same
      · refine ⟨.ref a, rfl, .ref a, .ref _, .ref _, rfl, fun v r => r, .inr ⟨a, _, dd, _, false, rfl, ha, hd, E.cP, E.iPW, false, rfl, iteF ?_⟩⟩
        refine ⟨.ref a, rfl, .ref a, .ref _, .ref _, rfl, fun v r => r, .inr ⟨a, _, dd, _, true, rfl, ha, hd, E.cP, E.iPP, true, rfl, iteT ?_⟩⟩
        refine ⟨.ref a, rfl, a, dd, _, x2, rfl, ha, hd, fld _, by show 2 ≤ sizeLine; decide, fun l2 hl => ?_⟩
        exact q _ l2 (same_new hl _) upd_same
      · refine ⟨.ref a, rfl, .ref a, .ref _, .ref _, rfl, fun v r => r, .inr ⟨a, _, dd, _, false, rfl, ha, hd, E.cK, E.iKW, false, rfl, iteF ?_⟩⟩
        refine ⟨.ref a, rfl, .ref a, .ref _, .ref _, rfl, fun v r => r, .inr ⟨a, _, dd, _, false, rfl, ha, hd, E.cK, E.iKP, false, rfl, iteF ?_⟩⟩
        refine ⟨.ref a, rfl, .ref a, .ref _, .ref _, rfl, fun v r => r, .inr ⟨a, _, dd, _, true, rfl, ha, hd, E.cK, E.iKK, true, rfl, iteT ?_⟩⟩
        refine ⟨.ref a, rfl, a, dd, _, x2, rfl, ha, hd, fld _, by show 2 ≤ sizeLine; decide, fun l2 hl => ?_⟩
        exact q _ l2 (same_new hl _) upd_same
      · refine ⟨.ref a, rfl, .ref a, .ref _, .ref _, rfl, fun v r => r, .inr ⟨a, _, dd, _, false, rfl, ha, hd, E.cB, E.iBW, false, rfl, iteF ?_⟩⟩
        refine ⟨.ref a, rfl, .ref a, .ref _, .ref _, rfl, fun v r => r, .inr ⟨a, _, dd, _, false, rfl, ha, hd, E.cB, E.iBP, false, rfl, iteF ?_⟩⟩
        refine ⟨.ref a, rfl, .ref a, .ref _, .ref _, rfl, fun v r => r, .inr ⟨a, _, dd, _, false, rfl, ha, hd, E.cB, E.iBK, false, rfl, iteF ?_⟩⟩
        refine ⟨.ref a, rfl, .ref a, .ref _, .ref _, rfl, fun v r => r, .inr ⟨a, _, dd, _, true, rfl, ha, hd, E.cB, E.iBB, true, rfl, iteT ?_⟩⟩
        refine ⟨by show 2 ≤ sizeLine; decide, fun l2 hl => ?_⟩
        exact q _ l2 (same_new hl _) upd_same
end
end Rw
namespace Rw
open PySem PySem.Spec PyProof.Rows L2
/-! ### values that are written out -/
/-- what was laid between H and H' is as it was -/
def Fresh (H H' H'' : Hp) : Prop := ∀ b u, H b = none → H' b = some u → H'' b = some u
theorem Fresh.self (H H' : Hp) : Fresh H H' H' := fun _ _ _ e => e
theorem Fresh.left {H H1 H2 H'' : Hp} (f : Fresh H H2 H'') (e : Same H1 H2) : Fresh H H1 H'' := fun b u n h => f b u n (e b u h)
theorem Fresh.right {H H1 H2 H'' : Hp} (f : Fresh H H2 H'') (e : Same H H1) : Fresh H1 H2 H'' := fun b u n h => f b u (none_back e n) h
def Lit (K : PySem.W.Frag) (te : TE) (d : PyData) : Prop := ∀ (σ : L2.St) (H : Hp) (Q : VK), (∀ x H', Same H H' → (∀ H'', Fresh H H' H'' → Dp K H'' x d) → Q x H') → te σ H Q
def Lits (K : PySem.W.Frag) (ta : TA) (ds : List PyData) : Prop := ∀ (σ : L2.St) (H : Hp) (Q : List V → Hp → Prop), (∀ xs H', Same H H' → xs.length = ds.length → (∀ H'', Fresh H H' H'' → DpAll K H'' xs ds) → Q xs H') → ta σ H Q
section
variable {K : PySem.W.Frag} {te : TE} {ta : TA} {d : PyData} {ds : List PyData}
theorem lit_non : Lit K (tC .non) .none := fun σ H Q q => q _ _ (fun _ _ e => e) fun _ _ => .non
theorem lit_str (x : Str) : Lit K (tC (.str x)) (.str x) := fun σ H Q q => q _ _ (fun _ _ e => e) fun _ _ => .str x
theorem lit_int (i : Int) : Lit K (tC (.int i)) (.int i) := fun σ H Q q => q _ _ (fun _ _ e => e) fun _ _ => .int i
theorem lit_bl (b : Bool) : Lit K (tC (.bl b)) (.bool b) := fun σ H Q q => q _ _ (fun _ _ e => e) fun _ _ => .bl b
theorem lits_nil : Lits K tNil [] := fun σ H Q q => q _ _ (fun _ _ e => e) rfl fun _ _ => .nil
theorem lits_cons (h : Lit K te d) (t : Lits K ta ds) : Lits K (tCons te ta) (d :: ds) := fun σ H Q q =>
  h σ H _ fun x H1 s1 g1 => t σ H1 _ fun xs H2 s2 l2 g2 => q _ _ (s1.trans s2) (by rw [List.length_cons, List.length_cons, l2]) fun H'' f => .cons (g1 H'' (f.left s2)) (g2 H'' (f.right s1))
theorem lit_tup (h : Lits K ta ds) (l : ds.length ≤ 1000) : Lit K (tTup ta) (.tuple ds) := fun σ H Q q =>
  h σ H _ fun xs H1 s1 e g => ⟨small_line (by omega), fun p hp => q _ _ (s1.trans (same_new hp _)) fun H'' f => .tup (SqT.of (f p _ (none_back s1 hp) upd_same)) (g H'' (f.left (same_new hp _)))⟩
theorem lit_lst (h : Lits K ta ds) (l : ds.length ≤ 1000) : Lit K (tLst ta) (.list ds) := fun σ H Q q =>
  h σ H _ fun xs H1 s1 e g => ⟨small_line (by omega), fun p hp => q _ _ (s1.trans (same_new hp _)) fun H'' f => .lst (SqL.of (f p _ (none_back s1 hp) upd_same)) (g H'' (f.left (same_new hp _)))⟩
end
def oddNb : PyData → Bool
  | .str x => decide (x.cps.size ≤ 10000)
  | .bool _ => false
  | .dict _ => false
  | _ => true
theorem oddNb_ok {d : PyData} (h : oddNb d = true) : oddN d := by
  cases d with
  | str x =>
    have h' : decide (x.cps.size ≤ 10000) = true := h
    show x.cps.size ≤ 10000
    exact of_decide_eq_true h'
  | bool _ => exact nomatch h
  | dict _ => exact nomatch h
  | _ => trivial
def oddWb : PyData → Bool
  | .tuple ds => ds.all oddNb && decide (ds.length ≤ 40)
  | .bool _ => false
  | .dict _ => false
  | _ => true
theorem oddWb_ok {d : PyData} (h : oddWb d = true) : oddW d := by
  cases d with
  | tuple ds =>
    have h' : (ds.all oddNb && decide (ds.length ≤ 40)) = true := h
    rw [Bool.and_eq_true] at h'
    exact ⟨fun d hd => oddNb_ok (List.all_eq_true.mp h'.1 d hd), of_decide_eq_true h'.2⟩
  | bool _ => exact nomatch h
  | dict _ => exact nomatch h
  | _ => trivial
def noD : PyData → Bool
  | .dict [] => true
  | _ => false
theorem noD_ok {d : PyData} (h : (oddWb d || noD d) = true) : oddW d ∨ d = .dict [] := by
  rw [Bool.or_eq_true] at h
  rcases h with h | h
  · exact .inl (oddWb_ok h)
  · cases d with
    | dict kvs =>
      cases kvs with
      | nil => exact .inr rfl
      | cons _ _ => exact nomatch h
    | _ => exact nomatch h
def oddPb : PyData → Bool
  | .tuple [a, b] => (oddWb a || noD a) && (oddWb b || noD b)
  | .bool _ => false
  | .dict _ => false
  | _ => true
theorem oddPb_ok {d : PyData} (h : oddPb d = true) : oddP d := by
  cases d with
  | tuple ds =>
    match ds, h with
    | [], _ => trivial
    | [_], _ => trivial
    | [a, b], h =>
      have h' : ((oddWb a || noD a) && (oddWb b || noD b)) = true := h
      rw [Bool.and_eq_true] at h'
      exact ⟨noD_ok h'.1, noD_ok h'.2⟩
    | _ :: _ :: _ :: _, _ => trivial
  | bool _ => exact nomatch h
  | dict _ => exact nomatch h
  | _ => trivial
def LitP (K : PySem.W.Frag) (te : TE) (d : PyData) : Prop := ∀ (σ : L2.St) (H : Hp) (Q : VK), (∀ x H', Same H H' → (∀ H'', Fresh H H' H'' → PQ K H'' x d) → Q x H') → te σ H Q
def LitsP (K : PySem.W.Frag) (ta : TA) (ds : List PyData) : Prop := ∀ (σ : L2.St) (H : Hp) (Q : List V → Hp → Prop), (∀ xs H', Same H H' → xs.length = ds.length → (∀ H'', Fresh H H' H'' → Its K H'' xs ds) → Q xs H') → ta σ H Q
section
variable {K : PySem.W.Frag} {te : TE} {ta : TA} {d : PyData} {ds : List PyData}
theorem litP_of (h : Lit K te d) (n : ∀ b, d ≠ .bool b) : LitP K te d := fun σ H Q q => h σ H Q fun x H' s g => q x H' s fun H'' f => .inl ⟨g H'' f, n⟩
theorem litP_dict : LitP K (tTup (tCons (tTup tNil) (tCons tDNewK tNil))) (.tuple [.tuple [], .dict []]) := by
  intro σ H Q q
  refine ⟨by show 0 ≤ sizeLine; decide, fun t ht a ha => ?_⟩
  have s1 := same_new ht (.tup [])
  have s2 := same_new ha (.dK [])
  refine ⟨by show 2 ≤ sizeLine; decide, fun p hp => ?_⟩
  have s3 := same_new hp (.tup [.ref t, .ref a])
  exact q _ _ (s1.trans (s2.trans s3)) fun H'' f => .inr ⟨p, .ref t, .ref a, _, _, rfl, rfl, SqT.of (f p _ (none_back (s1.trans s2) hp) upd_same), .inl ⟨.tup (SqT.of (f t _ ht ((s2.trans s3) _ _ upd_same))) .nil, (fun d hd => nomatch hd), by decide⟩, .inr ⟨rfl, a, rfl, f a _ (none_back s1 ha) (s3 _ _ upd_same)⟩⟩
theorem litsP_nil : LitsP K tNil [] := fun σ H Q q => q _ _ (fun _ _ e => e) rfl fun _ _ => True.intro
theorem litsP_cons (h : LitP K te d) (o : oddP d) (t : LitsP K ta ds) : LitsP K (tCons te ta) (d :: ds) := fun σ H Q q =>
  h σ H _ fun x H1 s1 g1 => t σ H1 _ fun xs H2 s2 l2 g2 => q _ _ (s1.trans s2) (by rw [List.length_cons, List.length_cons, l2]) fun H'' f => ⟨⟨g1 H'' (f.left s2), o⟩, g2 H'' (f.right s1)⟩
/-- a list of things laid since H0 -/
def FL (K : PySem.W.Frag) (H0 H1 : Hp) (l : Addr) (ds : List PyData) : Prop := Same H0 H1 ∧ ∃ xs : List V, xs.length = ds.length ∧ ∀ H'', Fresh H0 H1 H'' → H'' l = some (.lst xs) ∧ Its K H'' xs ds
def FW (K : PySem.W.Frag) (H0 H1 : Hp) (l : Addr) (ds : List PyData) : Prop := Same H0 H1 ∧ ∃ xs : List V, xs.length = ds.length ∧ ∀ H'', Fresh H0 H1 H'' → H'' l = some (.lst xs) ∧ DpAll K H'' xs ds
theorem its_app {H : Hp} : ∀ {xs ys : List V} {ds es : List PyData}, Its K H xs ds → Its K H ys es → Its K H (xs ++ ys) (ds ++ es)
  | [], _, [], _, _, h => h
  | _ :: _, _, _ :: _, _, h1, h2 => ⟨h1.1, its_app h1.2 h2⟩
  | [], _, _ :: _, _, h, _ => h.elim
  | _ :: _, _, [], _, h, _ => h.elim
theorem dps_app {H : Hp} {ys : List V} {es : List PyData} (h2 : DpAll K H ys es) : ∀ {xs : List V} {ds : List PyData}, DpAll K H xs ds → DpAll K H (xs ++ ys) (ds ++ es)
  | [], [], _ => h2
  | _ :: _, _ :: _, .cons h t => .cons h (dps_app h2 t)
variable {H0 H1 : Hp} {σ : L2.St} {l : Addr} {es : List PyData}
theorem first_FL {u : TS} {D : Ends} (h : LitsP K ta ds) (q : ∀ H' l', FL K H0 H' l' ds → u D (σ.set 0 (some (.ref l'))) H') (lim : ds.length ≤ 1000 := by decide) : tSeq (tAsg (tLst ta) (gName 0)) u D σ H0 :=
  h σ H0 _ fun xs H1 s1 e g => ⟨small_line (by omega), fun p hp => q _ _ ⟨s1.trans (same_new hp _), xs, e, fun H'' f => ⟨f p _ (none_back s1 hp) upd_same, g H'' (f.left (same_new hp _))⟩⟩⟩
theorem first_FW {u : TS} {D : Ends} (h : Lits K ta ds) (q : ∀ H' l', FW K H0 H' l' ds → u D (σ.set 0 (some (.ref l'))) H') (lim : ds.length ≤ 1000 := by decide) : tSeq (tAsg (tLst ta) (gName 0)) u D σ H0 :=
  h σ H0 _ fun xs H1 s1 e g => ⟨small_line (by omega), fun p hp => q _ _ ⟨s1.trans (same_new hp _), xs, e, fun H'' f => ⟨f p _ (none_back s1 hp) upd_same, g H'' (f.left (same_new hp _))⟩⟩⟩
theorem step_FL {u : TS} {D : Ends} (h : FL K H0 H1 l ds) (hs : σ[0]? = some (some (.ref l))) (t : LitsP K ta es) (lim : ds.length + es.length ≤ 1000) (q : ∀ H' l', FL K H0 H' l' (ds ++ es) → u D (σ.set 0 (some (.ref l'))) H') : tSeq (tAsg (tOp rCat (tVar 0) (tLst ta)) (gName 0)) u D σ H1 := by
  obtain ⟨s1, xs, e, g⟩ := h
  refine ⟨_, hs, t σ H1 _ fun ys H2 s2 e2 g2 => ⟨small_line (by omega), fun p hp => ?_⟩⟩
  have s3 := same_new hp (.lst ys)
  refine ⟨l, p, xs, ys, rfl, rfl, (s2.trans s3) _ _ (g H1 (.self _ _)).1, upd_same, small_line (by omega), fun p2 hp2 => ?_⟩
  have s4 := same_new hp2 (.lst (xs ++ ys))
  have s24 := s2.trans (s3.trans s4)
  exact q _ _ ⟨s1.trans s24, xs ++ ys, by rw [List.length_append, List.length_append, e, e2], fun H'' f => ⟨f p2 _ (none_back (s1.trans (s2.trans s3)) hp2) upd_same, its_app (g H'' (f.left s24)).2 (g2 H'' ((f.right s1).left (s3.trans s4)))⟩⟩
theorem step_FW {u : TS} {D : Ends} (h : FW K H0 H1 l ds) (hs : σ[0]? = some (some (.ref l))) (t : Lits K ta es) (lim : ds.length + es.length ≤ 1000) (q : ∀ H' l', FW K H0 H' l' (ds ++ es) → u D (σ.set 0 (some (.ref l'))) H') : tSeq (tAsg (tOp rCat (tVar 0) (tLst ta)) (gName 0)) u D σ H1 := by
  obtain ⟨s1, xs, e, g⟩ := h
  refine ⟨_, hs, t σ H1 _ fun ys H2 s2 e2 g2 => ⟨small_line (by omega), fun p hp => ?_⟩⟩
  have s3 := same_new hp (.lst ys)
  refine ⟨l, p, xs, ys, rfl, rfl, (s2.trans s3) _ _ (g H1 (.self _ _)).1, upd_same, small_line (by omega), fun p2 hp2 => ?_⟩
  have s4 := same_new hp2 (.lst (xs ++ ys))
  have s24 := s2.trans (s3.trans s4)
  exact q _ _ ⟨s1.trans s24, xs ++ ys, by rw [List.length_append, List.length_append, e, e2], fun H'' f => ⟨f p2 _ (none_back (s1.trans (s2.trans s3)) hp2) upd_same, dps_app (g2 H'' ((f.right s1).left (s3.trans s4))) (g H'' (f.left s24)).2⟩⟩
end
/-! ### _law_items, _law_words -/
def itemsD0 : List PyData := [(.tuple [(.tuple [(.str "b"), (.str "a")]), (.tuple [(.str "a"), (.str "b")])]), (.tuple [(.tuple [(.str "a"), (.str "a")]), (.tuple [(.str "a")])]), (.tuple [(.list [(.str "a")]), (.tuple [(.str "a")])]), (.tuple [(.str "a"), (.tuple [(.str "a")])]), (.tuple [.none, (.tuple [(.str "a")])])]
def itemsD1 : List PyData := [(.tuple [(.tuple [(.str "A")]), (.tuple [(.str "A")])]), .none, (.tuple []), (.tuple [(.tuple [])]), (.tuple [(.tuple []), (.tuple []), (.tuple [])]), (.tuple [(.tuple [(.str "a")]), (.tuple [])]), (.tuple [(.tuple [(.str "a")]), (.tuple [(.str "b")])])]
def itemsD2 : List PyData := [(.list [(.tuple []), (.tuple [])]), (.tuple [(.tuple []), (.tuple [(.str "c")])]), (.tuple [(.tuple [(.str "a")]), (.tuple [(.str "ab")])]), (.tuple [(.tuple [(.str "a"), (.str "b")]), (.tuple [(.str "a")])]), (.tuple [(.tuple [(.str "a"), (.str "b")]), (.tuple [(.str "b")])])]
def itemsD3 : List PyData := [(.tuple [(.tuple []), (.tuple [(.str "b"), (.str "a")])]), (.tuple [(.tuple []), (.tuple [(.str "a"), (.str "a")])]), (.tuple [(.tuple []), (.list [(.str "a")])]), (.tuple [(.tuple [(.str "a")]), (.list [(.str "a")])]), (.tuple [(.tuple []), (.str "a")]), (.tuple [(.tuple []), .none])]
def itemsD4 : List PyData := [(.tuple [(.tuple []), (.tuple [(.str "A")])]), (.tuple [(.tuple []), (.dict [])]), (.tuple [(.tuple []), (.int 7)]), (.tuple [(.tuple [(.str "a")]), (.tuple [(.str "a"), (.str "c")])]), (.tuple [(.tuple []), (.tuple [(.str "a"), (.str "b"), (.str "c")])])]
def itemsD5 : List PyData := [(.tuple [(.tuple []), (.tuple [(.str "ab")])]), (.tuple [(.tuple [(.str "a"), (.str "b")]), (.tuple [(.str "a"), (.str "b"), (.str "z")])]), (.tuple [(.tuple []), (.tuple [(.str "ab"), (.str "b")])]), (.tuple [(.tuple [(.str "b")]), (.tuple [(.str "aa"), (.str "b")])])]
def itemsD : List PyData := itemsD0 ++ itemsD1 ++ itemsD2 ++ itemsD3 ++ itemsD4 ++ itemsD5
def wordsD0 : List PyData := [.none, (.str ""), (.str "Any"), (.int 0), (.tuple [(.str "any")]), (.list [(.str "plain")]), (.str "many"), (.bool true), (.str "basic"), (.str "rules"), (.str "all"), (.str "total"), (.str "plainly")]
def wordsD1 : List PyData := [(.str "single "), (.str "any\n"), (.str " any"), (.str "plai"), (.str "PLAIN")]
def wordsD : List PyData := wordsD0 ++ wordsD1
abbrev sLawItems : Stmt := topS 57
abbrev sLawWords : Stmt := topS 58
theorem scLawItems : FnScope ["items"] [] (defScope sLawItems) := ⟨rfl, rfl, rfl, by decide +kernel, rfl, by decide +kernel, by decide +kernel⟩
theorem scLawWords : FnScope ["words"] [] (defScope sLawWords) := ⟨rfl, rfl, rfl, by decide +kernel, rfl, by decide +kernel, by decide +kernel⟩
section
variable {P : Program} {w : World} {K : PySem.W.Frag} {mg : Str → Option Value} {base : Heap} {f : Addr} {fd : FuncData} {k : Nat}
def spLawItems (K : PySem.W.Frag) : Sp := fun vs H Q _ => vs = [] ∧ ∀ H' l, FL K H H' l itemsD → Q (.ref l) H'
theorem ok_lawItems (F : Fun K "_law_items" "_law_items" sLawItems f fd) : FnOk P w K mg base CX0 (k + 1) f fd [] (spLawItems K) := by
  refine F.ok scLawItems (fun vs H Q E h => ?_) (fun cdv A outer s H vs Q E hr h => ?_)
  · obtain ⟨rfl, _⟩ := h
    rfl
  obtain ⟨rfl, q⟩ := h
  refine ⟨_, (pss_cons (ps_set (i := 0) scLawItems.nd rfl (.inl rfl) (pe_lst (pa_cons (pe_tup (pa_cons (pe_tup (pa_cons pe_str (pa_cons pe_str pa_nil))) (pa_cons (pe_tup (pa_cons pe_str (pa_cons pe_str pa_nil))) pa_nil))) (pa_cons (pe_tup (pa_cons (pe_tup (pa_cons pe_str (pa_cons pe_str pa_nil))) (pa_cons (pe_tup (pa_cons pe_str pa_nil)) pa_nil))) (pa_cons (pe_tup (pa_cons (pe_lst (pa_cons pe_str pa_nil)) (pa_cons (pe_tup (pa_cons pe_str pa_nil)) pa_nil))) (pa_cons (pe_tup (pa_cons pe_str (pa_cons (pe_tup (pa_cons pe_str pa_nil)) pa_nil))) (pa_cons (pe_tup (pa_cons pe_non (pa_cons (pe_tup (pa_cons pe_str pa_nil)) pa_nil))) pa_nil)))))))
    (pss_cons (ps_set (i := 0) scLawItems.nd rfl (.inl rfl) (pe_op op_cat (pv 0) (pe_lst (pa_cons (pe_tup (pa_cons (pe_tup (pa_cons pe_str pa_nil)) (pa_cons (pe_tup (pa_cons pe_str pa_nil)) pa_nil))) (pa_cons pe_non (pa_cons (pe_tup pa_nil) (pa_cons (pe_tup (pa_cons (pe_tup pa_nil) pa_nil)) (pa_cons (pe_tup (pa_cons (pe_tup pa_nil) (pa_cons (pe_tup pa_nil) (pa_cons (pe_tup pa_nil) pa_nil)))) (pa_cons (pe_tup (pa_cons (pe_tup (pa_cons pe_str pa_nil)) (pa_cons (pe_tup pa_nil) pa_nil))) (pa_cons (pe_tup (pa_cons (pe_tup (pa_cons pe_str pa_nil)) (pa_cons (pe_tup (pa_cons pe_str pa_nil)) pa_nil))) pa_nil))))))))))
    (pss_cons (ps_set (i := 0) scLawItems.nd rfl (.inl rfl) (pe_op op_cat (pv 0) (pe_lst (pa_cons (pe_lst (pa_cons (pe_tup pa_nil) (pa_cons (pe_tup pa_nil) pa_nil))) (pa_cons (pe_tup (pa_cons (pe_tup pa_nil) (pa_cons (pe_tup (pa_cons pe_str pa_nil)) pa_nil))) (pa_cons (pe_tup (pa_cons (pe_tup (pa_cons pe_str pa_nil)) (pa_cons (pe_tup (pa_cons pe_str pa_nil)) pa_nil))) (pa_cons (pe_tup (pa_cons (pe_tup (pa_cons pe_str (pa_cons pe_str pa_nil))) (pa_cons (pe_tup (pa_cons pe_str pa_nil)) pa_nil))) (pa_cons (pe_tup (pa_cons (pe_tup (pa_cons pe_str (pa_cons pe_str pa_nil))) (pa_cons (pe_tup (pa_cons pe_str pa_nil)) pa_nil))) pa_nil))))))))
    (pss_cons (ps_set (i := 0) scLawItems.nd rfl (.inl rfl) (pe_op op_cat (pv 0) (pe_lst (pa_cons (pe_tup (pa_cons (pe_tup pa_nil) (pa_cons (pe_tup (pa_cons pe_str (pa_cons pe_str pa_nil))) pa_nil))) (pa_cons (pe_tup (pa_cons (pe_tup pa_nil) (pa_cons (pe_tup (pa_cons pe_str (pa_cons pe_str pa_nil))) pa_nil))) (pa_cons (pe_tup (pa_cons (pe_tup pa_nil) (pa_cons (pe_lst (pa_cons pe_str pa_nil)) pa_nil))) (pa_cons (pe_tup (pa_cons (pe_tup (pa_cons pe_str pa_nil)) (pa_cons (pe_lst (pa_cons pe_str pa_nil)) pa_nil))) (pa_cons (pe_tup (pa_cons (pe_tup pa_nil) (pa_cons pe_str pa_nil))) (pa_cons (pe_tup (pa_cons (pe_tup pa_nil) (pa_cons pe_non pa_nil))) pa_nil)))))))))
    (pss_cons (ps_set (i := 0) scLawItems.nd rfl (.inl rfl) (pe_op op_cat (pv 0) (pe_lst (pa_cons (pe_tup (pa_cons (pe_tup pa_nil) (pa_cons (pe_tup (pa_cons pe_str pa_nil)) pa_nil))) (pa_cons (pe_tup (pa_cons (pe_tup pa_nil) (pa_cons pe_dnewK pa_nil))) (pa_cons (pe_tup (pa_cons (pe_tup pa_nil) (pa_cons pe_int pa_nil))) (pa_cons (pe_tup (pa_cons (pe_tup (pa_cons pe_str pa_nil)) (pa_cons (pe_tup (pa_cons pe_str (pa_cons pe_str pa_nil))) pa_nil))) (pa_cons (pe_tup (pa_cons (pe_tup pa_nil) (pa_cons (pe_tup (pa_cons pe_str (pa_cons pe_str (pa_cons pe_str pa_nil)))) pa_nil))) pa_nil))))))))
    (pss_cons (ps_set (i := 0) scLawItems.nd rfl (.inl rfl) (pe_op op_cat (pv 0) (pe_lst (pa_cons (pe_tup (pa_cons (pe_tup pa_nil) (pa_cons (pe_tup (pa_cons pe_str pa_nil)) pa_nil))) (pa_cons (pe_tup (pa_cons (pe_tup (pa_cons pe_str (pa_cons pe_str pa_nil))) (pa_cons (pe_tup (pa_cons pe_str (pa_cons pe_str (pa_cons pe_str pa_nil)))) pa_nil))) (pa_cons (pe_tup (pa_cons (pe_tup pa_nil) (pa_cons (pe_tup (pa_cons pe_str (pa_cons pe_str pa_nil))) pa_nil))) (pa_cons (pe_tup (pa_cons (pe_tup (pa_cons pe_str pa_nil)) (pa_cons (pe_tup (pa_cons pe_str (pa_cons pe_str pa_nil))) pa_nil))) pa_nil)))))))
    (pss_one (ps_ret (pv 0))))))))), ?_⟩
  refine first_FL (K := K) (ds := itemsD0) ((litsP_cons (litP_of (lit_tup (lits_cons (lit_tup (lits_cons (lit_str _) (lits_cons (lit_str _) lits_nil)) (by decide)) (lits_cons (lit_tup (lits_cons (lit_str _) (lits_cons (lit_str _) lits_nil)) (by decide)) lits_nil)) (by decide)) (fun b e => nomatch e)) (oddPb_ok (by decide +kernel)) (litsP_cons (litP_of (lit_tup (lits_cons (lit_tup (lits_cons (lit_str _) (lits_cons (lit_str _) lits_nil)) (by decide)) (lits_cons (lit_tup (lits_cons (lit_str _) lits_nil) (by decide)) lits_nil)) (by decide)) (fun b e => nomatch e)) (oddPb_ok (by decide +kernel)) (litsP_cons (litP_of (lit_tup (lits_cons (lit_lst (lits_cons (lit_str _) lits_nil) (by decide)) (lits_cons (lit_tup (lits_cons (lit_str _) lits_nil) (by decide)) lits_nil)) (by decide)) (fun b e => nomatch e)) (oddPb_ok (by decide +kernel)) (litsP_cons (litP_of (lit_tup (lits_cons (lit_str _) (lits_cons (lit_tup (lits_cons (lit_str _) lits_nil) (by decide)) lits_nil)) (by decide)) (fun b e => nomatch e)) (oddPb_ok (by decide +kernel)) (litsP_cons (litP_of (lit_tup (lits_cons lit_non (lits_cons (lit_tup (lits_cons (lit_str _) lits_nil) (by decide)) lits_nil)) (by decide)) (fun b e => nomatch e)) (oddPb_ok (by decide +kernel)) litsP_nil)))))) fun H1 l1 h1 => ?_
  refine step_FL (es := itemsD1) h1 rfl ((litsP_cons (litP_of (lit_tup (lits_cons (lit_tup (lits_cons (lit_str _) lits_nil) (by decide)) (lits_cons (lit_tup (lits_cons (lit_str _) lits_nil) (by decide)) lits_nil)) (by decide)) (fun b e => nomatch e)) (oddPb_ok (by decide +kernel)) (litsP_cons (litP_of lit_non (fun b e => nomatch e)) (oddPb_ok (by decide +kernel)) (litsP_cons (litP_of (lit_tup lits_nil (by decide)) (fun b e => nomatch e)) (oddPb_ok (by decide +kernel)) (litsP_cons (litP_of (lit_tup (lits_cons (lit_tup lits_nil (by decide)) lits_nil) (by decide)) (fun b e => nomatch e)) (oddPb_ok (by decide +kernel)) (litsP_cons (litP_of (lit_tup (lits_cons (lit_tup lits_nil (by decide)) (lits_cons (lit_tup lits_nil (by decide)) (lits_cons (lit_tup lits_nil (by decide)) lits_nil))) (by decide)) (fun b e => nomatch e)) (oddPb_ok (by decide +kernel)) (litsP_cons (litP_of (lit_tup (lits_cons (lit_tup (lits_cons (lit_str _) lits_nil) (by decide)) (lits_cons (lit_tup lits_nil (by decide)) lits_nil)) (by decide)) (fun b e => nomatch e)) (oddPb_ok (by decide +kernel)) (litsP_cons (litP_of (lit_tup (lits_cons (lit_tup (lits_cons (lit_str _) lits_nil) (by decide)) (lits_cons (lit_tup (lits_cons (lit_str _) lits_nil) (by decide)) lits_nil)) (by decide)) (fun b e => nomatch e)) (oddPb_ok (by decide +kernel)) litsP_nil)))))))) (by decide) fun H2 l2 h2 => ?_
  refine step_FL (es := itemsD2) h2 rfl ((litsP_cons (litP_of (lit_lst (lits_cons (lit_tup lits_nil (by decide)) (lits_cons (lit_tup lits_nil (by decide)) lits_nil)) (by decide)) (fun b e => nomatch e)) (oddPb_ok (by decide +kernel)) (litsP_cons (litP_of (lit_tup (lits_cons (lit_tup lits_nil (by decide)) (lits_cons (lit_tup (lits_cons (lit_str _) lits_nil) (by decide)) lits_nil)) (by decide)) (fun b e => nomatch e)) (oddPb_ok (by decide +kernel)) (litsP_cons (litP_of (lit_tup (lits_cons (lit_tup (lits_cons (lit_str _) lits_nil) (by decide)) (lits_cons (lit_tup (lits_cons (lit_str _) lits_nil) (by decide)) lits_nil)) (by decide)) (fun b e => nomatch e)) (oddPb_ok (by decide +kernel)) (litsP_cons (litP_of (lit_tup (lits_cons (lit_tup (lits_cons (lit_str _) (lits_cons (lit_str _) lits_nil)) (by decide)) (lits_cons (lit_tup (lits_cons (lit_str _) lits_nil) (by decide)) lits_nil)) (by decide)) (fun b e => nomatch e)) (oddPb_ok (by decide +kernel)) (litsP_cons (litP_of (lit_tup (lits_cons (lit_tup (lits_cons (lit_str _) (lits_cons (lit_str _) lits_nil)) (by decide)) (lits_cons (lit_tup (lits_cons (lit_str _) lits_nil) (by decide)) lits_nil)) (by decide)) (fun b e => nomatch e)) (oddPb_ok (by decide +kernel)) litsP_nil)))))) (by decide) fun H3 l3 h3 => ?_
  refine step_FL (es := itemsD3) h3 rfl ((litsP_cons (litP_of (lit_tup (lits_cons (lit_tup lits_nil (by decide)) (lits_cons (lit_tup (lits_cons (lit_str _) (lits_cons (lit_str _) lits_nil)) (by decide)) lits_nil)) (by decide)) (fun b e => nomatch e)) (oddPb_ok (by decide +kernel)) (litsP_cons (litP_of (lit_tup (lits_cons (lit_tup lits_nil (by decide)) (lits_cons (lit_tup (lits_cons (lit_str _) (lits_cons (lit_str _) lits_nil)) (by decide)) lits_nil)) (by decide)) (fun b e => nomatch e)) (oddPb_ok (by decide +kernel)) (litsP_cons (litP_of (lit_tup (lits_cons (lit_tup lits_nil (by decide)) (lits_cons (lit_lst (lits_cons (lit_str _) lits_nil) (by decide)) lits_nil)) (by decide)) (fun b e => nomatch e)) (oddPb_ok (by decide +kernel)) (litsP_cons (litP_of (lit_tup (lits_cons (lit_tup (lits_cons (lit_str _) lits_nil) (by decide)) (lits_cons (lit_lst (lits_cons (lit_str _) lits_nil) (by decide)) lits_nil)) (by decide)) (fun b e => nomatch e)) (oddPb_ok (by decide +kernel)) (litsP_cons (litP_of (lit_tup (lits_cons (lit_tup lits_nil (by decide)) (lits_cons (lit_str _) lits_nil)) (by decide)) (fun b e => nomatch e)) (oddPb_ok (by decide +kernel)) (litsP_cons (litP_of (lit_tup (lits_cons (lit_tup lits_nil (by decide)) (lits_cons lit_non lits_nil)) (by decide)) (fun b e => nomatch e)) (oddPb_ok (by decide +kernel)) litsP_nil))))))) (by decide) fun H4 l4 h4 => ?_
  refine step_FL (es := itemsD4) h4 rfl ((litsP_cons (litP_of (lit_tup (lits_cons (lit_tup lits_nil (by decide)) (lits_cons (lit_tup (lits_cons (lit_str _) lits_nil) (by decide)) lits_nil)) (by decide)) (fun b e => nomatch e)) (oddPb_ok (by decide +kernel)) (litsP_cons litP_dict (oddPb_ok (by decide +kernel)) (litsP_cons (litP_of (lit_tup (lits_cons (lit_tup lits_nil (by decide)) (lits_cons (lit_int _) lits_nil)) (by decide)) (fun b e => nomatch e)) (oddPb_ok (by decide +kernel)) (litsP_cons (litP_of (lit_tup (lits_cons (lit_tup (lits_cons (lit_str _) lits_nil) (by decide)) (lits_cons (lit_tup (lits_cons (lit_str _) (lits_cons (lit_str _) lits_nil)) (by decide)) lits_nil)) (by decide)) (fun b e => nomatch e)) (oddPb_ok (by decide +kernel)) (litsP_cons (litP_of (lit_tup (lits_cons (lit_tup lits_nil (by decide)) (lits_cons (lit_tup (lits_cons (lit_str _) (lits_cons (lit_str _) (lits_cons (lit_str _) lits_nil))) (by decide)) lits_nil)) (by decide)) (fun b e => nomatch e)) (oddPb_ok (by decide +kernel)) litsP_nil)))))) (by decide) fun H5 l5 h5 => ?_
  refine step_FL (es := itemsD5) h5 rfl ((litsP_cons (litP_of (lit_tup (lits_cons (lit_tup lits_nil (by decide)) (lits_cons (lit_tup (lits_cons (lit_str _) lits_nil) (by decide)) lits_nil)) (by decide)) (fun b e => nomatch e)) (oddPb_ok (by decide +kernel)) (litsP_cons (litP_of (lit_tup (lits_cons (lit_tup (lits_cons (lit_str _) (lits_cons (lit_str _) lits_nil)) (by decide)) (lits_cons (lit_tup (lits_cons (lit_str _) (lits_cons (lit_str _) (lits_cons (lit_str _) lits_nil))) (by decide)) lits_nil)) (by decide)) (fun b e => nomatch e)) (oddPb_ok (by decide +kernel)) (litsP_cons (litP_of (lit_tup (lits_cons (lit_tup lits_nil (by decide)) (lits_cons (lit_tup (lits_cons (lit_str _) (lits_cons (lit_str _) lits_nil)) (by decide)) lits_nil)) (by decide)) (fun b e => nomatch e)) (oddPb_ok (by decide +kernel)) (litsP_cons (litP_of (lit_tup (lits_cons (lit_tup (lits_cons (lit_str _) lits_nil) (by decide)) (lits_cons (lit_tup (lits_cons (lit_str _) (lits_cons (lit_str _) lits_nil)) (by decide)) lits_nil)) (by decide)) (fun b e => nomatch e)) (oddPb_ok (by decide +kernel)) litsP_nil))))) (by decide) fun H6 l6 h6 => ?_
  exact ⟨_, rfl, q H6 l6 h6⟩
def spLawWords (K : PySem.W.Frag) : Sp := fun vs H Q _ => vs = [] ∧ ∀ H' l, FW K H H' l wordsD → Q (.ref l) H'
theorem ok_lawWords (F : Fun K "_law_words" "_law_words" sLawWords f fd) : FnOk P w K mg base CX0 (k + 1) f fd [] (spLawWords K) := by
  refine F.ok scLawWords (fun vs H Q E h => ?_) (fun cdv A outer s H vs Q E hr h => ?_)
  · obtain ⟨rfl, _⟩ := h
    rfl
  obtain ⟨rfl, q⟩ := h
  refine ⟨_, (pss_cons (ps_set (i := 0) scLawWords.nd rfl (.inl rfl) (pe_lst (pa_cons pe_non (pa_cons pe_str (pa_cons pe_str (pa_cons pe_int (pa_cons (pe_tup (pa_cons pe_str pa_nil)) (pa_cons (pe_lst (pa_cons pe_str pa_nil)) (pa_cons pe_str (pa_cons pe_bl (pa_cons pe_str (pa_cons pe_str (pa_cons pe_str (pa_cons pe_str (pa_cons pe_str pa_nil)))))))))))))))
    (pss_cons (ps_set (i := 0) scLawWords.nd rfl (.inl rfl) (pe_op op_cat (pv 0) (pe_lst (pa_cons pe_str (pa_cons pe_str (pa_cons pe_str (pa_cons pe_str (pa_cons pe_str pa_nil))))))))
    (pss_one (ps_ret (pv 0))))), ?_⟩
  refine first_FW (K := K) (ds := wordsD0) ((lits_cons lit_non (lits_cons (lit_str _) (lits_cons (lit_str _) (lits_cons (lit_int _) (lits_cons (lit_tup (lits_cons (lit_str _) lits_nil) (by decide)) (lits_cons (lit_lst (lits_cons (lit_str _) lits_nil) (by decide)) (lits_cons (lit_str _) (lits_cons (lit_bl _) (lits_cons (lit_str _) (lits_cons (lit_str _) (lits_cons (lit_str _) (lits_cons (lit_str _) (lits_cons (lit_str _) lits_nil)))))))))))))) fun H1 l1 h1 => ?_
  refine step_FW (es := wordsD1) h1 rfl ((lits_cons (lit_str _) (lits_cons (lit_str _) (lits_cons (lit_str _) (lits_cons (lit_str _) (lits_cons (lit_str _) lits_nil)))))) (by decide) fun H2 l2 h2 => ?_
  exact ⟨_, rfl, q H2 l2 h2⟩
end
end Rw
namespace Rw
open PySem PySem.Spec PyProof.Rows L2
/-! ### what is asked, and the lists that are compared -/
section
variable {K : PySem.W.Frag} {CW CP CK CB l : Addr} {x kv : V} {H : Hp} {Q : VK} {xs : List V} {ds : List PyData} {d dk : PyData} {G : Hp → Prop} {ns : W}
theorem ask_world (hS : SqL K H l xs ∨ SqT K H l xs) (hi : Its K H xs ds) (hx : WQ K H x d) (no : worldD d = false) (hk : Dp K H kv dk) (sk : SeqAt.shaped dk = true) (q : TL Q "world" x H) : AskP K CW CP CK l x kv H (TE' CW CP CK CB Q) G :=
  ⟨xs, ds, d, dk, hS, hi, hx, hk, sk, fun H' s => ⟨fun _ dx hdx => ⟨dx, CW, x, "thing", rfl, rfl, upd_same, .inl ⟨rfl, rfl, q.same (s.trans (same_new hdx _))⟩⟩, fun ns hn e => by
    rw [e, worldD_wd hn] at no
    exact nomatch no⟩⟩
theorem ask_pair {pre post : List PyData} {db : PyData} {v : V} (hS : SqL K H l xs ∨ SqT K H l xs) (hi : Its K H xs (pre ++ db :: post)) (hn : IsW ns) (hx : Dp K H x (wd ns)) (hk : Dp K H kv dk) (sk : SeqAt.shaped dk = true) (hp : ∀ e ∈ pre, goodD ns e = true) (hb : goodD ns db = false) (hv : xs[pre.length]? = some v) (q : TL Q "pair" v H) :
    AskP K CW CP CK l x kv H (TE' CW CP CK CB Q) G :=
  ⟨xs, pre ++ db :: post, wd ns, dk, hS, hi, .inl ⟨hx, oddW_wd hn⟩, hk, sk, fun H' s => ⟨fun f => by
    rw [worldD_wd hn] at f
    exact (nomatch f), fun ns' hn' e => by
    have := wd_inj e
    subst this
    refine ⟨fun i xi di h1 h2 h3 h4 dx hdx => ?_, fun h => by rw [h db (by simp)] at hb; exact nomatch hb⟩
    have ei : i = pre.length := by
      rcases Nat.lt_trichotomy i pre.length with c | c | c
      · rw [List.getElem?_append_left c] at h2
        rw [hp di (List.mem_of_getElem? h2)] at h3
        exact nomatch h3
      · exact c
      · have : db ∈ (pre ++ db :: post).take i := by
          obtain ⟨m, rfl⟩ : ∃ m, i = pre.length + (m + 1) := ⟨i - pre.length - 1, by omega⟩
          rw [List.take_append]
          have : pre.length + (m + 1) - pre.length = m + 1 := by omega
          rw [this, List.take_succ_cons]
          exact List.mem_append.mpr (.inr List.mem_cons_self)
        rw [h4 db this] at hb
        exact nomatch hb
    subst ei
    rw [hv] at h1
    cases h1
    exact ⟨dx, CP, v, "thing", rfl, rfl, upd_same, .inr (.inl ⟨rfl, rfl, q.same (s.trans (same_new hdx _))⟩)⟩⟩⟩
theorem ask_good (hS : SqL K H l xs ∨ SqT K H l xs) (hi : Its K H xs ds) (hn : IsW ns) (hx : Dp K H x (wd ns)) (hk : Dp K H kv dk) (sk : SeqAt.shaped dk = true) (hp : ∀ e ∈ ds, goodD ns e = true) (g : ∀ H', Same H H' → kindD dk = true → G H') (q : kindD dk = false → TL Q "kind" kv H) :
    AskP K CW CP CK l x kv H (TE' CW CP CK CB Q) G :=
  ⟨xs, ds, wd ns, dk, hS, hi, .inl ⟨hx, oddW_wd hn⟩, hk, sk, fun H' s => ⟨fun f => by
    rw [worldD_wd hn] at f
    exact (nomatch f), fun ns' hn' e => by
    have := wd_inj e
    subst this
    exact ⟨fun i xi di h1 h2 h3 h4 dx hdx => by
      rw [hp di (List.mem_of_getElem? h2)] at h3
      exact (nomatch h3), fun _ => ⟨g H' s, fun f dx hdx => ⟨dx, CK, kv, "value", rfl, rfl, upd_same, .inr (.inr (.inl ⟨rfl, rfl, (q f).same (s.trans (same_new hdx _))⟩))⟩⟩⟩⟩⟩
theorem ask_kind (hS : SqL K H l xs ∨ SqT K H l xs) (hi : Its K H xs ds) (hn : IsW ns) (hx : Dp K H x (wd ns)) (hk : Dp K H kv dk) (sk : SeqAt.shaped dk = true) (hp : ∀ e ∈ ds, goodD ns e = true) (no : kindD dk = false) (q : TL Q "kind" kv H) :
    AskP K CW CP CK l x kv H (TE' CW CP CK CB Q) G := ask_good hS hi hn hx hk sk hp (fun _ _ e => by rw [no] at e; exact nomatch e) fun _ => q
theorem same_dp (h : Dp K H x d) : SameV x x := by
  cases h with
  | non => exact .inl ⟨rfl, rfl⟩
  | bl _ => exact .inl ⟨rfl, rfl⟩
  | int _ => exact .inl ⟨rfl, rfl⟩
  | str _ => exact .inl ⟨rfl, rfl⟩
  | lst _ _ => exact .inr ⟨_, rfl, rfl⟩
  | tup _ _ => exact .inr ⟨_, rfl, rfl⟩
theorem same_wq (h : WQ K H x d) : SameV x x := by
  rcases h with ⟨h, _⟩ | ⟨_, a, rfl, _⟩
  · exact same_dp h
  · exact .inr ⟨_, rfl, rfl⟩
theorem same_pq (h : PQ K H x d) : SameV x x := by
  rcases h with ⟨h, _⟩ | ⟨a, _, _, _, _, _, rfl, _⟩
  · exact same_dp h
  · exact .inr ⟨_, rfl, rfl⟩
theorem pair_sv {s : Str} (sv : SameV x x) : Paired SameV [.str s, x] [.str s, x] := .cons (.inl ⟨rfl, rfl⟩) (.cons sv .nil)
theorem ne_one {s : Str} {H1 : Hp} (h : H1 l = some (.lst [.str s, x])) (sv : SameV x x) (q : ∀ H3, Same H1 H3 → Q (.bl false) H3) : 2 ≤ sizeLine ∧ ∀ b, H1 b = none → rNeI K (.ref l) (.ref b) (upd H1 b (.lst [.str s, x])) Q :=
  ⟨by decide, fun b hb => by
    have s1 := same_new hb (.lst [.str s, x])
    exact ⟨l, b, _, _, rfl, rfl, SqL.of (s1 _ _ h), SqL.of upd_same, .cons (.inl (.inl ⟨rfl, rfl⟩)) (.cons (.inl sv) .nil), q _ s1⟩⟩
end
def Three (H0 : Hp) (D : Addr) (s : Str) (x : V) (i : Nat) (H : Hp) : Prop := Same H0 H ∧ ∃ ls : List Addr, ls.length = i ∧ H D = some (.lst (ls.map V.ref)) ∧ ∀ l ∈ ls, H l = some (.lst [.str s, x])
section
variable {K : PySem.W.Frag} {H0 H H2 : Hp} {D : Addr} {s : Str} {x : V} {d : PyData}
theorem Three.start (hD : H0 D = none) : Three H0 D s x 0 (upd H0 D (.lst [])) := ⟨same_new hD _, [], rfl, upd_same, fun _ z => nomatch z⟩
theorem Three.step {i : Nat} {l : Addr} (h : Three H0 D s x i H) (hD : H0 D = none) (hi : i < 3) (e : Same H H2) (hl : H2 l = some (.lst [.str s, x])) : ∃ acc, H2 D = some (.lst acc) ∧ acc.length < sizeLine ∧ Three H0 D s x (i + 1) (upd H2 D (.lst (acc ++ [.ref l]))) := by
  obtain ⟨sm, ls, h1, h2, h3⟩ := h
  have hD2 := e _ _ h2
  have ne : ∀ b, H2 b = some (.lst [.str s, x]) → b ≠ D := fun b hb z => by
    rw [z, hD2] at hb
    cases ls with
    | nil => cases hb
    | cons a t => cases hb
  refine ⟨_, hD2, small_line' (by rw [List.length_map]; omega), same_put (sm.trans e) hD, ls ++ [l], by rw [List.length_append, h1]; rfl, by rw [upd_same, List.map_append]; rfl, fun b hb => ?_⟩
  have hb2 : H2 b = some (.lst [.str s, x]) := by
    rcases List.mem_append.mp hb with z | z
    · exact e _ _ (h3 b z)
    · rw [List.mem_singleton.mp z]
      exact hl
  rw [upd_ne (ne b hb2)]
  exact hb2
theorem paired_rep {a : Addr} {H3 : Hp} (sv : SameV x x) (ha : H3 a = some (.lst [.str s, x])) : ∀ {ls : List Addr}, (∀ l ∈ ls, H3 l = some (.lst [.str s, x])) → Paired (EqL1 K H3) (ls.map V.ref) (List.replicate ls.length (V.ref a))
  | [], _ => .nil
  | l :: ls, h => .cons (.inr ⟨l, a, _, _, rfl, rfl, SqL.of (h l List.mem_cons_self), SqL.of ha, pair_sv sv⟩) (paired_rep sv ha fun b hb => h b (List.mem_cons_of_mem _ hb))
theorem flat_rep (a : V) : ∀ n : Nat, (List.replicate n [a]).flatten = List.replicate n a
  | 0 => rfl
  | n + 1 => by rw [List.replicate_succ, List.flatten_cons, flat_rep a n]; rfl
/-- [[word, thing]] * n, and the comparison with the n answers -/
theorem many_ne {Q : VK} {n : Nat} (hn : n ≤ 3) (h : Three H0 D s x n H) (sv : SameV x x) (q : ∀ H3, Same H H3 → Q (.bl false) H3) :
    2 ≤ sizeLine ∧ ∀ a, H a = none → 1 ≤ sizeLine ∧ ∀ b, (upd H a (.lst [.str s, x])) b = none → rRep (.ref b) (.int n) (upd (upd H a (.lst [.str s, x])) b (.lst [.ref a])) fun y H3 => rNeI K (.ref D) y H3 Q := by
  refine ⟨by decide, fun a ha => ⟨by decide, fun b hb => ?_⟩⟩
  have s1 := same_new ha (.lst [.str s, x])
  have s2 := same_new hb (.lst [.ref a])
  refine ⟨b, n, [.ref a], rfl, rfl, upd_same, by omega, by omega, small_line (by simp only [List.length_cons, List.length_nil]; omega), fun c hc => ?_⟩
  have s3 := same_new hc (.lst (List.replicate ((n : Nat) : Int).toNat [V.ref a]).flatten)
  have s123 := s1.trans (s2.trans s3)
  obtain ⟨sm, ls, h1, h2, h3⟩ := h
  have e : (List.replicate ((n : Nat) : Int).toNat [V.ref a]).flatten = List.replicate ls.length (V.ref a) := by rw [flat_rep, Int.toNat_natCast, h1]
  refine ⟨D, c, _, _, rfl, rfl, SqL.of (s123 _ _ h2), SqL.of upd_same, ?_, q _ s123⟩
  exact Eq.mpr (congrArg (Paired (EqL1 K _) (ls.map V.ref)) e) (paired_rep sv ((s2.trans s3) _ _ upd_same) fun l hl => s123 _ _ (h3 l hl))
end
/-! ### reading the calls -/
def Ev (σ : L2.St) (te : TE) (H : Hp) (R : V → Hp → Prop) : Prop := ∀ Q : VK, (∀ x H', Same H H' → R x H' → Q x H') → te σ H Q
section
variable {K : PySem.W.Frag} {CW CP CK CB : Addr} {σ : L2.St} {H : Hp} {Q : VK} {E : XK} {t1 t2 t3 te : TE} {ta : TA} {R1 R2 R3 : V → Hp → Prop} {way : Int}
theorem call_ask (hw : σ[9]? = some (some (.int way))) (w01 : way = 0 ∨ way = 1) (e1 : Ev σ t1 H R1) (e2 : ∀ H', Same H H' → Ev σ t2 H' R2) (e3 : ∀ H', Same H H' → Ev σ t3 H' R3)
    (done : ∀ x1 H1 x2 H2 x3 H3, Same H H1 → R1 x1 H1 → Same H1 H2 → R2 x2 H2 → Same H2 H3 → R3 x3 H3 → ∃ l, x1 = .ref l ∧ ∀ G, AskP K CW CP CK l x2 x3 H3 (TE' CW CP CK CB Q) G) :
    tCall (spLawAsked K CW CP CK CB) [] E (tCons (tVar 9) (tCons t1 (tCons t2 (tCons t3 tNil)))) σ H Q :=
  ⟨_, hw, e1 _ fun x1 H1 s1 r1 => e2 H1 s1 _ fun x2 H2 s2 r2 => e3 H2 (s1.trans s2) _ fun x3 H3 s3 r3 => by
    obtain ⟨l, rfl, A⟩ := done x1 H1 x2 H2 x3 H3 s1 r1 s2 r2 s3 r3
    rcases w01 with rfl | rfl
    · exact ⟨0, l, x2, x3, rfl, .inl ⟨rfl, A _⟩⟩
    · exact ⟨1, l, x2, x3, rfl, .inr ⟨rfl, A _⟩⟩⟩
theorem ev_var {i : Nat} {x : V} (h : σ[i]? = some (some x)) : Ev σ (tVar i) H (fun y _ => y = x) := fun Q q => ⟨x, h, q x H (fun _ _ e => e) rfl⟩
theorem ev_lit {d : PyData} (h : Lit K te d) : Ev σ te H (fun y H' => Dp K H' y d) := fun Q q => h σ H Q fun x H' s g => q x H' s (g H' (.self _ _))
theorem ev_litP {d : PyData} (h : LitP K te d) : Ev σ te H (fun y H' => PQ K H' y d) := fun Q q => h σ H Q fun x H' s g => q x H' s (g H' (.self _ _))
theorem ev_list {ds : List PyData} (h : LitsP K ta ds) (lim : ds.length ≤ 1000 := by decide) : Ev σ (tLst ta) H (fun y H' => ∃ l xs, y = .ref l ∧ SqL K H' l xs ∧ Its K H' xs ds) := fun Q q =>
  h σ H _ fun xs H1 s1 e g => ⟨small_line (by omega), fun p hp => q _ _ (s1.trans (same_new hp _)) ⟨p, xs, rfl, SqL.of upd_same, Its.same (same_new hp _) (g H1 (.self _ _))⟩⟩
end
/-! ### the rows -/
section
variable {K : PySem.W.Frag} {σ : L2.St} {H : Hp} {Q : VK} {a b c : TE} {da db dc d : PyData} {p : Addr} {x : V}
theorem bar_fresh {H H1 H'' : Hp} (np : H p ≠ none) (f : Bar p H1 H'') : Fresh H H1 H'' := fun b u n h => f b u (fun z => np (z ▸ n)) h
theorem rows_ok (ha : LitP K a da) (oa : oddP da) (hb : LitP K b db) (ob : oddP db) (hc : LitP K c dc) (oc : oddP dc) (hσ : σ[6]? = some (some x)) (np : H p ≠ none) (hx : ∀ H'', Bar p H H'' → PQ K H'' x d) (ox : oddP d)
    (q : ∀ H' l xa xb xc, Same H H' → H l = none → (∀ H'', Bar p H' H'' → H'' l = some (.lst [xa, xb, x, .non, xc]) ∧ Its K H'' [xa, xb, x, .non, xc] [da, db, d, .none, dc]) → Q (.ref l) H') :
    tLst (tCons a (tCons b (tCons (tVar 6) (tCons (tC .non) (tCons c tNil))))) σ H Q :=
  ha σ H _ fun xa Ha sa ga => hb σ Ha _ fun xb Hb sb gb => ⟨x, hσ, hc σ Hb _ fun xc Hc sc gc => ⟨by show 5 ≤ sizeLine; decide, fun l hl => by
    have sl := same_new hl (.lst [xa, xb, x, .non, xc])
    have nl := none_back (sa.trans (sb.trans sc)) hl
    have some_of : ∀ {H1 : Hp}, Same H H1 → H1 p ≠ none := fun s => by
      cases e : H p with
      | none => exact absurd e np
      | some u =>
        rw [s _ _ e]
        exact fun z => nomatch z
    have nlp : l ≠ p := fun z => np (z ▸ nl)
    refine q _ l xa xb xc (sa.trans (sb.trans (sc.trans sl))) nl fun H'' f => ⟨f l _ nlp upd_same, ?_⟩
    exact ⟨⟨ga H'' (bar_fresh np ((Bar.same (sb.trans (sc.trans sl))).trans f)), oa⟩, ⟨gb H'' (bar_fresh (some_of sa) ((Bar.same (sc.trans sl)).trans f)), ob⟩, ⟨hx H'' ((Bar.same (sa.trans (sb.trans (sc.trans sl)))).trans f), ox⟩, ⟨.inl ⟨.non, fun b e => nomatch e⟩, True.intro⟩, ⟨gc H'' (bar_fresh (some_of (sa.trans sb)) ((Bar.same sl).trans f)), oc⟩, True.intro⟩⟩⟩
end
end Rw
namespace Rw
open PySem PySem.Spec PyProof.Rows L2
/-! ### statements, read by their values -/
section
variable {K : PySem.W.Frag} {CW CP CK CB : Addr} {σ : L2.St} {H : Hp} {E : XK} {t1 t2 t3 te : TE} {ta : TA} {R1 R2 R3 : V → Hp → Prop} {way : Int} {u : TS} {D : Ends} {i j : Nat} {s : Str} {v : V}
theorem asg_of (h : te σ H (fun x H' => u D (σ.set i (some x)) H')) : tSeq (tAsg te (gName i)) u D σ H := h
theorem seq_of {t : TS} (h : t { D with nx := u D } σ H) : tSeq t u D σ H := h
theorem ret_of {r : L2.R2} {tl : TE} (h : te σ H fun x H1 => tl σ H1 fun y H2 => r x y H2 D.rt) : tRet (tOp r te tl) D σ H := h
theorem call_fin {sp : Sp} {Q : VK} (e1 : Ev σ t1 H R1) (e2 : ∀ H', Same H H' → Ev σ t2 H' R2) (e3 : ∀ H', Same H H' → Ev σ t3 H' R3)
    (done : ∀ x1 H1 x2 H2 x3 H3, Same H H1 → R1 x1 H1 → Same H1 H2 → R2 x2 H2 → Same H2 H3 → R3 x3 H3 → sp [.int way, x1, x2, x3] H3 Q E) : tCall sp [] E (tCons (tC (.int way)) (tCons t1 (tCons t2 (tCons t3 tNil)))) σ H Q :=
  e1 _ fun x1 H1 s1 r1 => e2 H1 s1 _ fun x2 H2 s2 r2 => e3 H2 (s1.trans s2) _ fun x3 H3 s3 r3 => done x1 H1 x2 H2 x3 H3 s1 r1 s2 r2 s3 r3
/-- if answer != [word, thing]: never -/
abbrev tIfN (K : PySem.W.Frag) (te tl : TE) : TS := tIfS (tTest (tOp (rNeI K) te tl)) tNever tNext
abbrev tPair (s : Str) (j : Nat) : TE := tLst (tCons (tC (.str s)) (tCons (tVar j) tNil))
theorem ask_if (hw : σ[9]? = some (some (.int way))) (w01 : way = 0 ∨ way = 1) (hv : σ[j]? = some (some v)) (sv : SameV v v) (e1 : Ev σ t1 H R1) (e2 : ∀ H', Same H H' → Ev σ t2 H' R2) (e3 : ∀ H', Same H H' → Ev σ t3 H' R3)
    (done : ∀ x1 H1 x2 H2 x3 H3, Same H H1 → R1 x1 H1 → Same H1 H2 → R2 x2 H2 → Same H2 H3 → R3 x3 H3 → ∃ l, x1 = .ref l ∧ ∀ (Q : VK) G, TL Q s v H3 → AskP K CW CP CK l x2 x3 H3 (TE' CW CP CK CB Q) G)
    (fin : ∀ H', Same H H' → D.nx σ H') : tIfN K (tCall (spLawAsked K CW CP CK CB) [] E (tCons (tVar 9) (tCons t1 (tCons t2 (tCons t3 tNil))))) (tPair s j) D σ H :=
  call_ask hw w01 e1 e2 e3 fun x1 H1 x2 H2 x3 H3 s1 r1 s2 r2 s3 r3 => by
    obtain ⟨l, e, A⟩ := done x1 H1 x2 H2 x3 H3 s1 r1 s2 r2 s3 r3
    refine ⟨l, e, fun G => A _ G fun H4 l4 s4 h4 => ⟨v, hv, ne_one h4 sv fun H5 s5 => ⟨false, rfl, iteF (fin _ (s1.trans (s2.trans (s3.trans (s4.trans s5)))))⟩⟩⟩
theorem if_of {tl : TE} (h : te σ H fun x H1 => tl σ H1 fun y H2 => rNeI K x y H2 fun v H3 => ∃ k, v = .bl k ∧ if k = true then tNever D σ H3 else tNext D σ H3) : tIfN K te tl D σ H := h
def Els (σ : L2.St) (ta : TA) (n : Nat) (R : V → Hp → Prop) : Prop := ∀ (H : Hp) (Q : List V → Hp → Prop), (∀ xs H', Same H H' → xs.length = n → (∀ x ∈ xs, R x H') → Q xs H') → ta σ H Q
theorem els_nil {R : V → Hp → Prop} : Els σ tNil 0 R := fun H Q q => q [] H (fun _ _ e => e) rfl fun _ z => nomatch z
theorem els_cons {R : V → Hp → Prop} {n : Nat} (st : ∀ x H H', Same H H' → R x H → R x H') (e : ∀ H, Ev σ te H R) (t : Els σ ta n R) : Els σ (tCons te ta) (n + 1) R := fun H Q q =>
  e H _ fun x H1 s1 r1 => t H1 _ fun xs H2 s2 l2 r2 => q _ _ (s1.trans s2) (by rw [List.length_cons, l2]) fun y hy => by
    rcases List.mem_cons.mp hy with rfl | hy
    · exact st _ _ _ s2 r1
    · exact r2 y hy
theorem wipe11 (σ : L2.St) (x : V) : wipe ((wipe σ [11]).set 11 (some x)) [11] = wipe σ [11] := by
  show ((σ.set 11 none).set 11 (some x)).set 11 none = σ.set 11 none
  rw [List.set_set, List.set_set]
theorem many_if {n : Nat} {m : Int} {R : V → Hp → Prop} (hm : m = (n : Int)) (hn : n ≤ 3) (els : Els σ ta n R) (st : ∀ x H H', Same H H' → R x H → R x H') (hv : σ[j]? = some (some v)) (sv : SameV v v)
    (elem : ∀ x H2, Same H H2 → R x H2 → ∀ Q : VK, TL Q s v H2 → te ((wipe σ [11]).set 11 (some x)) H2 Q) (fin : ∀ H', Same H H' → D.nx σ H') :
    tIfN K (tLc (iTup K (tTup ta)) (gName 11) tYes te [11]) (tOp rRep (tLst (tCons (tPair s j) tNil)) (tC (.int m))) D σ H := by
  subst hm
  refine els H _ fun xs H1 s1 l1 r1 => ⟨small_line (by omega), fun t ht => ?_⟩
  have s2 := same_new ht (.tup xs)
  refine ⟨t, rfl, ⟨_, SqT.of upd_same⟩, fun D0 hD0 => ?_⟩
  refine lc_tup (xs := xs) (Three (upd H1 t (.tup xs)) D0 s v) (Three.start hD0) (fun i H4 _ h4 => SqT.of (h4.1 _ _ upd_same)) (fun i x H4 hx h4 => ?_) (fun H4 h4 => ?_)
  · have il : i < xs.length := (List.getElem?_eq_some_iff.mp hx).1
    refine ⟨wipe11 σ x, elem x H4 (s1.trans (s2.trans h4.1)) (st _ _ _ (s2.trans h4.1) (r1 x (List.mem_of_getElem? hx))) _ fun H5 l5 s5 h5 => ?_⟩
    exact h4.step hD0 (by omega) s5 h5
  · rw [l1] at h4
    refine ⟨v, hv, many_ne hn h4 sv fun H5 s5 => ⟨false, rfl, iteF (fin _ (s1.trans (s2.trans (h4.1.trans s5))))⟩⟩
/-- rows all of whose items are good at these names -/
def RG (K : PySem.W.Frag) (ns : W) (x : V) (H : Hp) : Prop := ∃ (l : Addr) (ys : List V) (ds : List PyData), x = .ref l ∧ (SqL K H l ys ∨ SqT K H l ys) ∧ Its K H ys ds ∧ ∀ e ∈ ds, goodD ns e = true
theorem RG.st {ns : W} : ∀ x H H', Same H H' → RG K ns x H → RG K ns x H' := fun x H H' e ⟨l, ys, ds, h1, h2, h3, h4⟩ => ⟨l, ys, ds, h1, h2.elim (fun z => .inl (e.seq z)) (fun z => .inr (same_tup e z)), h3.same e, h4⟩
theorem ev_RGl {ns : W} {ds : List PyData} (h : LitsP K ta ds) (g : (ds.all (goodD ns)) = true) (lim : ds.length ≤ 1000 := by decide) : Ev σ (tLst ta) H (RG K ns) := fun Q q =>
  ev_list h lim Q fun x H' s ⟨l, xs, e, h1, h2⟩ => q x H' s ⟨l, xs, ds, e, .inl h1, h2, fun e he => List.all_eq_true.mp g e he⟩
theorem ev_RGt {ns : W} : Ev σ (tTup tNil) H (RG K ns) := fun Q q => ⟨by show 0 ≤ sizeLine; decide, fun p hp => q _ _ (same_new hp _) ⟨p, [], [], rfl, .inr (SqT.of upd_same), True.intro, fun _ z => nomatch z⟩⟩
def pairDab : PyData := .tuple [wd ["a", "b"], wd ["a", "b"]]
/-- names at which the pair is none -/
def RN (K : PySem.W.Frag) (x : V) (H : Hp) : Prop := ∃ ns, IsW ns ∧ Dp K H x (wd ns) ∧ goodD ns pairDab = false
theorem RN.st : ∀ x H H', Same H H' → RN K x H → RN K x H' := fun x H H' e ⟨ns, h1, h2, h3⟩ => ⟨ns, h1, dp_same e _ _ h2, h3⟩
theorem ev_RN {d : PyData} {ns : W} (h : Lit K te d) (e : d = wd ns) (hn : IsW ns) (g : goodD ns pairDab = false) : Ev σ te H (RN K) := fun Q q => ev_lit h Q fun x H' s r => q x H' s ⟨ns, hn, by rw [← e]; exact r, g⟩
/-- a list of names or not, laid since H0 -/
def Wqs (K : PySem.W.Frag) (H : Hp) : List V → List PyData → Prop
  | [], [] => True
  | x :: xs, d :: ds => WQ K H x d ∧ Wqs K H xs ds
  | _, _ => False
theorem Wqs.at {H : Hp} : ∀ {xs : List V} {ds : List PyData} {i : Nat} {x : V} {d : PyData}, Wqs K H xs ds → xs[i]? = some x → ds[i]? = some d → WQ K H x d
  | x :: xs, d :: ds, 0, y, d2, h, e, e2 => by
    have e : x = y := by simpa using e
    have e2 : d = d2 := by simpa using e2
    subst e e2
    exact h.1
  | x :: xs, d :: ds, i + 1, y, d2, h, e, e2 => Wqs.at (i := i) h.2 (by simpa using e) (by simpa using e2)
  | [], [], _, _, _, _, e, _ => by simp at e
  | [], _ :: _, _, _, _, h, _, _ => h.elim
  | _ :: _, [], _, _, _, h, _, _ => h.elim
def LitW (K : PySem.W.Frag) (te : TE) (d : PyData) : Prop := ∀ (σ : L2.St) (H : Hp) (Q : VK), (∀ x H', Same H H' → (∀ H'', Fresh H H' H'' → WQ K H'' x d) → Q x H') → te σ H Q
def LitsW (K : PySem.W.Frag) (ta : TA) (ds : List PyData) : Prop := ∀ (σ : L2.St) (H : Hp) (Q : List V → Hp → Prop), (∀ xs H', Same H H' → xs.length = ds.length → (∀ H'', Fresh H H' H'' → Wqs K H'' xs ds) → Q xs H') → ta σ H Q
theorem litW_of {d : PyData} (h : Lit K te d) (o : oddW d) : LitW K te d := fun σ H Q q => h σ H Q fun x H' s g => q x H' s fun H'' f => .inl ⟨g H'' f, o⟩
theorem litW_dict : LitW K tDNewK (.dict []) := fun σ H Q q p hp => q _ _ (same_new hp _) fun H'' f => .inr ⟨rfl, p, rfl, f p _ hp upd_same⟩
theorem litsW_nil : LitsW K tNil [] := fun σ H Q q => q _ _ (fun _ _ e => e) rfl fun _ _ => True.intro
theorem litsW_cons {d : PyData} {ds : List PyData} (h : LitW K te d) (t : LitsW K ta ds) : LitsW K (tCons te ta) (d :: ds) := fun σ H Q q =>
  h σ H _ fun x H1 s1 g1 => t σ H1 _ fun xs H2 s2 l2 g2 => q _ _ (s1.trans s2) (by rw [List.length_cons, List.length_cons, l2]) fun H'' f => ⟨g1 H'' (f.left s2), g2 H'' (f.right s1)⟩
def FB (K : PySem.W.Frag) (H0 H1 : Hp) (l : Addr) (ds : List PyData) : Prop := Same H0 H1 ∧ H0 l = none ∧ ∃ xs : List V, xs.length = ds.length ∧ ∀ H'', Fresh H0 H1 H'' → H'' l = some (.lst xs) ∧ Wqs K H'' xs ds
theorem list_FB {ds : List PyData} {Q : VK} (h : LitsW K ta ds) (q : ∀ H' l', FB K H H' l' ds → Q (.ref l') H') (lim : ds.length ≤ 1000 := by decide) : tLst ta σ H Q :=
  h σ H _ fun xs H1 s1 e g => ⟨small_line (by omega), fun p hp => q _ _ ⟨s1.trans (same_new hp _), none_back s1 hp, xs, e, fun H'' f => ⟨f p _ (none_back s1 hp) upd_same, g H'' (f.left (same_new hp _))⟩⟩⟩
/-- what is at place i of the list that stays, whatever is drawn -/
theorem Its.atD {H : Hp} : ∀ {xs : List V} {ds : List PyData} {i : Nat} {x : V} {d : PyData}, Its K H xs ds → xs[i]? = some x → ds[i]? = some d → PQ K H x d ∧ oddP d := fun h e e2 => by
  obtain ⟨d2, h1, h2⟩ := h.at e
  rw [e2] at h1
  cases h1
  exact h2
end
def badsD : List PyData := [.none, .str "a", .list [.str "a"], .tuple [.str "b", .str "a"], .tuple [.str "a", .str "a"], .tuple [.str "A"], .int 7, .tuple [.str "not"], .dict []]
theorem bads_no : ∀ d ∈ badsD, worldD d = false := fun d hd => by
  have : (badsD.all fun d => !worldD d) = true := by decide +kernel
  simpa using List.all_eq_true.mp this d hd
theorem items_no : ∀ d ∈ itemsD, goodD ["a", "b"] d = false := fun d hd => by
  have : (itemsD.all fun d => !goodD ["a", "b"] d) = true := by decide +kernel
  simpa using List.all_eq_true.mp this d hd
theorem words_no : ∀ d ∈ wordsD, kindD d = false ∧ SeqAt.shaped d = true := fun d hd => by
  have : (wordsD.all fun d => !kindD d && SeqAt.shaped d) = true := by decide +kernel
  simpa using List.all_eq_true.mp this d hd
theorem isW_nil : IsW [] := ⟨(fun _ z => nomatch z), List.Pairwise.nil, by decide⟩
theorem isW_one {x : Str} (h : nameB x = true) : IsW [x] := ⟨fun y hy => by rw [List.mem_singleton.mp hy]; exact h, List.pairwise_singleton _ _, (by show 1 ≤ 40; decide)⟩
theorem isW_a : IsW ["a"] := isW_one (by decide +kernel)
theorem isW_b : IsW ["b"] := isW_one (by decide +kernel)
theorem isW_ab : IsW ["a", "b"] := ⟨fun y hy => by
  simp only [List.mem_cons, List.mem_nil_iff, or_false] at hy
  rcases hy with rfl | rfl <;> decide +kernel, by decide +kernel, by decide⟩
def rowA : PyData := .tuple [.tuple [], .tuple []]
def rowB : PyData := .tuple [.tuple [], .tuple [.str "a"]]
def rowC : PyData := .tuple [.tuple [.str "b"], .tuple [.str "b"]]
end Rw
namespace Rw
open PySem PySem.Spec PyProof.Rows L2
/-! ### law -/
abbrev sLaw : Stmt := topS 59
abbrev nLaw : List Str := ["script", "at", "purse", "turn", "bads", "bad", "odd", "word", "rows", "way", "pair", "some"]
theorem scLaw : FnScope ["script", "at", "purse", "turn", "bads", "bad", "odd", "word", "rows", "way", "pair", "some"] ["script"] (defScope sLaw) := ⟨rfl, rfl, rfl, by decide +kernel, rfl, by decide +kernel, by decide +kernel⟩
def rLenS (K : PySem.W.Frag) : List V → Hp → VK → Prop := fun xs H Q => ∃ p ys, xs = [.ref p] ∧ (SqL K H p ys ∨ SqT K H p ys) ∧ Q (.int ys.length) H
theorem pick_ok {K : PySem.W.Frag} {σ : L2.St} {H : Hp} {Q : VK} {E : XK} {lX p : Addr} {xs : List V} {c : Int} (hp : σ[2]? = some (some (.ref p))) (h11 : σ[11]? = some (some (.ref lX))) (hX : H lX = some (.lst xs)) (nX : lX ≠ p) (pu : Pur H p c) (lc : c ≤ 1000000) (l1 : 1 ≤ xs.length) (l2 : xs.length ≤ 1000)
    (q : ∀ (m : Nat) (y : V) (us : List V), xs[m]? = some y → Pur (upd H p (.lst us)) p (c + 1) → Q y (upd H p (.lst us))) :
    tOp (rIxL K) (tVar 11) (tCall spLawDraw [] E (tCons (tVar 2) (tCons (tCB (rLenS K) (tCons (tVar 11) tNil)) tNil))) σ H Q := by
  refine ⟨.ref lX, h11, .ref p, hp, .ref lX, h11, lX, xs, rfl, .inl (SqL.of hX), p, (xs.length : Int), c, rfl, pu, lc, by omega, by omega, fun r us r0 r1 pu' => ?_⟩
  obtain ⟨n, rfl⟩ := Int.eq_ofNat_of_zero_le r0
  have lt : n < xs.length := by omega
  have hx : xs[n]? = some xs[n] := List.getElem?_eq_getElem lt
  exact ⟨lX, xs, n, xs[n], rfl, rfl, SqL.of (by rw [upd_ne nX]; exact hX), atI_nat hx, q n _ us hx pu'⟩
theorem one_mem {α : Type} {S : List α} {q : α} (n : S.Nodup) (h : ∀ p, p ∈ S ↔ p ∈ [q]) : S = [q] := by
  match S, n, h with
  | [], _, h => exact nomatch (h q).mpr List.mem_cons_self
  | [x], _, h => rw [List.mem_singleton.mp ((h x).mp List.mem_cons_self)]
  | x :: y :: t, n, h =>
    have e1 := List.mem_singleton.mp ((h x).mp List.mem_cons_self)
    have e2 := List.mem_singleton.mp ((h y).mp (List.mem_cons_of_mem _ List.mem_cons_self))
    rw [e1, e2] at n
    exact absurd List.mem_cons_self (List.nodup_cons.mp n).1
theorem why_one : (whyO [(([] : W), (["a"] : W))] "any").isSome = true := by decide +kernel
theorem why_nil : whyO [] "plain" = none := by decide +kernel
theorem gAB : ∀ e ∈ [rowA, rowB], goodD ["a", "b"] e = true := fun e he => by
  have : ([rowA, rowB].all (goodD ["a", "b"])) = true := by decide +kernel
  exact List.all_eq_true.mp this e he
theorem sh_any : SeqAt.shaped (.str "any") = true := by decide +kernel
theorem sh_plain : SeqAt.shaped (.str "plain") = true := by decide +kernel
section
variable {P : Program} {w : World} {K : PySem.W.Frag} {mg : Str → Option Value} {base : Heap} {f : Addr} {fd : FuncData} {k : Nat}
def spLaw (K : PySem.W.Frag) : Sp := fun vs H Q _ => ∃ (a : Addr) (ns : List Int), vs = [.ref a] ∧ SqL K H a (ns.map V.int) ∧ ns.length ≤ 63 ∧ ∀ H', Q (.bl true) H'
theorem ok_law {CW CP CK CB f1 f2 f3 f4 f5 : Addr} {fd1 fd2 fd3 fd4 fd5 : FuncData} (F : Fun K "law" "law" sLaw f fd) (T : Bl mg)
    (G1 : FnOk P w K mg base CX0 (k + 1) f1 fd1 ["script", "at"] (spLawPurse K)) (b1 : Binds K fd1 ["script", "at"] []) (k1 : PySem.W.keepIn K (.ref f1) = true) (m1 : mg "_law_purse" = some (.ref f1))
    (G2 : FnOk P w K mg base CX0 (k + 1) f2 fd2 ["purse", "out_of"] spLawDraw) (b2 : Binds K fd2 ["purse", "out_of"] []) (k2 : PySem.W.keepIn K (.ref f2) = true) (m2 : mg "_law_draw" = some (.ref f2))
    (G3 : FnOk P w K mg base CX0 (k + 1) f3 fd3 [] (spLawItems K)) (b3 : Binds K fd3 [] []) (k3 : PySem.W.keepIn K (.ref f3) = true) (m3 : mg "_law_items" = some (.ref f3))
    (G4 : FnOk P w K mg base CX0 (k + 1) f4 fd4 [] (spLawWords K)) (b4 : Binds K fd4 [] []) (k4 : PySem.W.keepIn K (.ref f4) = true) (m4 : mg "_law_words" = some (.ref f4))
    (G5 : FnOk P w K mg base CX0 (k + 1) f5 fd5 ["way", "rows", "some", "word"] (spLawAsked K CW CP CK CB)) (b5 : Binds K fd5 ["way", "rows", "some", "word"] []) (k5 : PySem.W.keepIn K (.ref f5) = true) (m5 : mg "_law_asked" = some (.ref f5)) :
    FnOk P w K mg base CX0 (k + 2) f fd ["script"] (spLaw K) := by
  refine F.ok scLaw (fun vs H Q E h => ?_) (fun cdv A outer s H vs Q E hr h => ?_)
  · obtain ⟨a, ns, rfl, _⟩ := h
    rfl
  obtain ⟨a, ns, rfl, hS, hl, q⟩ := h
  refine ⟨_, pss_cons (ps_for PassesOwn.never rfl (pi_range1 rfl T.range (pa_cons (pe_op op_add pe_int (pe_callB (call_min2 rfl) (by rfl) T.min (by decide +kernel) (pa_cons pe_int (pa_cons (pe_callB call_len_seq (by rfl) T.len PySem.boot_len (pa_cons (pv 0) pa_nil)) pa_nil)))) pa_nil)) (pg_name (i := 1) scLaw.nd rfl (.inl rfl))
      (pss_cons (ps_set (i := 2) scLaw.nd rfl (.inr rfl) (pe_call G1 hr (by rfl) m1 k1 b1 .nil pass0 (pa_cons (pv 0) (pa_cons (pv 1) pa_nil))))
      (pss_one (ps_for PassesOwn.never rfl (pi_range1 rfl T.range (pa_cons pe_int pa_nil)) (pg_name (i := 3) scLaw.nd rfl (.inl rfl))
        (pss_cons (ps_set (i := 4) scLaw.nd rfl (.inl rfl) (pe_lst (pa_cons pe_non (pa_cons pe_str (pa_cons (pe_lst (pa_cons pe_str pa_nil)) (pa_cons (pe_tup (pa_cons pe_str (pa_cons pe_str pa_nil))) (pa_cons (pe_tup (pa_cons pe_str (pa_cons pe_str pa_nil))) (pa_cons (pe_tup (pa_cons pe_str pa_nil)) (pa_cons pe_int (pa_cons (pe_tup (pa_cons pe_str pa_nil)) (pa_cons pe_dnewK pa_nil)))))))))))
        (pss_cons (ps_asg (pe_lc (own := [("some", 11)]) (g := gName 11) (te := tOp (rIxL K) (tVar 11) (tCall spLawDraw [] (fun _ _ _ => False) (tCons (tVar 2) (tCons (tCB (rLenS K) (tCons (tVar 11) tNil)) tNil)))) (by rfl) scLaw.nd (pi_tup (pe_tup (pa_cons (pv 4) (pa_cons (pe_call0 G3 hr (by rfl) m3 k3 b3 .nil pass0) (pa_cons (pe_call0 G4 hr (by rfl) m4 k4 b4 .nil pass0) pa_nil))))) (blkOk_by (N := nLaw) (sc := defScope sLaw) (by decide +kernel))
              (fun _ _ _ _ _ => pg_name (i := 11) scLaw.nd rfl (Or.inl rfl)) (fun _ _ _ _ _ => pts_nil) (fun _ _ _ _ _ => pe_ix ix_list (pv 11) (pe_call G2 hr (by rfl) m2 k2 b2 .nil pass0 (pa_cons (pv 2) (pa_cons (pe_callB (r := rLenS K) call_len_seq (by rfl) T.len PySem.boot_len (pa_cons (pv 11) pa_nil)) pa_nil))) (fun _ _ => rfl)))
            (pg_lst rfl (pgs_cons (pg_name (i := 5) scLaw.nd rfl (.inr rfl)) (pgs_cons (pg_name (i := 6) scLaw.nd rfl (.inl rfl)) (pgs_cons (pg_name (i := 7) scLaw.nd rfl (.inr rfl)) pgs_nil)))))
        (pss_cons (ps_set (i := 8) scLaw.nd rfl (.inl rfl) (pe_lst (pa_cons (pe_tup (pa_cons (pe_tup pa_nil) (pa_cons (pe_tup pa_nil) pa_nil))) (pa_cons (pe_tup (pa_cons (pe_tup pa_nil) (pa_cons (pe_tup (pa_cons pe_str pa_nil)) pa_nil))) (pa_cons (pv 6) (pa_cons pe_non (pa_cons (pe_tup (pa_cons (pe_tup (pa_cons pe_str pa_nil)) (pa_cons (pe_tup (pa_cons pe_str pa_nil)) pa_nil))) pa_nil)))))))
        (pss_mid (ps_if (pt_cmpR op_eq (pe_call G2 hr (by rfl) m2 k2 b2 .nil pass0 (pa_cons (pv 2) (pa_cons pe_int pa_nil))) pe_int (nomark _)) (pss_one (ps_set (i := 8) scLaw.nd rfl (.inl rfl) (pe_callTy call_tuple_of (by rfl) T.tuple (by decide +kernel) (pa_cons (pv 8) pa_nil)))) pss_nil)
        (pss_one (ps_for PassesOwn.never rfl (pi_range1 rfl T.range (pa_cons pe_int pa_nil)) (pg_name (i := 9) scLaw.nd rfl (.inr rfl))
          (pss_cons (ps_if (pt_cmpR (op_neI hr.units) (pe_call G5 hr (by rfl) m5 k5 b5 .nil pass0 (pa_cons (pv 9) (pa_cons (pv 8) (pa_cons (pv 5) (pa_cons (pv 7) pa_nil))))) (pe_lst (pa_cons pe_str (pa_cons (pv 5) pa_nil))) (nomark _)) pss_never pss_nil)
          (pss_cons (ps_if (pt_cmpR (op_neI hr.units) (pe_call G5 hr (by rfl) m5 k5 b5 .nil pass0 (pa_cons (pv 9) (pa_cons (pv 8) (pa_cons (pe_tup (pa_cons pe_str (pa_cons pe_str pa_nil))) (pa_cons (pv 7) pa_nil))))) (pe_lst (pa_cons pe_str (pa_cons (pv 6) pa_nil))) (nomark _)) pss_never pss_nil)
          (pss_cons (ps_if (pt_cmpR (op_neI hr.units) (pe_lc (own := [("some", 11)]) (g := gName 11) (by rfl) scLaw.nd (pi_tup (pe_tup (pa_cons (pe_lst pa_nil) (pa_cons (pe_tup pa_nil) pa_nil)))) (blkOk_by (N := nLaw) (sc := defScope sLaw) (by decide +kernel))
                (fun _ _ _ _ _ => pg_name (i := 11) scLaw.nd rfl (Or.inl rfl)) (fun _ _ _ _ _ => pts_nil) (fun _ _ _ _ _ => pe_call G5 hr (by rfl) m5 k5 b5 .nil pass0 (pa_cons (pv 9) (pa_cons (pv 11) (pa_cons (pv 5) (pa_cons (pv 7) pa_nil))))))
              (pe_op op_rep (pe_lst (pa_cons (pe_lst (pa_cons pe_str (pa_cons (pv 5) pa_nil))) pa_nil)) pe_int) (nomark _)) pss_never pss_nil)
          (pss_cons (ps_if (pt_cmpR (op_neI hr.units) (pe_lc (own := [("some", 11)]) (g := gName 11) (by rfl) scLaw.nd (pi_tup (pe_tup (pa_cons (pe_lst pa_nil) (pa_cons (pe_tup pa_nil) (pa_cons (pe_lst (pa_cons (pe_tup (pa_cons (pe_tup pa_nil) (pa_cons (pe_tup pa_nil) pa_nil))) pa_nil)) pa_nil))))) (blkOk_by (N := nLaw) (sc := defScope sLaw) (by decide +kernel))
                (fun _ _ _ _ _ => pg_name (i := 11) scLaw.nd rfl (Or.inl rfl)) (fun _ _ _ _ _ => pts_nil) (fun _ _ _ _ _ => pe_call G5 hr (by rfl) m5 k5 b5 .nil pass0 (pa_cons (pv 9) (pa_cons (pv 11) (pa_cons (pe_tup (pa_cons pe_str pa_nil)) (pa_cons (pv 7) pa_nil))))))
              (pe_op op_rep (pe_lst (pa_cons (pe_lst (pa_cons pe_str (pa_cons (pv 7) pa_nil))) pa_nil)) pe_int) (nomark _)) pss_never pss_nil)
          (pss_cons (ps_if (pt_cmpR (op_neI hr.units) (pe_call G5 hr (by rfl) m5 k5 b5 .nil pass0 (pa_cons (pv 9) (pa_cons (pe_lst (pa_cons (pe_tup (pa_cons (pe_tup pa_nil) (pa_cons (pe_tup (pa_cons pe_str pa_nil)) pa_nil))) pa_nil)) (pa_cons (pe_tup (pa_cons pe_str pa_nil)) (pa_cons (pv 7) pa_nil))))) (pe_lst (pa_cons pe_str (pa_cons (pv 7) pa_nil))) (nomark _)) pss_never pss_nil)
          (pss_cons (ps_set (i := 10) scLaw.nd rfl (.inr rfl) (pe_tup (pa_cons (pe_tup (pa_cons pe_str (pa_cons pe_str pa_nil))) (pa_cons (pe_tup (pa_cons pe_str (pa_cons pe_str pa_nil))) pa_nil))))
          (pss_one (ps_if (pt_cmpR (op_neI hr.units) (pe_lc (own := [("some", 11)]) (g := gName 11) (by rfl) scLaw.nd (pi_tup (pe_tup (pa_cons (pe_tup (pa_cons pe_str pa_nil)) (pa_cons (pe_tup (pa_cons pe_str pa_nil)) (pa_cons (pe_tup pa_nil) pa_nil))))) (blkOk_by (N := nLaw) (sc := defScope sLaw) (by decide +kernel))
                (fun _ _ _ _ _ => pg_name (i := 11) scLaw.nd rfl (Or.inl rfl)) (fun _ _ _ _ _ => pts_nil) (fun _ _ _ _ _ => pe_call G5 hr (by rfl) m5 k5 b5 .nil pass0 (pa_cons (pv 9) (pa_cons (pe_lst (pa_cons (pv 10) pa_nil)) (pa_cons (pv 11) (pa_cons pe_str pa_nil))))))
              (pe_op op_rep (pe_lst (pa_cons (pe_lst (pa_cons pe_str (pa_cons (pv 10) pa_nil))) pa_nil)) pe_int) (nomark _)) pss_never pss_nil))))))))))))))))))
    (pss_cons (ps_if (pt_cmpR (op_neI hr.units) (pe_call G5 hr (by rfl) m5 k5 b5 .nil pass0 (pa_cons pe_int (pa_cons (pe_lst (pa_cons (pe_tup (pa_cons (pe_tup pa_nil) (pa_cons (pe_tup (pa_cons pe_str pa_nil)) pa_nil))) pa_nil)) (pa_cons (pe_tup (pa_cons pe_str pa_nil)) (pa_cons pe_str pa_nil))))) (pe_lst (pa_cons pe_str (pa_cons pe_bl pa_nil))) (nomark _)) pss_never pss_nil)
    (pss_one (ps_ret (pe_cmpR (op_eqD hr.units) (pe_call G5 hr (by rfl) m5 k5 b5 .nil pass0 (pa_cons pe_int (pa_cons (pe_lst pa_nil) (pa_cons (pe_tup pa_nil) (pa_cons pe_str pa_nil))))) (pe_lst (pa_cons pe_str (pa_cons pe_bl pa_nil))) (nomark _))))), ?_⟩
  obtain ⟨n0, hn0, hn1⟩ : ∃ n0 : Nat, (1 + (if ((ns.map V.int).length : Int) < 5 then ((ns.map V.int).length : Int) else 5)) = (n0 : Int) ∧ n0 ≤ 6 := by
    rw [List.length_map]
    by_cases c : (ns.length : Int) < 5
    · rw [if_pos c]
      exact ⟨1 + ns.length, by omega, by omega⟩
    · rw [if_neg c]
      exact ⟨6, by omega, by omega⟩
  refine ⟨.ref a, rfl, a, _, rfl, .inl hS, 5, ((ns.map V.int).length : Int), rfl, _, _, rfl, rfl, _, rfl, ?_⟩
  rw [hn0]
  refine ⟨by omega, by omega, ?_⟩
  refine for_range (n := (n0 : Int).toNat) (fun i σ H1 => (∃ y1 y2 y3 y4 y5 y6 y7 y8 y9 y10, σ = [some (.ref a), y1, y2, y3, y4, y5, y6, y7, y8, y9, y10, none]) ∧ Same H H1) ⟨⟨_, _, _, _, _, _, _, _, _, _, rfl⟩, fun _ _ e => e⟩ (fun i σ HA hi hI => ?_) (fun σ H1 hI => ?_)
  · obtain ⟨⟨y1, y2, y3, y4, y5, y6, y7, y8, y9, y10, rfl⟩, smA⟩ := hI
    have hi6 : i < 6 := by omega
    -- the purse
    refine ⟨.ref a, rfl, .int (0 + (i : Int)), rfl, a, ns, i, ?_, smA.seq hS, hl, by omega, fun HB p sAB hpn hP0 => ?_⟩
    · rw [Int.zero_add]
      rfl
    have up : ∀ H', Bar p HB H' → Same H H' := fun H' b c u e => b c u (fun z => by
      have := smA _ _ e
      rw [z, hpn] at this
      cases this) (sAB _ _ (smA _ _ e))
    refine ⟨4, rfl, by decide, by decide, for_range (n := 4) (fun j σ H1 => (∃ y3 y4 y5 y6 y7 y8 y9 y10, σ = [some (.ref a), some (.int (0 + (i : Int))), some (.ref p), y3, y4, y5, y6, y7, y8, y9, y10, none]) ∧ Bar p HB H1 ∧ Pur H1 p (100010 + 100 * j)) ⟨⟨_, _, _, _, _, _, _, _, rfl⟩, fun _ _ _ e => e, hP0.le (by omega)⟩ (fun j σ H2 hj hI => ?_) (fun σ HD hI => ?_)⟩
    · obtain ⟨⟨y3, y4, y5, y6, y7, y8, y9, y10, rfl⟩, bar, pu⟩ := hI
      have np_of : ∀ {H' : Hp} {c : Int}, Pur H' p c → H' p ≠ none := fun h z => by
        obtain ⟨_, _, _, e, _⟩ := h
        rw [z] at e
        cases e
      have hj4 : j < 4 := hj
      -- bads
      refine asg_of (list_FB (K := K) (ds := badsD) (litsW_cons (litW_of lit_non (oddWb_ok (by decide +kernel))) (litsW_cons (litW_of (lit_str _) (oddWb_ok (by decide +kernel))) (litsW_cons (litW_of (lit_lst (lits_cons (lit_str _) lits_nil) (by decide)) (oddWb_ok (by decide +kernel))) (litsW_cons (litW_of (lit_tup (lits_cons (lit_str _) (lits_cons (lit_str _) lits_nil)) (by decide)) (oddWb_ok (by decide +kernel))) (litsW_cons (litW_of (lit_tup (lits_cons (lit_str _) (lits_cons (lit_str _) lits_nil)) (by decide)) (oddWb_ok (by decide +kernel))) (litsW_cons (litW_of (lit_tup (lits_cons (lit_str _) lits_nil) (by decide)) (oddWb_ok (by decide +kernel))) (litsW_cons (litW_of (lit_int _) (oddWb_ok (by decide +kernel))) (litsW_cons (litW_of (lit_tup (lits_cons (lit_str _) lits_nil) (by decide)) (oddWb_ok (by decide +kernel))) (litsW_cons litW_dict litsW_nil))))))))) fun H3 lb fb => ?_)
      obtain ⟨s3, nlb, xb, lenb, gb⟩ := fb
      have pu3 := pu.same s3
      refine ⟨.ref lb, rfl, ⟨rfl, fun H4 li fi => ⟨rfl, fun H5 lw fw => ⟨by show 3 ≤ sizeLine; decide, fun t ht => ⟨t, rfl, ⟨_, SqT.of upd_same⟩, fun D0 hD0 => ?_⟩⟩⟩⟩⟩
      obtain ⟨s4, xi, leni, gi⟩ := fi
      obtain ⟨s5, xw, lenw, gw⟩ := fw
      let HT : Hp := upd H5 t (.tup [.ref lb, .ref li, .ref lw])
      have sT : Same H5 HT := same_new ht _
      have pu4 := pu3.same s4
      have pu5 := pu4.same s5
      have puT : Pur HT p _ := pu5.same sT
      have ntp : t ≠ p := pu5.some ht
      have nDp : D0 ≠ p := puT.some hD0
      have fB : ∀ H'', Bar p HT H'' → H'' lb = some (.lst xb) ∧ Wqs K H'' xb badsD := fun H'' b => gb H'' (bar_fresh (np_of pu) ((Bar.same (s4.trans (s5.trans sT))).trans b))
      have fI : ∀ H'', Bar p HT H'' → H'' li = some (.lst xi) ∧ Its K H'' xi itemsD := fun H'' b => gi H'' (bar_fresh (np_of pu3) ((Bar.same (s5.trans sT)).trans b))
      have fW : ∀ H'', Bar p HT H'' → H'' lw = some (.lst xw) ∧ DpAll K H'' xw wordsD := fun H'' b => gw H'' (bar_fresh (np_of pu4) ((Bar.same sT).trans b))
      have self : Bar p HT HT := fun _ _ _ e => e
      have purNot : ∀ {l : Addr} {xs : List V}, (∀ H'', Bar p HT H'' → H'' l = some (.lst xs)) → l ≠ p := fun {l xs} h z => by
        obtain ⟨u1, u2, u3, e, _⟩ := puT
        have h1 := h (upd HT p (.tup [])) .draw
        rw [z, upd_same] at h1
        cases h1
      let B0 : V → Prop := fun x => ∃ d ∈ badsD, ∀ H'', Bar p HT H'' → WQ K H'' x d
      let B1 : V → Prop := fun x => ∃ d ∈ itemsD, ∀ H'', Bar p HT H'' → PQ K H'' x d ∧ oddP d
      let B2 : V → Prop := fun x => ∃ d ∈ wordsD, ∀ H'', Bar p HT H'' → Dp K H'' x d
      have b0all : ∀ (m : Nat) (y : V), xb[m]? = some y → B0 y := fun m y hm => by
        have lt : m < badsD.length := by rw [← lenb]; exact (List.getElem?_eq_some_iff.mp hm).1
        exact ⟨badsD[m], List.getElem_mem lt, fun H'' b => (fB H'' b).2.at hm (List.getElem?_eq_getElem lt)⟩
      have b1all : ∀ (m : Nat) (y : V), xi[m]? = some y → B1 y := fun m y hm => by
        have lt : m < itemsD.length := by rw [← leni]; exact (List.getElem?_eq_some_iff.mp hm).1
        exact ⟨itemsD[m], List.getElem_mem lt, fun H'' b => (fI H'' b).2.atD hm (List.getElem?_eq_getElem lt)⟩
      have b2all : ∀ (m : Nat) (y : V), xw[m]? = some y → B2 y := fun m y hm => by
        have lt : m < wordsD.length := by rw [← lenw]; exact (List.getElem?_eq_some_iff.mp hm).1
        refine ⟨wordsD[m], List.getElem_mem lt, fun H'' b => ?_⟩
        obtain ⟨d', e', hd'⟩ := dpAll_at' (fW H'' b).2 hm
        rw [List.getElem?_eq_getElem lt] at e'
        cases e'
        exact hd'
      refine lc_tup (xs := [.ref lb, .ref li, .ref lw]) (fun n H6 => Bar p HT H6 ∧ Pur H6 p (100010 + 100 * j + n) ∧ ∃ vs : List V, vs.length = n ∧ H6 D0 = some (.lst vs) ∧ (∀ x, vs[0]? = some x → B0 x) ∧ (∀ x, vs[1]? = some x → B1 x) ∧ (∀ x, vs[2]? = some x → B2 x))
        ⟨self.put hD0, (puT.put nDp).le (by omega), [], rfl, upd_same, (fun x e => nomatch e), (fun x e => nomatch e), (fun x e => nomatch e)⟩ (fun n H6 _ h6 => SqT.of (h6.1 _ _ ntp upd_same)) (fun n x H6 hx h6 => ?_) (fun H6 h6 => ?_)
      · obtain ⟨b6, pu6, vs, l6, hD6, q0, q1, q2⟩ := h6
        have n3 : n < 3 := (List.getElem?_eq_some_iff.mp hx).1
        have next : ∀ (y : V) (us : List V), (n = 0 → B0 y) → (n = 1 → B1 y) → (n = 2 → B2 y) → Pur (upd H6 p (.lst us)) p (100010 + 100 * j + n + 1) →
            ∃ acc, (upd H6 p (.lst us)) D0 = some (.lst acc) ∧ acc.length < sizeLine ∧ (Bar p HT (upd (upd H6 p (.lst us)) D0 (.lst (acc ++ [y]))) ∧ Pur (upd (upd H6 p (.lst us)) D0 (.lst (acc ++ [y]))) p (100010 + 100 * j + ((n + 1 : Nat) : Int)) ∧ ∃ vs : List V, vs.length = n + 1 ∧ (upd (upd H6 p (.lst us)) D0 (.lst (acc ++ [y]))) D0 = some (.lst vs) ∧ (∀ x, vs[0]? = some x → B0 x) ∧ (∀ x, vs[1]? = some x → B1 x) ∧ (∀ x, vs[2]? = some x → B2 x)) := fun y us c0 c1 c2 pu' => by
          refine ⟨vs, by rw [upd_ne nDp]; exact hD6, small_line' (by omega), (b6.trans .draw).put hD0, (pu'.put nDp).le (by omega), vs ++ [y], by rw [List.length_append, l6]; rfl, upd_same, fun x e => ?_, fun x e => ?_, fun x e => ?_⟩
          · by_cases h : 0 < n
            · rw [List.getElem?_append_left (by omega)] at e
              exact q0 x e
            · have z : n = 0 := by omega
              rw [List.getElem?_append_right (by omega), l6, z] at e
              have : y = x := by simpa using e
              exact this ▸ c0 z
          · by_cases h : 1 < n
            · rw [List.getElem?_append_left (by omega)] at e
              exact q1 x e
            · by_cases h1 : n = 1
              · rw [List.getElem?_append_right (by omega), l6, h1] at e
                have : y = x := by simpa using e
                exact this ▸ c1 h1
              · have : (vs ++ [y]).length ≤ 1 := by rw [List.length_append, l6]; show n + 1 ≤ 1; omega
                rw [List.getElem?_eq_none this] at e
                cases e
          · by_cases h1 : n = 2
            · rw [List.getElem?_append_right (by omega), l6, h1] at e
              have : y = x := by simpa using e
              exact this ▸ c2 h1
            · have : (vs ++ [y]).length ≤ 2 := by rw [List.length_append, l6]; show n + 1 ≤ 2; omega
              rw [List.getElem?_eq_none this] at e
              cases e
        match n, hx, n3 with
        | 0, hx, _ =>
          cases hx
          exact ⟨rfl, pick_ok rfl rfl (fB _ b6).1 (purNot fun H'' b => (fB H'' b).1) pu6 (by omega) (by rw [lenb]; decide) (by rw [lenb]; decide) fun m y us hm pu' => next y us (fun _ => b0all m y hm) (fun z => nomatch z) (fun z => nomatch z) pu'⟩
        | 1, hx, _ =>
          cases hx
          exact ⟨rfl, pick_ok rfl rfl (fI _ b6).1 (purNot fun H'' b => (fI H'' b).1) pu6 (by omega) (by rw [leni]; decide) (by rw [leni]; decide) fun m y us hm pu' => next y us (fun z => nomatch z) (fun _ => b1all m y hm) (fun z => nomatch z) pu'⟩
        | 2, hx, _ =>
          cases hx
          exact ⟨rfl, pick_ok rfl rfl (fW _ b6).1 (purNot fun H'' b => (fW H'' b).1) pu6 (by omega) (by rw [lenw]; decide) (by rw [lenw]; decide) fun m y us hm pu' => next y us (fun z => nomatch z) (fun z => nomatch z) (fun _ => b2all m y hm) pu'⟩
        | n + 3, _, h => omega
      obtain ⟨b6, pu6, vs, l6, hD6, q0, q1, q2⟩ := h6
      match vs, l6 with
      | [x0, x1, x2], _ =>
      have e3 : ((([x0, x1, x2] : List V).length : Nat) : Int) = 3 := rfl
      obtain ⟨d0, h0, hx0⟩ := q0 x0 rfl
      obtain ⟨d1, h1, hx1⟩ := q1 x1 rfl
      obtain ⟨d2, h2, hx2⟩ := q2 x2 rfl
      have no0 := bads_no d0 h0
      have no1 := items_no d1 h1
      have no2 := (words_no d2 h2).1
      have sh2 := (words_no d2 h2).2
      have o1 : oddP d1 := (hx1 _ self).2
      refine ⟨D0, [x0, x1, x2], rfl, SqL.of hD6, rfl, x0, [x1, x2], rfl, x1, [x2], rfl, x2, [], rfl, rfl, ?_⟩
      -- rows
      refine asg_of (rows_ok (K := K) (p := p) (x := x1) (d := d1) (da := rowA) (db := rowB) (dc := rowC) (litP_of (lit_tup (lits_cons (lit_tup lits_nil (by decide)) (lits_cons (lit_tup lits_nil (by decide)) lits_nil)) (by decide)) (fun b e => nomatch e)) (oddPb_ok (by decide +kernel)) (litP_of (lit_tup (lits_cons (lit_tup lits_nil (by decide)) (lits_cons (lit_tup (lits_cons (lit_str _) lits_nil) (by decide)) lits_nil)) (by decide)) (fun b e => nomatch e)) (oddPb_ok (by decide +kernel)) (litP_of (lit_tup (lits_cons (lit_tup (lits_cons (lit_str _) lits_nil) (by decide)) (lits_cons (lit_tup (lits_cons (lit_str _) lits_nil) (by decide)) lits_nil)) (by decide)) (fun b e => nomatch e)) (oddPb_ok (by decide +kernel)) rfl (np_of pu6) (fun H'' b => (hx1 H'' (b6.trans b)).1) o1 fun H7 lr xa xb' xc s7 nlr hr7 => ?_)
      have b7 : Bar p HT H7 := b6.trans (.same s7)
      have pu7 := pu6.same s7
      refine ⟨fun σ H8 => ∃ l8 xs8, σ = [some (.ref a), some (.int (0 + (i : Int))), some (.ref p), some (.int (0 + (j : Int))), some (.ref lb), some x0, some x1, some x2, some (.ref l8), y9, y10, none] ∧ Bar p HT H8 ∧ Pur H8 p (100010 + 100 * j + 10) ∧ xs8[2]? = some x1 ∧ (SqL K H8 l8 xs8 ∨ SqT K H8 l8 xs8) ∧ Its K H8 xs8 [rowA, rowB, d1, .none, rowC], ?_, ?_⟩
      · refine ⟨.ref p, rfl, p, 2, _, rfl, pu7, by omega, by decide, by decide, fun r us r0 r1 pu8 => ⟨rfl, _, rfl, ite2 (fun _ => ?_) (fun _ => ?_)⟩⟩
        · refine ⟨.ref lr, rfl, lr, _, rfl, .inl ⟨SqL.of (hr7 _ .draw).1, fun t2 ht2 => ?_⟩⟩
          have s8 := same_new ht2 (.tup [xa, xb', x1, .non, xc])
          exact ⟨t2, _, rfl, (b7.trans .draw).trans (.same s8), (pu8.same s8).le (by omega), rfl, .inr (SqT.of upd_same), (hr7 _ (Bar.draw.trans (.same s8))).2⟩
        · exact ⟨lr, _, rfl, b7.trans .draw, pu8.le (by omega), rfl, .inl (SqL.of (hr7 _ .draw).1), (hr7 _ .draw).2⟩
      rintro σ H8 ⟨l8, xs8, rfl, b8, pu8, hv8, hS8, hi8⟩
      refine ⟨2, rfl, by decide, by decide, for_range (n := 2) (fun m σ H9 => (∃ y9 y10, σ = [some (.ref a), some (.int (0 + (i : Int))), some (.ref p), some (.int (0 + (j : Int))), some (.ref lb), some x0, some x1, some x2, some (.ref l8), y9, y10, none]) ∧ Same H8 H9) ⟨⟨_, _, rfl⟩, fun _ _ e => e⟩ (fun m σ H9 hm hI => ?_) (fun σ H9 hI => ?_)⟩
      · obtain ⟨⟨y9, y10, rfl⟩, s9⟩ := hI
        have hm2 : m < 2 := hm
        have w01 : (0 + (m : Int)) = 0 ∨ (0 + (m : Int)) = 1 := by omega
        have w0 : ∀ {H'}, Same H8 H' → WQ K H' x0 d0 := fun s => hx0 _ (b8.trans (.same s))
        have w1 : ∀ {H'}, Same H8 H' → PQ K H' x1 d1 := fun s => (hx1 _ (b8.trans (.same s))).1
        have w2 : ∀ {H'}, Same H8 H' → Dp K H' x2 d2 := fun s => hx2 _ (b8.trans (.same s))
        have wS : ∀ {H'}, Same H8 H' → SqL K H' l8 xs8 ∨ SqT K H' l8 xs8 := fun s => hS8.elim (fun z => .inl (s.seq z)) (fun z => .inr (same_tup s z))
        -- the names are none
        refine seq_of (ask_if (K := K) (CW := CW) (CP := CP) (CK := CK) (CB := CB) (j := 5) (v := x0) (R1 := fun y _ => y = .ref l8) (R2 := fun y _ => y = x0) (R3 := fun y _ => y = x2) rfl w01 rfl (same_wq (w0 s9)) (ev_var rfl) (fun _ _ => ev_var rfl) (fun _ _ => ev_var rfl) (fun z1 HA' z2 HB' z3 HC t1 r1 t2 r2 t3 r3 => ?_) (fun H10 t10 => ?_))
        · subst r1 r2 r3
          have sC := s9.trans (t1.trans (t2.trans t3))
          exact ⟨l8, rfl, fun Q G tl => ask_world (wS sC) (hi8.same sC) (w0 sC) no0 (w2 sC) sh2 tl⟩
        have s10 := s9.trans t10
        -- an item is no pair
        refine seq_of (ask_if (K := K) (CW := CW) (CP := CP) (CK := CK) (CB := CB) (j := 6) (v := x1) (R1 := fun y _ => y = .ref l8) (R2 := fun y H' => Dp K H' y (wd ["a", "b"])) (R3 := fun y _ => y = x2) rfl w01 rfl (same_pq (w1 s10)) (ev_var rfl) (fun _ _ => ev_lit (lit_tup (lits_cons (lit_str _) (lits_cons (lit_str _) lits_nil)) (by decide))) (fun _ _ => ev_var rfl) (fun z1 HA' z2 HB' z3 HC t1 r1 t2 r2 t3 r3 => ?_) (fun H11 t11 => ?_))
        · subst r1 r3
          have sC := s10.trans (t1.trans (t2.trans t3))
          exact ⟨l8, rfl, fun Q G tl => ask_pair (pre := [rowA, rowB]) (db := d1) (post := [.none, rowC]) (wS sC) (hi8.same sC) isW_ab (dp_same t3 _ _ r2) (w2 sC) sh2 gAB no1 hv8 tl⟩
        have s11 := s10.trans t11
        -- no rows
        refine seq_of (many_if (K := K) (j := 5) (v := x0) (n := 2) (R := RG K ["a"]) rfl (by decide) (els_cons RG.st (fun _ => ev_RGl litsP_nil rfl) (els_cons RG.st (fun _ => ev_RGt) els_nil)) RG.st rfl (same_wq (w0 s11)) (fun x HA' sA rA Q tl => ?_) (fun H12 t12 => ?_))
        · refine call_ask (K := K) (CW := CW) (CP := CP) (CK := CK) (CB := CB) (way := 0 + (m : Int)) (R1 := fun y _ => y = x) (R2 := fun y _ => y = x0) (R3 := fun y _ => y = x2) rfl w01 (ev_var rfl) (fun _ _ => ev_var rfl) (fun _ _ => ev_var rfl) (fun z1 HA'' z2 HB' z3 HC t1 r1 t2 r2 t3 r3 => ?_)
          subst r1 r2 r3
          have sC := t1.trans (t2.trans t3)
          obtain ⟨l, ys, ds, rfl, e2, e3, _⟩ := RG.st _ _ _ sC rA
          have sD := s11.trans (sA.trans sC)
          exact ⟨l, rfl, fun G => ask_world e2 e3 (w0 sD) no0 (w2 sD) sh2 (tl.same sC)⟩
        have s12 := s11.trans t12
        -- the kind is none
        refine seq_of (many_if (K := K) (j := 7) (v := x2) (n := 3) (R := RG K ["a"]) rfl (by decide) (els_cons RG.st (fun _ => ev_RGl litsP_nil rfl) (els_cons RG.st (fun _ => ev_RGt) (els_cons RG.st (fun _ => ev_RGl (ds := [rowA]) (litsP_cons (litP_of (lit_tup (lits_cons (lit_tup lits_nil (by decide)) (lits_cons (lit_tup lits_nil (by decide)) lits_nil)) (by decide)) (fun b e => nomatch e)) (oddPb_ok (by decide +kernel)) litsP_nil) (by decide +kernel)) els_nil))) RG.st rfl (same_dp (w2 s12)) (fun x HA' sA rA Q tl => ?_) (fun H13 t13 => ?_))
        · refine call_ask (K := K) (CW := CW) (CP := CP) (CK := CK) (CB := CB) (way := 0 + (m : Int)) (R1 := fun y _ => y = x) (R2 := fun y H' => Dp K H' y (wd ["a"])) (R3 := fun y _ => y = x2) rfl w01 (ev_var rfl) (fun _ _ => ev_lit (lit_tup (lits_cons (lit_str _) lits_nil) (by decide))) (fun _ _ => ev_var rfl) (fun z1 HA'' z2 HB' z3 HC t1 r1 t2 r2 t3 r3 => ?_)
          subst r1 r3
          have sC := t1.trans (t2.trans t3)
          obtain ⟨l, ys, ds, rfl, e2, e3, e4⟩ := RG.st _ _ _ sC rA
          have sD := s12.trans (sA.trans sC)
          exact ⟨l, rfl, fun G => ask_kind e2 e3 isW_a (dp_same t3 _ _ r2) (w2 sD) sh2 e4 no2 (tl.same sC)⟩
        have s13 := s12.trans t13
        refine seq_of (ask_if (K := K) (CW := CW) (CP := CP) (CK := CK) (CB := CB) (j := 7) (v := x2) (R1 := RG K ["a"]) (R2 := fun y H' => Dp K H' y (wd ["a"])) (R3 := fun y _ => y = x2) rfl w01 rfl (same_dp (w2 s13)) (ev_RGl (ds := [rowB]) (litsP_cons (litP_of (lit_tup (lits_cons (lit_tup lits_nil (by decide)) (lits_cons (lit_tup (lits_cons (lit_str _) lits_nil) (by decide)) lits_nil)) (by decide)) (fun b e => nomatch e)) (oddPb_ok (by decide +kernel)) litsP_nil) (by decide +kernel)) (fun _ _ => ev_lit (lit_tup (lits_cons (lit_str _) lits_nil) (by decide))) (fun _ _ => ev_var rfl) (fun z1 HA' z2 HB' z3 HC t1 r1 t2 r2 t3 r3 => ?_) (fun H14 t14 => ?_))
        · subst r3
          obtain ⟨l, ys, ds, rfl, e2, e3, e4⟩ := RG.st _ _ _ (t2.trans t3) r1
          have sC := s13.trans (t1.trans (t2.trans t3))
          exact ⟨l, rfl, fun Q G tl => ask_kind e2 e3 isW_a (dp_same t3 _ _ r2) (w2 sC) sh2 e4 no2 tl⟩
        have s14 := s13.trans t14
        -- a pair of other names
        refine asg_of (ev_lit (K := K) (d := pairDab) (lit_tup (lits_cons (lit_tup (lits_cons (lit_str _) (lits_cons (lit_str _) lits_nil)) (by decide)) (lits_cons (lit_tup (lits_cons (lit_str _) (lits_cons (lit_str _) lits_nil)) (by decide)) lits_nil)) (by decide)) _ fun xp H15 t15 hxp => ?_)
        have pp : PQ K H15 xp pairDab := .inl ⟨hxp, fun b e => nomatch e⟩
        have op : oddP pairDab := oddPb_ok (by decide +kernel)
        refine many_if (K := K) (j := 10) (v := xp) (n := 3) (R := RN K) rfl (by decide) (els_cons RN.st (fun _ => ev_RN (lit_tup (lits_cons (lit_str _) lits_nil) (by decide)) rfl isW_a (by decide +kernel)) (els_cons RN.st (fun _ => ev_RN (lit_tup (lits_cons (lit_str _) lits_nil) (by decide)) rfl isW_b (by decide +kernel)) (els_cons RN.st (fun _ => ev_RN (lit_tup lits_nil (by decide)) rfl isW_nil (by decide +kernel)) els_nil))) RN.st rfl (same_dp hxp) (fun x HA' sA rA Q tl => ?_) (fun H16 t16 => ?_)
        · refine call_ask (K := K) (CW := CW) (CP := CP) (CK := CK) (CB := CB) (way := 0 + (m : Int)) (R1 := fun y H' => ∃ l, y = .ref l ∧ SqL K H' l [xp]) (R2 := fun y _ => y = x) (R3 := fun y H' => Dp K H' y (.str "any")) rfl w01 (fun Q2 q2 => ⟨xp, rfl, by show 1 ≤ sizeLine; decide, fun p1 hp1 => q2 _ _ (same_new hp1 _) ⟨p1, rfl, SqL.of upd_same⟩⟩) (fun _ _ => ev_var rfl) (fun _ _ => ev_lit (lit_str _)) (fun z1 HA'' z2 HB' z3 HC t1 r1 t2 r2 t3 r3 => ?_)
          subst r2
          obtain ⟨l, rfl, r1⟩ := r1
          have sC := t1.trans (t2.trans t3)
          obtain ⟨ns2, n1, n2, n3⟩ := RN.st _ _ _ sC rA
          exact ⟨l, rfl, fun G => ask_pair (pre := []) (db := pairDab) (post := []) (.inl ((t2.trans t3).seq r1)) ⟨⟨pp.same (sA.trans sC), op⟩, True.intro⟩ n1 n2 r3 sh_any (fun e he => nomatch he) n3 rfl (tl.same sC)⟩
        exact ⟨⟨_, _, rfl⟩, s14.trans (t15.trans t16)⟩
      · obtain ⟨⟨y9, y10, rfl⟩, s9⟩ := hI
        exact ⟨⟨_, _, _, _, _, _, _, _, rfl⟩, ((bar.trans (.same (s3.trans (s4.trans (s5.trans sT))))).trans b8).trans (.same s9), (pu8.same s9).le (by omega)⟩
    · obtain ⟨⟨y3, y4, y5, y6, y7, y8, y9, y10, rfl⟩, barD, puD⟩ := hI
      exact ⟨⟨_, _, _, _, _, _, _, _, _, _, rfl⟩, up _ barD⟩
  · obtain ⟨⟨y1, y2, y3, y4, y5, y6, y7, y8, y9, y10, rfl⟩, sm⟩ := hI
    -- program_of raises Barred
    refine seq_of (if_of (K := K) (call_fin (sp := spLawAsked K CW CP CK CB) (way := 1) (R1 := fun y H' => Dp K H' y (.list [rowB])) (R2 := fun y H' => Dp K H' y (wd ["a"])) (R3 := fun y H' => Dp K H' y (.str "any")) (ev_lit (lit_lst (lits_cons (lit_tup (lits_cons (lit_tup lits_nil (by decide)) (lits_cons (lit_tup (lits_cons (lit_str _) lits_nil) (by decide)) lits_nil)) (by decide)) lits_nil) (by decide))) (fun _ _ => ev_lit (lit_tup (lits_cons (lit_str _) lits_nil) (by decide))) (fun _ _ => ev_lit (lit_str _)) fun z1 HA z2 HB z3 HC t1 r1 t2 r2 t3 r3 => ?_))
    · cases r3
      have hL := dp_same (t2.trans t3) _ _ r1
      cases hL with
      | @lst l xs _ hS1 hxs =>
      have few : xs.length = 1 := dpAll_len hxs
      have its : Its K HC xs [rowB] := by
        cases hxs with
        | cons e t =>
          cases t
          exact ⟨⟨.inl ⟨e, fun b z => nomatch z⟩, oddPb_ok (by decide +kernel)⟩, True.intro⟩
      refine ⟨1, l, z2, .str "any", rfl, .inr ⟨rfl, ask_good (.inl hS1) its isW_a (dp_same t3 _ _ r2) (.str _) sh_any (fun e he => by rw [List.mem_singleton.mp he]; decide +kernel) (fun H' s _ => ?_) (fun e => nomatch e)⟩⟩
      refine ⟨"any", [(([] : W), (["a"] : W))], rfl, ⟨xs, .inl (s.seq hS1), dpAll_same s _ _ hxs⟩, fun p hp => by rw [List.mem_singleton.mp hp]; exact ⟨isW_nil, isW_a⟩, by decide, fun H'' y S s2 nd mem told => ?_⟩
      rw [one_mem nd mem]
      refine ⟨why_one, fun H2 l2 s3 h2 => ?_⟩
      refine ⟨by show 2 ≤ sizeLine; decide, fun b hb => ?_⟩
      have s4 := same_new hb (.lst [.str "ok", .bl true])
      refine ⟨l2, b, _, _, rfl, rfl, SqL.of (s4 _ _ h2), SqL.of upd_same, .cons (.inl (.inl ⟨rfl, rfl⟩)) (.cons (.inl (.inl ⟨rfl, rfl⟩)) .nil), false, rfl, iteF ?_⟩
      -- barred tells None
      refine ret_of (call_fin (sp := spLawAsked K CW CP CK CB) (way := 0) (R1 := fun y H' => Dp K H' y (.list [])) (R2 := fun y H' => Dp K H' y (wd [])) (R3 := fun y H' => Dp K H' y (.str "plain")) (ev_lit (lit_lst lits_nil (by decide))) (fun _ _ => ev_lit (lit_tup lits_nil (by decide))) (fun _ _ => ev_lit (lit_str _)) fun z1 HA z2 HB z3 HC t1 r1 t2 r2 t3 r3 => ?_)
      cases r3
      have hL := dp_same (t2.trans t3) _ _ r1
      cases hL with
      | @lst l xs _ hS1 hxs =>
      cases hxs
      refine ⟨0, l, z2, .str "plain", rfl, .inl ⟨rfl, ask_good (.inl hS1) (ds := []) True.intro isW_nil (dp_same t3 _ _ r2) (.str _) sh_plain (fun e he => nomatch he) (fun H' s _ => ?_) (fun e => nomatch e)⟩⟩
      refine ⟨"plain", [], rfl, ⟨[], .inl (s.seq hS1), .nil⟩, (fun p hp => nomatch hp), by decide, fun H'' y S s2 nd mem told => ?_⟩
      have eS : S = [] := List.eq_nil_iff_forall_not_mem.mpr fun p hp => nomatch (mem p).mp hp
      rw [eS, why_nil] at told
      refine ⟨told, fun H2 l2 s3 h2 => ?_⟩
      refine ⟨by show 2 ≤ sizeLine; decide, fun b hb => ?_⟩
      have s4 := same_new hb (.lst [.str "ok", .bl true])
      refine ⟨.list [.str "ok", .bool true], .list [.str "ok", .bool true], .lst (SqL.of (s4 _ _ h2)) (.cons (.str _) (.cons (.bl _) .nil)), .lst (SqL.of upd_same) (.cons (.str _) (.cons (.bl _) .nil)), by decide +kernel, by decide +kernel, ?_⟩
      exact q _
end
end Rw
namespace Rw
open PySem PySem.Spec PyProof.Rows L2
/-! ### a head that tells of defs anywhere, and more -/
def hookY (n : Nat) (fa : List He.Fa) (fn : List He5.DefA) (ex : PySem.W.Frag → Bool) : PySem.W.Hook where
  α := He.AlD × Bool
  obs s := (He5.obsAG n fa fn s.heap.get?, ex (He.frG s.heap.get? (He5.asA s.heap.get? n)))
  val _ := (He5.valA fn, true)
  says _ h := ∃ K : PySem.W.Frag, K.In h ∧ He5.SaysA fa fn K ∧ ex K = true
  of _ s e := ⟨_, He.frG_in, (Prod.mk.inj e).1, (Prod.mk.inj e).2⟩
  keeps _ _ _ | ⟨K, X, a, b⟩, k => ⟨K, fun c o e => k _ _ (X c o e), a, b⟩
def obY (n : Nat) (fa : List He.Fa) (fn : List He5.DefA) (ex : PySem.W.Frag → Bool) (g : Addr → Option Obj) : He.AlD × Bool := (He5.obsAG n fa fn g, ex (He.frG g (He5.asA g n)))
theorem obY_eq {n : Nat} {fa : List He.Fa} {fn : List He5.DefA} {ex : PySem.W.Frag → Bool} {g : Addr → Option Obj} {s : Shared} (h : ∀ a, g a = s.heap.get? a) : obY n fa fn ex g = (hookY n fa fn ex).obs s := by
  have e : g = s.heap.get? := funext h
  subst e
  rfl
/-! ### what a class is, as a test -/
def clsB (K : PySem.W.Frag) (C : Addr) (f : List Value → Addr → Bool → Bool) (nid : String) : Bool :=
  match K.lookup C with
  | some ⟨.type t, _, .cls cd, sl⟩ => decide (t = "type" ∧ cd.hasDel = false) && (decide (cd.mro = .ref C :: cd.mro.tail) && (f cd.mro.tail cd.ns cd.hasDict && (match sl with | ⟨[_, _, _, _, some (.builtin i), _]⟩ => decide (i = nid) | _ => false)))
  | _ => false
theorem clsB_ok {K : PySem.W.Frag} {C : Addr} {f : List Value → Addr → Bool → Bool} {nid : String} (h : clsB K C f nid = true) : ∃ nm q N bs bm hd sn sub ab col dd k0 k1 k2 k3 k5, K.lookup C = some (excClassObj nm q C N bs bm hd sn sub ab col dd k0 k1 k2 k3 k5 nid) ∧ f bm N hd = true := by
  unfold clsB at h
  split at h
  · rename_i t dd cd sl e
    rw [Bool.and_eq_true, Bool.and_eq_true, Bool.and_eq_true] at h
    obtain ⟨h1, h2, h3, h4⟩ := h
    obtain ⟨h1, h0⟩ := of_decide_eq_true h1
    have h2 := of_decide_eq_true h2
    split at h4
    · rename_i k0 k1 k2 k3 i k5
      have h4 := of_decide_eq_true h4
      subst h1 h4
      obtain ⟨nm, bs, mro, ns, q, hd, sn, sub, ab, col, del⟩ := cd
      refine ⟨nm, q, ns, bs, mro.tail, hd, sn, sub, ab, col, dd, k0, k1, k2, k3, k5, ?_, h3⟩
      rw [e]
      have h2' : mro = .ref C :: mro.tail := h2
      have h0' : del = false := h0
      subst h0'
      unfold excClassObj
      rw [← h2']
    · exact nomatch h4
  · exact nomatch h
def strKeysB (es : Array DictEntry) : Bool := es.toList.all fun e => match e.key with | .str _ _ => true | _ => false
theorem strKeysB_ok {es : Array DictEntry} (h : strKeysB es = true) : StrKeys es := fun e he => by
  have z := List.all_eq_true.mp h e (Array.mem_toList_iff.mpr he)
  split at z
  · exact ⟨_, _, by assumption⟩
  · exact nomatch z
def nsB (K : PySem.W.Frag) (N g : Addr) : Bool :=
  match K.lookup N with
  | some ⟨_, _, .dict es _, _⟩ => strKeysB es && (decide (nsFind es "__eq__" = some (.ref g)) && decide (nsFind es "__ne__" = none))
  | _ => false
def fnB (K : PySem.W.Frag) (g : Addr) : Bool :=
  match K.lookup g with
  | some o => decide (o.cls = .type "function")
  | none => false
theorem neC_of {K : PySem.W.Frag} {C g : Addr} (h1 : clsB K C (fun bm N _ => decide (bm = [.type "object"]) && nsB K N g) "object.__new__" = true) (h2 : fnB K g = true) : NeC K C g := by
  obtain ⟨nm, q, N, bs, bm, hd, sn, sub, ab, col, dd, k0, k1, k2, k3, k5, e, hf⟩ := clsB_ok h1
  rw [Bool.and_eq_true] at hf
  obtain ⟨f1, f2⟩ := hf
  have f1 := of_decide_eq_true f1
  subst f1
  constructor
  · unfold nsB at f2
    split at f2
    · rename_i oc od es ep os eN
      rw [Bool.and_eq_true, Bool.and_eq_true] at f2
      obtain ⟨g1, g2, g3⟩ := f2
      exact ⟨nm, q, N, bs, hd, sn, sub, ab, col, dd, k0, k1, k2, k3, k5, "object.__new__", _, es, ep, e, eN, rfl, strKeysB_ok g1, of_decide_eq_true g2, of_decide_eq_true g3⟩
    · exact nomatch f2
  · unfold fnB at h2
    split at h2
    · exact ⟨_, by assumption, of_decide_eq_true h2⟩
    · exact nomatch h2
/-- an own error class, by tests -/
def oexB (K : PySem.W.Frag) (C : Addr) : Bool := clsB K C (fun bm _ hd => hd && HandSPX.refsVE bm) "ValueError.__new__" && (decide (PySem.W.findIn K (.ref C) "__setattr__" = some (some (.builtin "object.__setattr__"))) && (decide (PySem.W.subIn K (.ref C) (.type "BaseException") = some true) && (decide (PySem.W.typeIn K (.ref C) = some (.type "type")) && PySem.W.keepIn K (.ref C))))
theorem oexB_ok {K : PySem.W.Frag} {C : Addr} (h : oexB K C = true) : OexC K C := by
  unfold oexB at h
  rw [Bool.and_eq_true, Bool.and_eq_true, Bool.and_eq_true, Bool.and_eq_true] at h
  obtain ⟨h1, h2, h3, h4, h5⟩ := h
  obtain ⟨nm, q, N, bs, bm, hd, sn, sub, ab, col, dd, k0, k1, k2, k3, k5, e, hf⟩ := clsB_ok h1
  rw [Bool.and_eq_true] at hf
  obtain ⟨f1, f2⟩ := hf
  subst f1
  exact ⟨⟨nm, q, N, bs, bm, sn, sub, ab, col, dd, k0, k1, k2, k3, k5, e, f2⟩, of_decide_eq_true h2, of_decide_eq_true h3, of_decide_eq_true h4, h5⟩
def excP (K : PySem.W.Frag) (D : Addr) : Prop := PySem.W.findIn K (.ref D) "__getattribute__" = some (some (.builtin "BaseException.__getattribute__")) ∧ PySem.W.findIn K (.ref D) "__getattr__" = some none ∧ PySem.W.subIn K (.ref D) (.type "BaseException") = some true ∧ PySem.W.hasDictIn K D = true ∧
  PySem.W.findIn K (.ref D) "__class__" = some (some (.builtin "object.__class__")) ∧ PySem.W.specialIn K (.builtin "object.__class__") "__get__" = some (some (.builtin "getset_descriptor.__get__")) ∧ PySem.W.takesIn K (.builtin "object.__class__") = some true ∧ PySem.W.mroIn K D (.type "object") = some true
instance (K : PySem.W.Frag) (D : Addr) : Decidable (excP K D) := by unfold excP; infer_instance
theorem excP_ok {K : PySem.W.Frag} {D : Addr} (h : excP K D) : ExcC K D := by
  obtain ⟨h1, h2, h3, h4, h5, h6, h7, h8⟩ := h
  exact ⟨h1, h2, h3, h4, h5, h6, h7, h8⟩
def initP (K : PySem.W.Frag) (C : Addr) : Prop := PySem.W.findIn K (.ref C) "__init__" = some (some (.ref (He.ma K C "__init__"))) ∧ PySem.W.typeIn K (.ref (He.ma K C "__init__")) = some (.type "function")
instance (K : PySem.W.Frag) (D : Addr) : Decidable (initP K D) := by unfold initP; infer_instance
def propP (K : PySem.W.Frag) (C : Addr) (f : Str) : Prop := PySem.W.findIn K (.ref C) f = some (some (.ref (He.ma K C f))) ∧ PySem.W.specialIn K (.ref (He.ma K C f)) "__get__" = some (some (.builtin "property.__get__")) ∧ PySem.W.takesIn K (.ref (He.ma K C f)) = some true
instance (K : PySem.W.Frag) (D : Addr) (f : Str) : Decidable (propP K D f) := by unfold propP; infer_instance
def recB (K : PySem.W.Frag) (p : Addr) (T : String) : Bool := match PySem.W.recIn K p T with | some (.ref _ :: _) => true | _ => false
theorem propP_ok {K : PySem.W.Frag} {C : Addr} {f : Str} (h : propP K C f) (r : recB K (He.ma K C f) "property" = true) : PropOf K C f (He.ma K C f) (He5.wf K C "property" f) := by
  obtain ⟨h1, h2, h3⟩ := h
  refine ⟨h1, h2, h3, ?_⟩
  unfold recB at r
  unfold He5.wf
  split at r
  · rename_i a l e
    rw [e]
    exact ⟨_, rfl⟩
  · exact nomatch r
end Rw
namespace Rw
open PySem PySem.Spec PyProof.Rows L2
/-! ### what the top has written -/
def dOf (x : Str) (st : Stmt) : He5.DefA := ⟨fun K => He.ga K x, x, x, defArgs st, defBody st, defScope st, [], []⟩
def dOfD (x : Str) (st : Stmt) : He5.DefA := ⟨fun K => He.ga K x, x, x, defArgs st, defBody st, defScope st, [.str anyS], []⟩
def dMEWorld : He5.DefA := ⟨fun K => He.ma K (He.ga K "InvalidWorld") "__init__", "__init__", "InvalidWorld.__init__", defArgs sEWorld, defBody sEWorld, defScope sEWorld, [.non], []⟩
def dMEPair : He5.DefA := ⟨fun K => He.ma K (He.ga K "InvalidPair") "__init__", "__init__", "InvalidPair.__init__", defArgs sEPair, defBody sEPair, defScope sEPair, [.non], []⟩
def dMEKind : He5.DefA := ⟨fun K => He.ma K (He.ga K "InvalidKind") "__init__", "__init__", "InvalidKind.__init__", defArgs sEKind, defBody sEKind, defScope sEKind, [.non], []⟩
def dMEBarred : He5.DefA := ⟨fun K => He.ma K (He.ga K "Barred") "__init__", "__init__", "Barred.__init__", defArgs sEBarred, defBody sEBarred, defScope sEBarred, [.non], []⟩
def hfn : List He5.DefA := [dOf "is_name" sIsName, dOf "_are_names" sAreNames, dOf "_set_of" sSetOf, dOf "is_world" sIsWorld, dOf "has_all" sHasAll, dOf "is_pair" sIsPair, dOf "check_world" sCheckWorld, dOf "check_kind" sCheckKind, dOf "_not_total" sTotal, dOf "_not_upward" sUpward, dOf "_common" sCommon, dOf "_worlds_below" sBelow, dOf "_not_meeting" sMeeting, dOf "_why_not" sWhyNot, dOf "_check_asked" sAsked, dOf "_law_at" sLawAt, dOf "_law_mixed" sLawMixed, dOf "_law_purse" sLawPurse, dOf "_law_draw" sLawDraw, dOf "_law_items" sLawItems, dOf "_law_words" sLawWords, dOf "_law_asked" sLawAsked, dOf "law" sLaw, dOfD "barred" sBarred, dOfD "program_of" sProgramOf, dMEWorld, dMEPair, dMEKind, dMEBarred]
def hfa1 : List He.Fa := [.free "len", .free "isinstance", .free "all", .free "any", .free "tuple", .free "list", .free "sorted", .free "set", .free "str", .free "int", .free "max", .free "min", .free "range", .free "enumerate", .str "LETTERS" lettersS, .glo "Program", .glo "RuleError", .glo "InvalidWorld", .glo "InvalidPair", .glo "InvalidKind", .glo "Barred", .glo "barred", .glo "program_of", .glo "KINDS", .glo "is_name", .glo "_are_names", .glo "_set_of", .glo "is_world", .glo "has_all", .glo "is_pair"]
def hfa2 : List He.Fa := [.glo "check_world", .glo "check_kind", .glo "_not_total", .glo "_not_upward", .glo "_common", .glo "_worlds_below", .glo "_not_meeting", .glo "_why_not", .glo "_check_asked", .glo "_law_at", .glo "_law_mixed", .glo "_law_purse", .glo "_law_draw", .glo "_law_items", .glo "_law_words", .glo "_law_asked", .glo "law", .noat "InvalidWorld" "thing", .noat "InvalidPair" "thing", .noat "InvalidKind" "value", .noat "Barred" "why", .exm "InvalidWorld" "RuleError" true, .exm "InvalidPair" "RuleError" true, .exm "InvalidKind" "RuleError" true, .exm "Barred" "RuleError" true]
def hfa : List He.Fa := hfa1 ++ hfa2
/-- more of the classes -/
def kitP (K : PySem.W.Frag) (W P C B : Addr) : Prop := PySem.W.kitOne K (.type "NoneType") (.ref W) = some false ∧ PySem.W.kitOne K (.type "NoneType") (.ref P) = some false ∧ PySem.W.kitOne K (.type "NoneType") (.ref C) = some false ∧ PySem.W.kitOne K (.type "NoneType") (.ref B) = some false ∧
  PySem.W.kitOne K (.ref W) (.ref W) = some true ∧ PySem.W.kitOne K (.ref P) (.ref W) = some false ∧ PySem.W.kitOne K (.ref P) (.ref P) = some true ∧ PySem.W.kitOne K (.ref C) (.ref W) = some false ∧ PySem.W.kitOne K (.ref C) (.ref P) = some false ∧ PySem.W.kitOne K (.ref C) (.ref C) = some true ∧
  PySem.W.kitOne K (.ref B) (.ref W) = some false ∧ PySem.W.kitOne K (.ref B) (.ref P) = some false ∧ PySem.W.kitOne K (.ref B) (.ref C) = some false ∧ PySem.W.kitOne K (.ref B) (.ref B) = some true
instance (K : PySem.W.Frag) (W P C B : Addr) : Decidable (kitP K W P C B) := by unfold kitP; infer_instance
def exL (K : PySem.W.Frag) (W P C B : Addr) : List Bool := [He.tupB K "KINDS" [.str "any", .str "plain", .str "single"], decide (kitP K W P C B), oexB K W, oexB K P, oexB K C, oexB K B, decide (excP K W), decide (excP K P), decide (excP K C), decide (excP K B), decide (initP K W), decide (initP K P), decide (initP K C), decide (initP K B)]
def exB (K : PySem.W.Frag) : Bool := (exL K (He.ga K "InvalidWorld") (He.ga K "InvalidPair") (He.ga K "InvalidKind") (He.ga K "Barred")).all id
theorem exL_at {K : PySem.W.Frag} {W P C B : Addr} (h : (exL K W P C B).all id = true) (i : Nat) {b : Bool} (e : (exL K W P C B)[i]? = some b) : b = true := List.all_eq_true.mp h b (List.mem_of_getElem? e)
abbrev hR : PySem.W.OpenRow := PySem.W.OpenLaw.row PySem.Challenge.rw_ruleworlds_k27_what_sets_of_pairs_refuse
abbrev hH : PySem.W.Hook := hookY 6 hfa hfn exB
def hob (s : PySem.W.SharedT) : He.AlD × Bool := obY 6 hfa hfn exB (HandSHeadRun.getT s)
theorem hob_eq (s : PySem.W.SharedT) : hob s = hH.obs s.abs := obY_eq (HandSHeadRun.getT_eq s)
def hloose1 : List Str := ["_wall", "RuleError", "InvalidRule", "NotAProgram", "InvalidWorld", "InvalidPair", "Unreadable", "InvalidKind", "Barred", "LETTERS", "NOT", "is_name", "is_world", "is_rule", "Program", "_are_names", "_set_of", "_written_rule", "_with_not", "_read_rule", "_halves", "_without_not", "is_pair", "has_all", "without", "check_program", "check_world", "check_kind", "worlds", "_chosen_names"]
def hloose2 : List Str := ["_bits_of", "_number", "_numbered", "_every_world", "_agree", "KINDS", "barred", "program_of", "_check_asked", "_why_not", "_not_total", "_not_upward", "_not_meeting", "_heads_against", "_worlds_below", "_common", "_law_at", "_law_mixed", "_law_purse", "_law_draw", "_law_asked", "_law_items", "_law_words"]
def hloose : List Str := hloose1 ++ hloose2
theorem hrun (w : World) : HandSHeadRun.RunEq hR (PySem.W.view hR.prog [59]) hH hob 9000 hloose w := by
  intro os
  kernel_rfl
theorem hfacts {P : Program} {w : World} {K : PySem.W.Frag} {h : Heap} {mg : Str → Option Value} {f : Addr} (X : K.In h) (G : h.Ns mainGlobals mg) (hfa_ : mg ("law" : Str) = some (.ref f)) (c : He5.SaysA hfa hfn K) (ce : exB K = true) :
    ∃ fd : FuncData, (∀ (s : Shared) (v : Value), BindsTo s fd ⟨[v], []⟩ [("script", v)]) ∧ ∀ base : Heap, K.In base → base.Ns mainGlobals mg → FnOk P w K mg base CX0 8 f fd ["script"] (spLaw K) := by
  obtain ⟨fd0, D0⟩ := c.def_ 0 (d := dOf "is_name" sIsName) rfl
  have F0 : Fun K "is_name" "is_name" sIsName _ fd0 := fun_of D0
  have B0 := D0.bindsN (ps := ["thing"]) fun _ _ _ _ _ _ us hl => match us, hl with | [_], _ => rfl
  have M0 : mg "is_name" = _ := He.glo_ok X G (c.fact 24 (f := .glo "is_name") rfl)
  obtain ⟨fd1, D1⟩ := c.def_ 1 (d := dOf "_are_names" sAreNames) rfl
  have F1 : Fun K "_are_names" "_are_names" sAreNames _ fd1 := fun_of D1
  have B1 := D1.bindsN (ps := ["thing"]) fun _ _ _ _ _ _ us hl => match us, hl with | [_], _ => rfl
  have M1 : mg "_are_names" = _ := He.glo_ok X G (c.fact 25 (f := .glo "_are_names") rfl)
  obtain ⟨fd2, D2⟩ := c.def_ 2 (d := dOf "_set_of" sSetOf) rfl
  have F2 : Fun K "_set_of" "_set_of" sSetOf _ fd2 := fun_of D2
  have B2 := D2.bindsN (ps := ["names"]) fun _ _ _ _ _ _ us hl => match us, hl with | [_], _ => rfl
  have M2 : mg "_set_of" = _ := He.glo_ok X G (c.fact 26 (f := .glo "_set_of") rfl)
  obtain ⟨fd3, D3⟩ := c.def_ 3 (d := dOf "is_world" sIsWorld) rfl
  have F3 : Fun K "is_world" "is_world" sIsWorld _ fd3 := fun_of D3
  have B3 := D3.bindsN (ps := ["thing"]) fun _ _ _ _ _ _ us hl => match us, hl with | [_], _ => rfl
  have M3 : mg "is_world" = _ := He.glo_ok X G (c.fact 27 (f := .glo "is_world") rfl)
  obtain ⟨fd4, D4⟩ := c.def_ 4 (d := dOf "has_all" sHasAll) rfl
  have F4 : Fun K "has_all" "has_all" sHasAll _ fd4 := fun_of D4
  have B4 := D4.bindsN (ps := ["names", "wanted"]) fun _ _ _ _ _ _ us hl => match us, hl with | [_, _], _ => rfl
  have M4 : mg "has_all" = _ := He.glo_ok X G (c.fact 28 (f := .glo "has_all") rfl)
  obtain ⟨fd5, D5⟩ := c.def_ 5 (d := dOf "is_pair" sIsPair) rfl
  have F5 : Fun K "is_pair" "is_pair" sIsPair _ fd5 := fun_of D5
  have B5 := D5.bindsN (ps := ["thing"]) fun _ _ _ _ _ _ us hl => match us, hl with | [_], _ => rfl
  have M5 : mg "is_pair" = _ := He.glo_ok X G (c.fact 29 (f := .glo "is_pair") rfl)
  obtain ⟨fd6, D6⟩ := c.def_ 6 (d := dOf "check_world" sCheckWorld) rfl
  have F6 : Fun K "check_world" "check_world" sCheckWorld _ fd6 := fun_of D6
  have B6 := D6.bindsN (ps := ["thing"]) fun _ _ _ _ _ _ us hl => match us, hl with | [_], _ => rfl
  have M6 : mg "check_world" = _ := He.glo_ok X G (c.fact 30 (f := .glo "check_world") rfl)
  obtain ⟨fd7, D7⟩ := c.def_ 7 (d := dOf "check_kind" sCheckKind) rfl
  have F7 : Fun K "check_kind" "check_kind" sCheckKind _ fd7 := fun_of D7
  have B7 := D7.bindsN (ps := ["thing", "kinds"]) fun _ _ _ _ _ _ us hl => match us, hl with | [_, _], _ => rfl
  have M7 : mg "check_kind" = _ := He.glo_ok X G (c.fact 31 (f := .glo "check_kind") rfl)
  obtain ⟨fd8, D8⟩ := c.def_ 8 (d := dOf "_not_total" sTotal) rfl
  have F8 : Fun K "_not_total" "_not_total" sTotal _ fd8 := fun_of D8
  have B8 := D8.bindsN (ps := ["chosen", "present"]) fun _ _ _ _ _ _ us hl => match us, hl with | [_, _], _ => rfl
  have M8 : mg "_not_total" = _ := He.glo_ok X G (c.fact 32 (f := .glo "_not_total") rfl)
  obtain ⟨fd9, D9⟩ := c.def_ 9 (d := dOf "_not_upward" sUpward) rfl
  have F9 : Fun K "_not_upward" "_not_upward" sUpward _ fd9 := fun_of D9
  have B9 := D9.bindsN (ps := ["chosen", "present"]) fun _ _ _ _ _ _ us hl => match us, hl with | [_, _], _ => rfl
  have M9 : mg "_not_upward" = _ := He.glo_ok X G (c.fact 33 (f := .glo "_not_upward") rfl)
  obtain ⟨fd10, D10⟩ := c.def_ 10 (d := dOf "_common" sCommon) rfl
  have F10 : Fun K "_common" "_common" sCommon _ fd10 := fun_of D10
  have B10 := D10.bindsN (ps := ["one", "other"]) fun _ _ _ _ _ _ us hl => match us, hl with | [_, _], _ => rfl
  have M10 : mg "_common" = _ := He.glo_ok X G (c.fact 34 (f := .glo "_common") rfl)
  obtain ⟨fd11, D11⟩ := c.def_ 11 (d := dOf "_worlds_below" sBelow) rfl
  have F11 : Fun K "_worlds_below" "_worlds_below" sBelow _ fd11 := fun_of D11
  have B11 := D11.bindsN (ps := ["chosen"]) fun _ _ _ _ _ _ us hl => match us, hl with | [_], _ => rfl
  have M11 : mg "_worlds_below" = _ := He.glo_ok X G (c.fact 35 (f := .glo "_worlds_below") rfl)
  obtain ⟨fd12, D12⟩ := c.def_ 12 (d := dOf "_not_meeting" sMeeting) rfl
  have F12 : Fun K "_not_meeting" "_not_meeting" sMeeting _ fd12 := fun_of D12
  have B12 := D12.bindsN (ps := ["chosen", "present"]) fun _ _ _ _ _ _ us hl => match us, hl with | [_, _], _ => rfl
  have M12 : mg "_not_meeting" = _ := He.glo_ok X G (c.fact 36 (f := .glo "_not_meeting") rfl)
  obtain ⟨fd13, D13⟩ := c.def_ 13 (d := dOf "_why_not" sWhyNot) rfl
  have F13 : Fun K "_why_not" "_why_not" sWhyNot _ fd13 := fun_of D13
  have B13 := D13.bindsN (ps := ["chosen", "kind"]) fun _ _ _ _ _ _ us hl => match us, hl with | [_, _], _ => rfl
  have M13 : mg "_why_not" = _ := He.glo_ok X G (c.fact 37 (f := .glo "_why_not") rfl)
  obtain ⟨fd14, D14⟩ := c.def_ 14 (d := dOf "_check_asked" sAsked) rfl
  have F14 : Fun K "_check_asked" "_check_asked" sAsked _ fd14 := fun_of D14
  have B14 := D14.bindsN (ps := ["pairs", "names", "kind"]) fun _ _ _ _ _ _ us hl => match us, hl with | [_, _, _], _ => rfl
  have M14 : mg "_check_asked" = _ := He.glo_ok X G (c.fact 38 (f := .glo "_check_asked") rfl)
  obtain ⟨fd15, D15⟩ := c.def_ 15 (d := dOf "_law_at" sLawAt) rfl
  have F15 : Fun K "_law_at" "_law_at" sLawAt _ fd15 := fun_of D15
  have B15 := D15.bindsN (ps := ["script", "k"]) fun _ _ _ _ _ _ us hl => match us, hl with | [_, _], _ => rfl
  have M15 : mg "_law_at" = _ := He.glo_ok X G (c.fact 39 (f := .glo "_law_at") rfl)
  obtain ⟨fd16, D16⟩ := c.def_ 16 (d := dOf "_law_mixed" sLawMixed) rfl
  have F16 : Fun K "_law_mixed" "_law_mixed" sLawMixed _ fd16 := fun_of D16
  have B16 := D16.bindsN (ps := ["cell", "k"]) fun _ _ _ _ _ _ us hl => match us, hl with | [_, _], _ => rfl
  have M16 : mg "_law_mixed" = _ := He.glo_ok X G (c.fact 40 (f := .glo "_law_mixed") rfl)
  obtain ⟨fd17, D17⟩ := c.def_ 17 (d := dOf "_law_purse" sLawPurse) rfl
  have F17 : Fun K "_law_purse" "_law_purse" sLawPurse _ fd17 := fun_of D17
  have B17 := D17.bindsN (ps := ["script", "at"]) fun _ _ _ _ _ _ us hl => match us, hl with | [_, _], _ => rfl
  have M17 : mg "_law_purse" = _ := He.glo_ok X G (c.fact 41 (f := .glo "_law_purse") rfl)
  obtain ⟨fd18, D18⟩ := c.def_ 18 (d := dOf "_law_draw" sLawDraw) rfl
  have F18 : Fun K "_law_draw" "_law_draw" sLawDraw _ fd18 := fun_of D18
  have B18 := D18.bindsN (ps := ["purse", "out_of"]) fun _ _ _ _ _ _ us hl => match us, hl with | [_, _], _ => rfl
  have M18 : mg "_law_draw" = _ := He.glo_ok X G (c.fact 42 (f := .glo "_law_draw") rfl)
  obtain ⟨fd19, D19⟩ := c.def_ 19 (d := dOf "_law_items" sLawItems) rfl
  have F19 : Fun K "_law_items" "_law_items" sLawItems _ fd19 := fun_of D19
  have B19 := D19.bindsN (ps := []) fun _ _ _ _ _ _ us hl => match us, hl with | [], _ => rfl
  have M19 : mg "_law_items" = _ := He.glo_ok X G (c.fact 43 (f := .glo "_law_items") rfl)
  obtain ⟨fd20, D20⟩ := c.def_ 20 (d := dOf "_law_words" sLawWords) rfl
  have F20 : Fun K "_law_words" "_law_words" sLawWords _ fd20 := fun_of D20
  have B20 := D20.bindsN (ps := []) fun _ _ _ _ _ _ us hl => match us, hl with | [], _ => rfl
  have M20 : mg "_law_words" = _ := He.glo_ok X G (c.fact 44 (f := .glo "_law_words") rfl)
  obtain ⟨fd21, D21⟩ := c.def_ 21 (d := dOf "_law_asked" sLawAsked) rfl
  have F21 : Fun K "_law_asked" "_law_asked" sLawAsked _ fd21 := fun_of D21
  have B21 := D21.bindsN (ps := ["way", "rows", "some", "word"]) fun _ _ _ _ _ _ us hl => match us, hl with | [_, _, _, _], _ => rfl
  have M21 : mg "_law_asked" = _ := He.glo_ok X G (c.fact 45 (f := .glo "_law_asked") rfl)
  obtain ⟨fd22, D22⟩ := c.def_ 22 (d := dOf "law" sLaw) rfl
  have F22 : Fun K "law" "law" sLaw _ fd22 := fun_of D22
  have B22 := D22.bindsN (ps := ["script"]) fun _ _ _ _ _ _ us hl => match us, hl with | [_], _ => rfl
  have M22 : mg "law" = _ := He.glo_ok X G (c.fact 46 (f := .glo "law") rfl)
  obtain ⟨fdbarred, Dbarred⟩ := c.def_ 23 (d := dOfD "barred" sBarred) rfl
  have Ebarred : FunD K "barred" "barred" (defArgs sBarred) (defBody sBarred) (defScope sBarred) [.str anyS] [] _ fdbarred := Dbarred
  have Mbarred : mg "barred" = _ := He.glo_ok X G (c.fact 21 (f := .glo "barred") rfl)
  obtain ⟨fdprogram_of, Dprogram_of⟩ := c.def_ 24 (d := dOfD "program_of" sProgramOf) rfl
  have Eprogram_of : FunD K "program_of" "program_of" (defArgs sProgramOf) (defBody sProgramOf) (defScope sProgramOf) [.str anyS] [] _ fdprogram_of := Dprogram_of
  have Mprogram_of : mg "program_of" = _ := He.glo_ok X G (c.fact 22 (f := .glo "program_of") rfl)
  obtain ⟨ds0, v0, BB0⟩ := Ebarred.binds1 (ps := ["pairs", "names", "kind"]) 3 1 (by simp) rfl fun T kV doc pm an cdv ct us its h1 h2 => match us, its, h1, h2 with | [_, _, _], [_], _, _ => ⟨_, rfl, rfl⟩
  cases v0
  obtain ⟨it2, w2, KB2⟩ := kbn_def (ps := ["pairs", "names", "kind"]) Eprogram_of (by simp) 1 ["names", "kind"] (fun us its ws => us ++ ws) (fun vs zs => vs ++ zs) (fun T kV doc pm an cdv ct us its ws h1 h2 h3 => match us, its, ws, h1, h2, h3 with | [_], [_], [_, _], _, _, _ => ⟨_, rfl, rfl⟩) (fun a _ c => vals_app a c)
  obtain ⟨fdEWorld, DEWorld⟩ := c.def_ 25 (d := dMEWorld) rfl
  have EEWorld : FunD K "__init__" "InvalidWorld.__init__" (defArgs sEWorld) (defBody sEWorld) (defScope sEWorld) [.non] [] _ fdEWorld := DEWorld
  obtain ⟨dsEWorld, vEWorld, BEWorld⟩ := EEWorld.binds1 (ps := ["self", "thing"]) 2 1 (by simp) rfl fun T kV doc pm an cdv ct us its h1 h2 => match us, its, h1, h2 with | [_, _], [_], _, _ => ⟨_, rfl, rfl⟩
  cases vEWorld
  obtain ⟨fdEPair, DEPair⟩ := c.def_ 26 (d := dMEPair) rfl
  have EEPair : FunD K "__init__" "InvalidPair.__init__" (defArgs sEPair) (defBody sEPair) (defScope sEPair) [.non] [] _ fdEPair := DEPair
  obtain ⟨dsEPair, vEPair, BEPair⟩ := EEPair.binds1 (ps := ["self", "thing"]) 2 1 (by simp) rfl fun T kV doc pm an cdv ct us its h1 h2 => match us, its, h1, h2 with | [_, _], [_], _, _ => ⟨_, rfl, rfl⟩
  cases vEPair
  obtain ⟨fdEKind, DEKind⟩ := c.def_ 27 (d := dMEKind) rfl
  have EEKind : FunD K "__init__" "InvalidKind.__init__" (defArgs sEKind) (defBody sEKind) (defScope sEKind) [.non] [] _ fdEKind := DEKind
  obtain ⟨dsEKind, vEKind, BEKind⟩ := EEKind.binds1 (ps := ["self", "value"]) 2 1 (by simp) rfl fun T kV doc pm an cdv ct us its h1 h2 => match us, its, h1, h2 with | [_, _], [_], _, _ => ⟨_, rfl, rfl⟩
  cases vEKind
  obtain ⟨fdEBarred, DEBarred⟩ := c.def_ 28 (d := dMEBarred) rfl
  have EEBarred : FunD K "__init__" "Barred.__init__" (defArgs sEBarred) (defBody sEBarred) (defScope sEBarred) [.non] [] _ fdEBarred := DEBarred
  obtain ⟨dsEBarred, vEBarred, BEBarred⟩ := EEBarred.binds1 (ps := ["self", "why"]) 2 1 (by simp) rfl fun T kV doc pm an cdv ct us its h1 h2 => match us, its, h1, h2 with | [_, _], [_], _, _ => ⟨_, rfl, rfl⟩
  cases vEBarred
  have mProgram : mg "Program" = _ := He.glo_ok X G (c.fact 15 (f := .glo "Program") rfl)
  have mRuleError : mg "RuleError" = _ := He.glo_ok X G (c.fact 16 (f := .glo "RuleError") rfl)
  have mInvalidWorld : mg "InvalidWorld" = _ := He.glo_ok X G (c.fact 17 (f := .glo "InvalidWorld") rfl)
  have mInvalidPair : mg "InvalidPair" = _ := He.glo_ok X G (c.fact 18 (f := .glo "InvalidPair") rfl)
  have mInvalidKind : mg "InvalidKind" = _ := He.glo_ok X G (c.fact 19 (f := .glo "InvalidKind") rfl)
  have mBarred : mg "Barred" = _ := He.glo_ok X G (c.fact 20 (f := .glo "Barred") rfl)
  have mKINDS : mg "KINDS" = _ := He.glo_ok X G (c.fact 23 (f := .glo "KINDS") rfl)
  have T : Bl mg := ⟨He.free_ok X G (c.fact 0 (f := .free "len") rfl), He.free_ok X G (c.fact 1 (f := .free "isinstance") rfl), He.free_ok X G (c.fact 2 (f := .free "all") rfl), He.free_ok X G (c.fact 3 (f := .free "any") rfl), He.free_ok X G (c.fact 4 (f := .free "tuple") rfl), He.free_ok X G (c.fact 5 (f := .free "list") rfl), He.free_ok X G (c.fact 6 (f := .free "sorted") rfl), He.free_ok X G (c.fact 7 (f := .free "set") rfl), He.free_ok X G (c.fact 8 (f := .free "str") rfl), He.free_ok X G (c.fact 9 (f := .free "int") rfl), He.free_ok X G (c.fact 10 (f := .free "max") rfl), He.free_ok X G (c.fact 11 (f := .free "min") rfl), He.free_ok X G (c.fact 12 (f := .free "range") rfl), He.free_ok X G (c.fact 13 (f := .free "enumerate") rfl)⟩
  have mL := He.str_ok X G (c.fact 14 (f := .str "LETTERS" lettersS) rfl)
  have noInvalidWorld := He.noat_ok (c.fact 47 (f := .noat "InvalidWorld" "thing") rfl)
  have exInvalidWorld := He.exm_ok (c.fact 51 (f := .exm "InvalidWorld" "RuleError" true) rfl)
  have noInvalidPair := He.noat_ok (c.fact 48 (f := .noat "InvalidPair" "thing") rfl)
  have exInvalidPair := He.exm_ok (c.fact 52 (f := .exm "InvalidPair" "RuleError" true) rfl)
  have noInvalidKind := He.noat_ok (c.fact 49 (f := .noat "InvalidKind" "value") rfl)
  have exInvalidKind := He.exm_ok (c.fact 53 (f := .exm "InvalidKind" "RuleError" true) rfl)
  have noBarred := He.noat_ok (c.fact 50 (f := .noat "Barred" "why") rfl)
  have exBarred := He.exm_ok (c.fact 54 (f := .exm "Barred" "RuleError" true) rfl)
  have ce' : (exL K (He.ga K "InvalidWorld") (He.ga K "InvalidPair") (He.ga K "InvalidKind") (He.ga K "Barred")).all id = true := ce
  have hK := He.tupB_ok (exL_at ce' 0 rfl)
  obtain ⟨kt1, kt2, kt3, kt4, kt5, kt6, kt7, kt8, kt9, kt10, kt11, kt12, kt13, kt14⟩ := of_decide_eq_true (exL_at ce' 1 rfl)
  have oW := oexB_ok (exL_at ce' 2 rfl)
  have eW := excP_ok (of_decide_eq_true (exL_at ce' 6 rfl))
  obtain ⟨iW1, iW2⟩ := of_decide_eq_true (exL_at ce' 10 rfl)
  have oP := oexB_ok (exL_at ce' 3 rfl)
  have eP := excP_ok (of_decide_eq_true (exL_at ce' 7 rfl))
  obtain ⟨iP1, iP2⟩ := of_decide_eq_true (exL_at ce' 11 rfl)
  have oK := oexB_ok (exL_at ce' 4 rfl)
  have eK := excP_ok (of_decide_eq_true (exL_at ce' 8 rfl))
  obtain ⟨iK1, iK2⟩ := of_decide_eq_true (exL_at ce' 12 rfl)
  have oB := oexB_ok (exL_at ce' 5 rfl)
  have eB := excP_ok (of_decide_eq_true (exL_at ce' 9 rfl))
  obtain ⟨iB1, iB2⟩ := of_decide_eq_true (exL_at ce' 13 rfl)
  have EK : ErrK K mg (He.ga K "InvalidWorld") (He.ga K "InvalidPair") (He.ga K "InvalidKind") (He.ga K "Barred") (He.ga K "RuleError") := ⟨mInvalidWorld, mInvalidPair, mInvalidKind, mBarred, mRuleError, exInvalidWorld, exInvalidPair, exInvalidKind, exBarred, eW, eP, eK, eB, noInvalidWorld, noInvalidPair, noInvalidKind, kt1, kt2, kt3, kt4, kt5, kt6, kt7, kt8, kt9, kt10, kt11, kt12, kt13, kt14⟩
  have e := hfa_.symm.trans M22
  cases e
  refine ⟨fd22, fun s v => ?_, fun base _ _ => ?_⟩
  · exact FunD.bindsA (ps := ["script"]) D22 (fun _ _ _ _ _ _ us hl => match us, hl with | [_], _ => rfl) s [v] rfl
  have xW : ∀ k, ErrT P w K mg base (k + 1) "InvalidWorld" "thing" (He.ga K "InvalidWorld") := fun k => ⟨oW, ⟨_, _, iW1, iW2, ok_eWorld (k := k) EEWorld oW noInvalidWorld, BEWorld⟩, mInvalidWorld⟩
  have xP : ∀ k, ErrT P w K mg base (k + 1) "InvalidPair" "thing" (He.ga K "InvalidPair") := fun k => ⟨oP, ⟨_, _, iP1, iP2, ok_ePair (k := k) EEPair oP noInvalidPair, BEPair⟩, mInvalidPair⟩
  have xK : ∀ k, ErrT P w K mg base (k + 1) "InvalidKind" "value" (He.ga K "InvalidKind") := fun k => ⟨oK, ⟨_, _, iK1, iK2, ok_eKind (k := k) EEKind oK noInvalidKind, BEKind⟩, mInvalidKind⟩
  have xB : ∀ k, ErrT P w K mg base (k + 1) "Barred" "why" (He.ga K "Barred") := fun k => ⟨oB, ⟨_, _, iB1, iB2, ok_eBarred (k := k) EEBarred oB noBarred, BEBarred⟩, mBarred⟩
  have gIsName : ∀ k, FnOk P w K mg base CX0 (k + 1) _ fd0 ["thing"] (spIsName K) := fun k => ok_isName (k := k) F0 T mL
  have gAre : ∀ k, FnOk P w K mg base CX0 (k + 2) _ fd1 ["thing"] (spAreNames K) := fun k => ok_areNames (k := k + 1) F1 T (gIsName k) B0 F0.kp M0
  have gSet : ∀ k, FnOk P w K mg base CX0 (k + 1) _ fd2 ["names"] (spSetOf K) := fun k => ok_setOf (k := k) F2 T
  have gIsW : ∀ k, FnOk P w K mg base CX0 (k + 3) _ fd3 ["thing"] (spIsWorld K) := fun k => ok_isWorld (k := k + 2) F3 T (gAre k) B1 F1.kp M1 (gSet (k + 1)) B2 F2.kp M2
  have gHas : ∀ k, FnOk P w K mg base CX0 (k + 1) _ fd4 ["names", "wanted"] (spHasAll K) := fun k => ok_hasAll (k := k) F4 T
  have gIsP : ∀ k, FnOk P w K mg base CX0 (k + 4) _ fd5 ["thing"] (spIsPair K) := fun k => ok_isPair (k := k + 3) F5 T (gIsW k) B3 F3.kp M3 (gHas (k + 2)) B4 F4.kp M4
  have gCW : ∀ k, FnOk P w K mg base (L2.CX P w) (k + 4) _ fd6 ["thing"] (spCheckWorld K (He.ga K "InvalidWorld")) := fun k => ok_checkWorld (k := k + 2) F6 (gIsW k) B3 F3.kp M3 (xW (k + 1))
  have gCK : ∀ k, FnOk P w K mg base (L2.CX P w) (k + 3) _ fd7 ["thing", "kinds"] (spCheckKind K (He.ga K "InvalidKind")) := fun k => ok_checkKind (k := k + 1) F7 (xK k)
  have gTot : ∀ k, FnOk P w K mg base CX0 (k + 1) _ fd8 ["chosen", "present"] (spTotal K P w) := fun k => ok_total (k := k) F8
  have gUp : ∀ k, FnOk P w K mg base CX0 (k + 2) _ fd9 ["chosen", "present"] (spUpward K P w) := fun k => ok_upward (k := k + 1) F9 (gHas k) B4 F4.kp M4
  have gCom : ∀ k, FnOk P w K mg base CX0 (k + 1) _ fd10 ["one", "other"] (spCommon K) := fun k => ok_common (k := k) F10 T
  have gBel : ∀ k, FnOk P w K mg base CX0 (k + 1) _ fd11 ["chosen"] (spBelow K P w) := fun k => ok_below (k := k) F11
  have gMe : ∀ k, FnOk P w K mg base CX0 (k + 2) _ fd12 ["chosen", "present"] (spMeeting K P w) := fun k => ok_meeting (k := k + 1) F12 (gBel k) B11 F11.kp M11 (gCom k) B10 F10.kp M10
  have gWhy : ∀ k, FnOk P w K mg base CX0 (k + 3) _ fd13 ["chosen", "kind"] (spWhyNot K) := fun k => ok_whyNot (k := k + 2) F13 (gTot (k + 1)) B8 F8.kp M8 (gUp k) B9 F9.kp M9 (gMe k) B12 F12.kp M12
  have gAsk : ∀ k, FnOk P w K mg base (L2.CX P w) (k + 5) _ fd14 ["pairs", "names", "kind"] (spAsked K (He.ga K "InvalidWorld") (He.ga K "InvalidPair") (He.ga K "InvalidKind")) := fun k => ok_asked (k := k + 2) F14 (gCW k) B6 F6.kp M6 (gIsP k) B5 F5.kp M5 (gHas (k + 3)) B4 F4.kp M4 (gCK (k + 1)) B7 F7.kp M7 (xP (k + 2)) mKINDS hK
  have gBar : ∀ k, FnOk P w K mg base (L2.CX P w) (k + 6) _ fdbarred ["pairs", "names", "kind"] (spBarred K (He.ga K "InvalidWorld") (He.ga K "InvalidPair") (He.ga K "InvalidKind")) := fun k => ok_barred (k := k + 2) Ebarred T (gAsk k) B14 F14.kp M14 (gWhy (k + 2)) B13 F13.kp M13
  have gPO : ∀ k, FnOk P w K mg base (L2.CX P w) (k + 6) _ fdprogram_of ["pairs", "names", "kind"] (spProgramOf K (He.ga K "InvalidWorld") (He.ga K "InvalidPair") (He.ga K "InvalidKind") (He.ga K "Barred")) := fun k => ok_programOf (k := k + 1) Eprogram_of T (gAsk k) B14 F14.kp M14 (gWhy (k + 2)) B13 F13.kp M13 (xB (k + 3))
  have gAt : ∀ k, FnOk P w K mg base CX0 (k + 1) _ fd15 ["script", "k"] (spLawAt K) := fun k => ok_lawAt (k := k) F15 T
  have gMix : ∀ k, FnOk P w K mg base CX0 (k + 1) _ fd16 ["cell", "k"] (spLawMixed) := fun k => ok_lawMixed (k := k) F16 T
  have gPur : ∀ k, FnOk P w K mg base CX0 (k + 2) _ fd17 ["script", "at"] (spLawPurse K) := fun k => ok_lawPurse (k := k + 1) F17 T (gAt k) B15 F15.kp M15
  have gDraw : ∀ k, FnOk P w K mg base CX0 (k + 2) _ fd18 ["purse", "out_of"] (spLawDraw) := fun k => ok_lawDraw (k := k + 1) F18 T (gMix k) B16 F16.kp M16
  have gItems : ∀ k, FnOk P w K mg base CX0 (k + 1) _ fd19 [] (spLawItems K) := fun k => ok_lawItems (k := k) F19
  have gWords : ∀ k, FnOk P w K mg base CX0 (k + 1) _ fd20 [] (spLawWords K) := fun k => ok_lawWords (k := k) F20
  have gLAsk : ∀ k, FnOk P w K mg base CX0 (k + 7) _ fd21 ["way", "rows", "some", "word"] (spLawAsked K (He.ga K "InvalidWorld") (He.ga K "InvalidPair") (He.ga K "InvalidKind") (He.ga K "Barred")) := fun k => ok_lawAsked (k := k + 6) F21 T EK (gBar k) BB0 Ebarred.kp Mbarred (gPO k) KB2 Eprogram_of.kp Mprogram_of ⟨_, mProgram⟩
  exact ok_law (k := 6) F22 T (gPur 5) B17 F17.kp M17 (gDraw 5) B18 F18.kp M18 (gItems 6) B19 F19.kp M19 (gWords 6) B20 F20.kp M20 (gLAsk 0) B21 F21.kp M21
end Rw
open PySem PySem.W PySem.Calls PyProof.Rows
theorem PySem.Challenge.cw_ruleworlds_k27_what_sets_of_pairs_refuse_holds : PySem.Challenge.rw_ruleworlds_k27_what_sets_of_pairs_refuse.Holds := by
  w_on; o_law
  refine HandSHeadRun.head_any (r := OpenLaw.row PySem.Challenge.rw_ruleworlds_k27_what_sets_of_pairs_refuse) (q := view (OpenLaw.row PySem.Challenge.rw_ruleworlds_k27_what_sets_of_pairs_refuse).prog [59]) (H := Rw.hH) (ob := Rw.hob) (M := 9000) (loose := Rw.hloose) (d := HandSHeadRun.topDef (OpenLaw.row PySem.Challenge.rw_ruleworlds_k27_what_sets_of_pairs_refuse).prog 59) (kwd := []) Rw.hob_eq
    (by kernel_rfl) (fun s => by kernel_rfl) Rw.hrun (by kernel_rfl) (by kernel_rfl) (by kernel_rfl) (by rfl) (by first | assumption | decide +kernel) (by decide +kernel) ⟨rfl, rfl, rfl, rfl, rfl, by decide +kernel⟩ ?hw ?hc
  case hw => w_witness2
  case hc =>
    refine L2.walk_ofE (l := PySem.Challenge.rw_ruleworlds_k27_what_sets_of_pairs_refuse) (n := 63) (k := 8) (x := "script") (CX := L2.CX0) rfl (by decide) (by kernel_rfl) ⟨rfl, by decide, by decide⟩ ?F (fun _ _ _ _ z => z)
    intro w mg fa h Y G hmg0
    obtain ⟨K, KX, c, ce⟩ := Y
    have hmg : mg ("law" : PySem.Str) = some (.ref fa) := by
      have e : (HandSHeadRun.topDef (OpenLaw.row PySem.Challenge.rw_ruleworlds_k27_what_sets_of_pairs_refuse).prog 59).name = ("law" : PySem.Str) := by kernel_rfl
      rw [← e]
      exact hmg0
    obtain ⟨fd, hb, hF⟩ := Rw.hfacts (P := (PySem.Challenge.rw_ruleworlds_k27_what_sets_of_pairs_refuse).prog) (w := w) KX G hmg c ce
    exact ⟨K, fd, Rw.spLaw K, KX, hb, fun H a ns hl _ hS => ⟨a, ns, rfl, hS, hl, fun _ => rfl⟩, hF⟩
