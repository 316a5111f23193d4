import PyProof.Rows.All
import Wide.All
import OpenK.AllK
import Wide.FinOn
import HandS.TupSets
import KE.KeyNested
import KE.KDictKeyed
import KE.SortData
import HandS.SetTxt0
import KE.DataCmp
import HandS.ForMost
import HandS.DictComp
import KE.GoesComp
import KE.GoesMore
import HandS.IsInst
import PySem.Challenge.RW_ruleworlds_k25_sets_of_pairs_barred
import HandS.Defaults
import HandS.TupAny
import HandS.Deep
import HandS.Style
import KE.KStateDown
import HandS.Head0
import HandS.Head1
import HandS.Head2
import HandS.HeadEnd
import HandS.HeadHook1
import HandS.HeadHook2
import HandS.HeadHook3
import HandS.HeadHook4
set_option Elab.async false
set_option linter.all false
set_option maxRecDepth 100000
set_option maxHeartbeats 0
/-! Sets whose members are texts, or tuples of texts and of such tuples: made of a list or a tuple, and gathered again. -/
namespace Rw
open PySem PySem.Spec PyProof.Rows L2
abbrev NK := NestedKey
section
variable {P : Program} {w : World}
/-! no class statement stands in a key -/
mutual
theorem noCls : ∀ (k : NK) (v : Value) (n : Nat) (A : Around) (E : Value → Shared → Prop) (s : Shared) (Q : Bool → Shared → Prop), NestedIs s.heap k v → k.depth ≤ n → Q false s → wpAny (model P w) A (ofAClassStatement n v) Q E s
  | .none, _, n, A, E, s, Q, x, _, h => by
    cases x
    cases n <;> exact wpAny_pure h
  | .num i, _, n, A, E, s, Q, x, _, h => by
    cases x <;> cases n <;> exact wpAny_pure h
  | .text y, _, n, A, E, s, Q, x, _, h => by
    cases x
    cases n <;> exact wpAny_pure h
  | .tup ks, _, n, A, E, s, Q, x, hn, h => by
    cases x with
    | @tup a o vs m _ hg hc hd hk =>
      simp only [NestedKey.depth] at hn
      cases n with
      | zero => omega
      | succ n =>
        have hT : s.TypeIs (.ref a) "tuple" := ⟨o, hg, hc⟩
        unfold ofAClassStatement
        refine wpAny_bind (wpAny_typeOf hT ?_)
        dsimp only
        have e : (("tuple" : String) == "tuple") = true := by decide
        simp only [e, if_true, Bool.not_true, Bool.false_eq_true, if_false]
        try refine wpAny_bind (wpAny_pure ?_)
        try simp only [Bool.not_true, Bool.false_eq_true, if_false]
        show wpAny _ _ (seqItems? (.ref a) >>= _) _ _ s
        refine wpAny_bind (wpAny_seqItems hg hd ?_)
        dsimp only
        refine wpAny_bind ?_
        show wpAny _ _ (forIn vs _ _) _ _ s
        rw [← Array.forIn_toList]
        refine noClsAll ks vs.toList n A E s _ hk (by omega) ?_
        exact wpAny_pure h
theorem noClsAll : ∀ (ks : List NK) (vs : List Value) (n : Nat) (A : Around) (E : Value → Shared → Prop) (s : Shared) (Q : Option Bool × Unit → Shared → Prop), NestedAll s.heap ks vs → NestedKey.depthAll ks ≤ n → Q (none, ()) s →
    wpAny (model P w) A (forIn vs ((none, ()) : Option Bool × Unit) fun y r => do if ← ofAClassStatement n y then pure (ForInStep.done (some true, ())) else pure (ForInStep.yield (none, ()))) Q E s
  | [], _, n, A, E, s, Q, x, _, h => by
    cases x
    exact wpAny_pure h
  | k :: ks, _, n, A, E, s, Q, x, hn, h => by
    cases x with
    | cons x1 x2 =>
      simp only [NestedKey.depthAll] at hn
      rw [List.forIn_cons]
      refine wpAny_bind (wpAny_bind (noCls k _ n A E s _ x1 (by omega) ?_))
      simp only [Bool.false_eq_true, if_false]
      refine wpAny_pure ?_
      exact noClsAll ks _ n A E s Q x2 (by omega) h
end
/-! whether a key is hashed by its value: either answer -/
mutual
theorem byVal : ∀ (k : NK) (v : Value) (n : Nat) (A : Around) (E : Value → Shared → Prop) (s : Shared) (Q : Bool → Shared → Prop), NestedIs s.heap k v → (∀ b, Q b s) → wpAny (model P w) A (hashByValue n v) Q E s
  | .none, _, n, A, E, s, Q, x, h => by
    cases x
    cases n <;> exact wpAny_pure (h _)
  | .num i, _, n, A, E, s, Q, x, h => by
    cases x <;> cases n <;> exact wpAny_pure (h _)
  | .text y, _, n, A, E, s, Q, x, h => by
    cases x
    cases n <;> exact wpAny_pure (h _)
  | .tup ks, _, n, A, E, s, Q, x, h => by
    cases x with
    | @tup a o vs m _ hg hc hd hk =>
      cases n with
      | zero => exact wpAny_pure (h _)
      | succ n =>
        have hT : s.TypeIs (.ref a) "tuple" := ⟨o, hg, hc⟩
        unfold hashByValue
        refine wpAny_bind (wpAny_specialOf hT F.slot_tuple_hash.lookup ?_)
        show wpAny _ _ (seqItems? (.ref a) >>= _) _ _ s
        refine wpAny_bind (wpAny_seqItems hg hd ?_)
        refine wpAny_bind ?_
        show wpAny _ _ (forIn vs _ _) _ _ s
        rw [← Array.forIn_toList]
        refine byValAll ks vs.toList n A E s _ hk ?_ ?_
        · exact wpAny_pure (h _)
        · exact wpAny_pure (h _)
theorem byValAll : ∀ (ks : List NK) (vs : List Value) (n : Nat) (A : Around) (E : Value → Shared → Prop) (s : Shared) (Q : Option Bool × Unit → Shared → Prop), NestedAll s.heap ks vs → Q (none, ()) s → Q (some false, ()) s →
    wpAny (model P w) A (forIn vs ((none, ()) : Option Bool × Unit) fun y r => do if !(← hashByValue n y) then pure (ForInStep.done (some false, ())) else pure (ForInStep.yield (none, ()))) Q E s
  | [], _, n, A, E, s, Q, x, h, _ => by
    cases x
    exact wpAny_pure h
  | k :: ks, _, n, A, E, s, Q, x, h, h2 => by
    cases x with
    | cons x1 x2 =>
      rw [List.forIn_cons]
      refine wpAny_bind (wpAny_bind (byVal k _ n A E s _ x1 fun b => ?_))
      cases b with
      | true =>
        simp only [Bool.not_true, Bool.false_eq_true, if_false]
        refine wpAny_pure ?_
        exact byValAll ks _ n A E s Q x2 h h2
      | false =>
        simp only [Bool.not_false, if_true]
        exact wpAny_pure (wpAny_pure h2)
end
end
/-! ### sets of tuples -/
/-- a tuple that is a key, not too deep -/
def TupK (h : Heap) (k : NK) (a : Addr) : Prop := NestedIs h k (.ref a) ∧ k.depth ≤ 8
theorem TupK.one {h : Heap} {k k' : NK} {a : Addr} (x : TupK h k a) (y : TupK h k' a) : k = k' := NestedIs.inj _ _ _ x.1 y.1
theorem TupK.kept {h h' : Heap} {k : NK} {a : Addr} (x : TupK h k a) (u : ∀ b o, h.get? b = some o → h'.get? b = some o) : TupK h' k a :=
  ⟨NestedIs.at (fun b o _ _ e _ => u b o e) _ _ x.1, x.2⟩
/-- all but a set stays -/
theorem TupK.butSet {h h' : Heap} {k : NK} {a b : Addr} {o : Obj} {es : Array (Int × Value)} {ep : Nat} {t : SetTable} (x : TupK h k b) (ho : h.get? a = some o) (hd : o.data = .set es ep t) (sb : Heap.SameBut a h h') : TupK h' k b := by
  refine ⟨NestedIs.at (fun c u vs n e es' => (sb.2 c ?_).trans e) _ _ x.1, x.2⟩
  intro z
  subst z
  have q : u = o := Option.some.inj (e.symm.trans ho)
  rw [q, hd] at es'
  exact nomatch es'
/-- the entries of a table -/
def ents (w : World) (L : List (Addr × NK)) : List (Int × Value) := L.map fun p => (p.2.hash w, Value.ref p.1)
def hashes (w : World) (L : List (Addr × NK)) : List Int := L.map fun p => p.2.hash w
theorem ents_len (w : World) (L : List (Addr × NK)) : (ents w L).length = L.length := List.length_map _
theorem hashes_len (w : World) (L : List (Addr × NK)) : (hashes w L).length = L.length := List.length_map _
structure TSet (P : Program) (w : World) (h : Heap) (a : Addr) (L : List (Addr × NK)) (es : Array (Int × Value)) (ep : Nat) (t : SetTable) : Prop where
  ob : ∃ o, h.get? a = some o ∧ o.ExactSet ∧ o.data = .set es ep t
  en : es.toList = ents w L
  tab : TabOk t (hashes w L)
  nd : (L.map (·.2)).Nodup
  ks : ∀ p ∈ L, TupK h p.2 p.1
  led : w.params.followText "set-order" = true ∨ t.led = true
  room : L.length * 5 < t.mask * 3
  few : L.length < 64
section
variable {P : Program} {w : World} {A : Around} {E : Value → Shared → Prop} {s : Shared} {a : Addr} {L : List (Addr × NK)} {es : Array (Int × Value)} {ep : Nat} {t : SetTable}
theorem size_of_ents (h : es.toList = ents w L) : es.size = L.length := by
  rw [← Array.length_toList, h, ents_len]
theorem TSet.fits (R : TSet P w s.heap a L es ep t) : t.fits es.size = true := by
  have a1 := R.tab.sz
  have a2 := size_of_ents R.en
  have a3 := R.room
  rw [hashes_len] at a1
  unfold SetTable.fits SetTable.fill
  rw [R.tab.dm, Bool.and_eq_true, beq_iff_eq, decide_eq_true_eq]
  refine ⟨by omega, ?_⟩
  show t.place.size + 0 ≤ t.mask
  omega
theorem TSet.at (R : TSet P w s.heap a L es ep t) {i : Nat} {p : Addr × NK} (h : L[i]? = some p) : es[i]? = some (p.2.hash w, Value.ref p.1) := by
  rw [← Array.getElem?_toList, R.en]
  unfold ents
  rw [List.getElem?_map, h]
  rfl
/-- nobody sees a search among such tuples -/
theorem unseen {k : NK} {b : Addr} {Q : Bool → Shared → Prop} (hk : TupK s.heap k b) {ys : List Value} (hy : ∀ y ∈ ys, ∃ k' c, y = Value.ref c ∧ TupK s.heap k' c) (h : Q false s) : wpAny (model P w) A (searchCouldBeSeen (.ref b) ys) Q E s := by
  unfold searchCouldBeSeen
  refine wpAny_bind ?_
  refine wpAny_forIn_list _ (fun rest r s' => r.1 = none ∧ s' = s ∧ ∀ y ∈ rest, ∃ k' c, y = Value.ref c ∧ TupK s.heap k' c) _ ?turn ?last _ _ ⟨rfl, rfl, hy⟩
  case turn =>
    rintro v rest r s' ⟨hr, rfl, all⟩
    obtain ⟨k', c, rfl, hc⟩ := all v List.mem_cons_self
    have more : ∀ y ∈ rest, ∃ k' c, y = Value.ref c ∧ TupK s'.heap k' c := fun u hu => all u (List.mem_cons_of_mem _ hu)
    dsimp only
    by_cases hv : (b == c || (carriedByValue (.ref b) && carriedByValue (.ref c))) = true
    · exact wp_if_pos hv (wpAny_pure ⟨rfl, rfl, more⟩)
    · refine wp_if_neg hv (wpAny_bind ((nestedKind P w).quiet (k := k) hk ?_))
      simp only [Bool.not_true, Bool.false_eq_true, if_false]
      refine wpAny_bind ((nestedKind P w).quiet (k := k') hc ?_)
      simp only [Bool.not_true, Bool.false_eq_true, if_false]
      refine wpAny_bind (noCls k _ 8 _ _ _ _ hk.1 hk.2 ?_)
      simp only [Bool.false_eq_true, if_false]
      refine wpAny_bind (noCls k' _ 8 _ _ _ _ hc.1 hc.2 ?_)
      simp only [Bool.false_eq_true, if_false]
      exact wpAny_pure ⟨rfl, rfl, more⟩
  case last =>
    rintro ⟨r1, r2⟩ s' ⟨hr, rfl, _⟩
    simp only at hr
    subst hr
    exact wpAny_pure h
end
/-! ### the search -/
/-- the states of a search for the hash g, one after the other -/
def st (m : Nat) (g : Int) (c : Nat) : SetTable.Probe := nth m (runAt m (SetTable.bits g % (m + 1)) (SetTable.bits g)) c
theorem st_way (m : Nat) (g : Int) (c : Nat) : (st m g c).j = way m g c := rfl
theorem st_more (m : Nat) (g : Int) (c q : Nat) : nth m (st m g c) q = st m g (c + q) := (nth_add m c _ q).symm
theorem nth_dummy (m : Nat) : ∀ (n : Nat) (p : SetTable.Probe), p.dummy = none → (nth m p n).dummy = none
  | 0, _, h => h
  | n + 1, p, h => nth_dummy m n (adv m p) (by unfold adv; split <;> exact h)
theorem st_dummy (m : Nat) (g : Int) (c : Nat) : (st m g c).dummy = none := nth_dummy m c _ rfl
section
variable {P : Program} {w : World} {A : Around} {E : Value → Shared → Prop} {s : Shared} {a : Addr} {L : List (Addr × NK)} {es : Array (Int × Value)} {ep : Nat} {t : SetTable}
theorem hunt (R : TSet P w s.heap a L es ep t) {x : Addr} {k : NK} (hx : TupK s.heap k x) (hu : A.units + 8 < cLine) {g : Int} (hg : g = k.hash w) {K : Nat} (hf : K < 10 * SetTable.turns t.mask)
    (free : way t.mask g K ∉ t.place.toList) (full : ∀ c, c < K → way t.mask g c ∈ t.place.toList) {Q : SetFound → Shared → Prop}
    (yes : k ∈ L.map (·.2) → Q (.there none) s) (no : k ∉ L.map (·.2) → Q (.free (way t.mask g K) false) s) :
    ∀ (f c : Nat) (stand : Option SetTable.Probe), stand.getD (t.probeStart g) = st t.mask g c → c ≤ K → K - c < f →
      (∀ (i : Nat) p, L[i]? = some p → p.2 = k → ∃ c', c ≤ c' ∧ c' < K ∧ t.place.toList[i]? = some (way t.mask g c')) →
      wpAny (model P w) A (setSearchFrom a (.ref x) g true f stand) Q E s
  | 0, c, stand, _, _, h, _ => absurd h (Nat.not_lt_zero _)
  | f + 1, c, stand, hst, hc, hlt, ahead => by
    obtain ⟨o, ho, hex, hd⟩ := R.ob
    have big := R.fits
    have hashOf : ∀ (i : Nat) p, L[i]? = some p → (es[i]?.map (·.1)).getD 0 = p.2.hash w := fun i p hp => by
      rw [R.at hp]
      rfl
    have oddM := mask_odd R.tab.mok
    rw [setSearchFrom_succ]
    refine wpAny_bind (wpAny_setState_of ho hd big ?_)
    dsimp only
    refine wp_if_neg (by unfold SetTable.gaveWay; rw [oddM]; decide) ?_
    try refine wpAny_bind (wpAny_pure ?_)
    have jAt : ∀ q, (nth t.mask (st t.mask g c) q).j = way t.mask g (c + q) := fun q => congrArg SetTable.Probe.j (st_more t.mask g c q)
    rcases go_spec t R.tab.ris R.tab.dm (fun i => (es[i]?.map (·.1)).getD 0) g (10 * SetTable.turns t.mask) (K - c) (st t.mask g c) (st_dummy _ _ _) (by omega)
      (fun q hq => by rw [jAt]; exact full (c + q) (by omega)) (by rw [jAt, show c + (K - c) = K by omega]; exact free) with ⟨q, i, hq, hi, hh, first, met⟩ | ⟨none_, met⟩
    · -- an entry of this hash
      have met' : t.probe (fun i => (es[i]?.map (·.1)).getD 0) g (stand.getD (t.probeStart g)) = some (.candidate (way t.mask g (c + q)) i (st t.mask g (c + (q + 1)))) := by
        rw [hst, ← jAt, ← st_more]
        exact met
      rw [met']
      dsimp only
      rw [jAt] at hi
      have il : i < L.length := by
        have z1 : i < t.place.toList.length := (List.getElem?_eq_some_iff.mp hi).1
        have z2 := R.tab.sz
        rw [hashes_len] at z2
        rw [Array.length_toList] at z1
        omega
      obtain ⟨p, hp⟩ : ∃ p, L[i]? = some p := ⟨L[i], List.getElem?_eq_getElem il⟩
      have pm : p ∈ L := List.mem_of_getElem? hp
      have pk := R.ks p pm
      have go : wpAny (model P w) A (searchRest a (.ref x) g true f es t (way t.mask g (c + q)) i (st t.mask g (c + (q + 1)))) Q E s := by
        unfold searchRest
        rw [R.at hp]
        dsimp only
        refine wpAny_bind (wpAny_holding ((nestedKind P w).eqBool (x := p.2) (y := k) hu pk hx ?_))
        refine wpAny_bind (wpAny_setState_of ho hd big ?_)
        dsimp only
        by_cases same : p.2 = k
        · refine wp_if_pos (by simp [same]) (wpAny_pure (yes ?_))
          exact List.mem_map.mpr ⟨p, pm, same⟩
        · refine wp_if_neg (by simp [same]) ?_
          try refine wpAny_bind (wpAny_pure ?_)
          rw [sameMem]
          dsimp only
          have live : t.slot (way t.mask g (c + q)) = .live i := slot_live R.tab.ris hi
          simp only [if_true, live, R.at hp]
          refine wpAny_bind (wpAny_isSame_ref_self (wpAny_bind (wpAny_pure ?_)))
          simp only [if_true]
          refine wp_if_neg (by simp [same]) ?_
          refine hunt R hx hu hg hf free full yes no f (c + (q + 1)) _ rfl (by omega) (by omega) fun i0 p0 h0 k0 => ?_
          obtain ⟨c', b1, b2, b3⟩ := ahead i0 p0 h0 k0
          refine ⟨c', ?_, b2, b3⟩
          by_cases ec : c' = c + q
          · exfalso
            rw [ec] at b3
            have l0 := slot_live R.tab.ris b3
            rw [live] at l0
            injection l0 with l0
            rw [← l0, hp] at h0
            exact same ((congrArg Prod.snd (Option.some.inj h0)).trans k0)
          · by_cases lt : c' < c + q
            · exfalso
              refine first (c' - c) i0 (by omega) (by rw [jAt, show c + (c' - c) = c' by omega]; exact b3) ?_
              show (es[i0]?.map (·.1)).getD 0 = g
              rw [hashOf i0 p0 h0, k0, hg]
            · omega
      by_cases hl : t.led = true
      · refine wp_if_neg (by simp [hl]) ?_
        try refine wpAny_bind (wpAny_pure ?_)
        exact go
      · refine wp_if_pos (by simp [hl]) (wpAny_bind (unseen hx (fun y hy => ?_) ?_))
        · obtain ⟨e, he, ee⟩ := List.mem_map.mp hy
          have he1 : e ∈ es ∧ e.1 = g := by simpa using he
          have he2 : e ∈ es.toList := by simpa using he1.1
          rw [R.en] at he2
          obtain ⟨p2, hp2, e2⟩ := List.mem_map.mp he2
          exact ⟨p2.2, p2.1, by rw [← ee, ← e2], R.ks p2 hp2⟩
        · refine wp_if_neg (by decide) ?_
          try refine wpAny_bind (wpAny_pure ?_)
          exact go
    · -- a free slot
      have met' : t.probe (fun i => (es[i]?.map (·.1)).getD 0) g (stand.getD (t.probeStart g)) = some (.empty (way t.mask g K) none) := by
        have e2 : way t.mask g K = (nth t.mask (st t.mask g c) (K - c)).j := by
          rw [jAt, show c + (K - c) = K by omega]
        rw [hst, e2]
        exact met
      rw [met']
      dsimp only
      refine wpAny_pure (no fun hm => ?_)
      obtain ⟨p0, m0, k0⟩ := List.mem_map.mp hm
      obtain ⟨i0, hi0, e0⟩ := List.getElem_of_mem m0
      have h0 : L[i0]? = some p0 := by rw [List.getElem?_eq_getElem hi0, e0]
      obtain ⟨c', b1, b2, b3⟩ := ahead i0 p0 h0 k0
      refine none_ (c' - c) i0 (by omega) (by rw [jAt, show c + (c' - c) = c' by omega]; exact b3) ?_
      show (es[i0]?.map (·.1)).getD 0 = g
      rw [hashOf i0 p0 h0, k0, hg]
theorem hunted (R : TSet P w s.heap a L es ep t) {x : Addr} {k : NK} (hx : TupK s.heap k x) (hu : A.units + 8 < cLine) {Q : SetFound → Shared → Prop} (yes : k ∈ L.map (·.2) → Q (.there none) s)
    (no : ∀ K, k ∉ L.map (·.2) → way t.mask (k.hash w) K ∉ t.place.toList → (∀ c, c < K → way t.mask (k.hash w) c ∈ t.place.toList) → Q (.free (way t.mask (k.hash w) K) false) s) :
    wpAny (model P w) A (setSearch a (.ref x) (k.hash w) true) Q E s := by
  have space := R.room
  obtain ⟨K, kf, free, full⟩ := R.tab.first (by rw [hashes_len]; omega) (k.hash w)
  have small : K < 100000 := by
    have : 10 * SetTable.turns t.mask ≤ 1420 := by
      unfold SetTable.turns
      rcases R.tab.mok with e | e | e <;> omega
    omega
  unfold setSearch
  refine hunt R hx hu rfl kf free full yes (fun hn => no K hn free full) 100000 0 none rfl (Nat.zero_le _) (by omega) fun i p hp hk => ?_
  have hi : (hashes w L)[i]? = some (k.hash w) := by
    unfold hashes
    rw [List.getElem?_map, hp, ← hk]
    rfl
  have il : i < t.place.toList.length := by
    have z1 : i < L.length := (List.getElem?_eq_some_iff.mp hp).1
    have z2 := R.tab.sz
    rw [hashes_len] at z2
    rw [Array.length_toList]
    omega
  have hj := List.getElem?_eq_getElem il
  obtain ⟨c, hc, e⟩ := R.tab.before free hi hj
  exact ⟨c, Nat.zero_le _, hc, by rw [hj, e]⟩
end
/-! ### one put in -/
theorem relist {w : World} (L : List (Addr × NK)) (es : Array (Int × Value)) (order : Array Nat) (he : es.toList = ents w L) (hp : order.toList.Perm (List.range L.length)) :
    ∃ L2, (order.filterMap (es[·]?)).toList = ents w L2 ∧ L2.Perm L ∧ hashes w L2 = order.toList.map fun i => (es.map (·.1)).getD i 0 := by
  have one : ∀ i (h : i < L.length), es[i]? = some ((L[i]).2.hash w, Value.ref (L[i]).1) := fun i h => by
    rw [← Array.getElem?_toList, he]
    unfold ents
    rw [List.getElem?_map, List.getElem?_eq_getElem h]
    rfl
  have all : ∀ l : List Nat, (∀ i ∈ l, i < L.length) → l.filterMap (fun i => es[i]?) = ents w (l.filterMap fun i => L[i]?) ∧ hashes w (l.filterMap fun i => L[i]?) = l.map fun i => (es.map (·.1)).getD i 0 := by
    intro l
    induction l with
    | nil => exact fun _ => ⟨rfl, rfl⟩
    | cons i l ih =>
      intro hl
      have hi := hl i List.mem_cons_self
      obtain ⟨e1, e2⟩ := ih fun j hj => hl j (List.mem_cons_of_mem _ hj)
      rw [List.filterMap_cons_some (List.getElem?_eq_getElem hi), List.filterMap_cons_some (one i hi), e1, List.map_cons, ← e2]
      refine ⟨rfl, ?_⟩
      have e5 : (es.map (·.1))[i]? = some ((L[i]).2.hash w) := by
        rw [Array.getElem?_map, one i hi]
        rfl
      have e4 : (es.map (·.1)).getD i 0 = (L[i]).2.hash w := by simp [Array.getD_eq_getD_getElem?, e5]
      rw [e4]
      rfl
  obtain ⟨e1, e2⟩ := all order.toList fun i hi => List.mem_range.mp (hp.mem_iff.mp hi)
  refine ⟨order.toList.filterMap fun i => L[i]?, by first | (rw [Array.toList_filterMap]; exact e1) | simpa using e1, ?_, e2⟩
  have z := hp.filterMap fun i => L[i]?
  rw [List.filterMap_getElem?_range_length] at z
  exact z
theorem TabOk.unplain {t : SetTable} {hs : List Int} (T : TabOk t hs) : TabOk { t with plain := false } hs := ⟨T.ris, T.dm, T.sz, T.mok, T.bd, T.reach⟩
section
variable {P : Program} {w : World} {A : Around} {E : Value → Shared → Prop} {s : Shared} {a : Addr} {L : List (Addr × NK)} {es : Array (Int × Value)} {ep : Nat} {t : SetTable}
theorem relaid_at {o : Obj} (ho : s.heap.get? a = some o) (hex : o.ExactSet) (hd : o.data = .set es ep t) (en : es.toList = ents w L) (tab : TabOk t (hashes w L)) (hfl : L.length ≤ t.mask)
    (nd : (L.map (·.2)).Nodup) (ks : ∀ p ∈ L, TupK s.heap p.2 p.1) (ld : w.params.followText "set-order" = true ∨ t.led = true) (few : L.length < 64) {wanted M : Nat}
    (hw : SetTable.sizeAbove wanted - 1 = M) (hM : MaskOk M) (hw2 : SetTable.sizeAbove wanted ≤ 128) (hn : L.length * 5 < M * 3) {Q : Unit → Shared → Prop}
    (hQ : ∀ h' L' es' ep' t', Heap.SameBut a s.heap h' → TSet P w h' a L' es' ep' t' → L'.Perm L → Q () { s with heap := h' }) : wpAny (model P w) A (setRelay a wanted) Q E s := by
  have hsl := size_of_ents en
  have hps : t.place.size = es.size := by rw [tab.sz, hashes_len, hsl]
  have fits : t.fits es.size = true := by
    unfold SetTable.fits SetTable.fill
    rw [tab.dm, Bool.and_eq_true, beq_iff_eq, decide_eq_true_eq]
    refine ⟨hps, ?_⟩
    show t.place.size + 0 ≤ t.mask
    omega
  obtain ⟨t', order, e, hp, T, em, el, _, _⟩ := relaid_ok t (hs := es.map (·.1)) (wanted := wanted) hw hM (by rw [Array.size_map, hsl]; omega)
  rw [Array.size_map, hsl] at hp
  obtain ⟨L2, r1, r2, r3⟩ := relist L es order en hp
  rw [← r3] at T
  have hs2 : (order.filterMap (es[·]?)).size = es.size := by rw [size_of_ents r1, r2.length_eq, hsl]
  rw [setRelay_eq]
  refine wpAny_bind (wpAny_setState_of ho hd fits ?_)
  dsimp only
  refine wp_if_neg (by rw [sizeLine_eq]; omega) ?_
  try refine wpAny_bind (wpAny_pure ?_)
  rw [e]
  dsimp only
  refine wpAny_bind (wp_if_neg (by rw [hs2]; simp) ?_)
  try refine wpAny_bind (wpAny_pure ?_)
  refine wpAny_pure ?_
  dsimp only
  refine wpAny_storeSet_of ho hd ?_ (by rw [hs2, hsl, sizeLine_eq]; omega)
  have sb : Heap.SameBut a s.heap (s.heap.update a (Obj.putSet (order.filterMap (es[·]?)) t')) := Heap.SameBut.update ..
  refine hQ _ L2 (order.filterMap (es[·]?)) (ep + 1) t' sb ⟨⟨_, store_at ho hd, ⟨hex.1, hex.2.1, hex.2.2⟩, rfl⟩, r1, T, (r2.map (·.2)).nodup_iff.mpr nd, fun p hpm => (ks p (r2.mem_iff.mp hpm)).butSet ho hd sb, by rw [el]; exact ld, ?_, by rw [r2.length_eq]; exact few⟩ r2
  rw [r2.length_eq, em]
  exact hn
/-- adding -/
theorem added (R : TSet P w s.heap a L es ep t) {x : Addr} {k : NK} (hx : TupK s.heap k x) (hu : A.units + 8 < cLine) (hfew : L.length + 1 < 64) {Q : Bool → Shared → Prop}
    (hQ : ∀ b h' L' es' ep' t', Heap.SameBut a s.heap h' → TSet P w h' a L' es' ep' t' → (k ∈ L.map (·.2) → L' = L) → (k ∉ L.map (·.2) → L'.Perm ((x, k) :: L)) → Q b { s with heap := h' }) :
    wpAny (model P w) A (setAddHashed a (.ref x) (k.hash w)) Q E s := by
  obtain ⟨o, ho, hex, hd⟩ := R.ob
  have hsl := size_of_ents R.en
  have hroom := R.room
  unfold setAddHashed
  refine wpAny_holding ?_
  rw [show (100000 : Nat) = 99999 + 1 from rfl, setAddHashedIn_succ]
  refine wpAny_bind (wpAny_setState_of ho hd R.fits ?_)
  dsimp only
  refine wp_if_neg (by simp [byScan, Value.scannable]) ?_
  try refine wpAny_bind (wpAny_pure ?_)
  refine wpAny_bind (hunted R hx hu (fun hm => ?_) fun K hm hK hb => ?_)
  · dsimp only
    exact wpAny_pure (hQ false s.heap L es ep t (Heap.SameBut.refl a s.heap) R (fun _ => rfl) fun z => absurd hm z)
  · dsimp only
    refine wpAny_bind (wpAny_setState_of ho hd R.fits ?_)
    dsimp only
    obtain ⟨q1, q2, q3, q4, q5, _, _, _, q9⟩ := R.tab.put hK hb
    generalize hpt : t.put (way t.mask (k.hash w) K) = pt at q1 q3 q4 q5 q9 ⊢
    obtain ⟨t1, p⟩ := pt
    dsimp only at q1 q3 q4 q5 q9 ⊢
    subst q1
    generalize hpp : SetTable.below t.place (way t.mask (k.hash w) K) = p at q2 q3 ⊢
    have hin : (SetTable.insertAt es p (k.hash w, Value.ref x)).toList = ents w (L.take p ++ (x, k) :: L.drop p) := by
      rw [SetTable.toList_insertAt, R.en]
      unfold ents
      rw [List.map_append, List.map_cons, List.map_take, List.map_drop]
    have pm := put_perm L p (x, k)
    have hlen : (L.take p ++ (x, k) :: L.drop p).length = L.length + 1 := pm.length_eq
    have hhs : hashes w (L.take p ++ (x, k) :: L.drop p) = (hashes w L).take p ++ k.hash w :: (hashes w L).drop p := by
      unfold hashes
      rw [List.map_append, List.map_cons, List.map_take, List.map_drop]
    rw [← hhs] at q3
    have nd1 : ((L.take p ++ (x, k) :: L.drop p).map (·.2)).Nodup := by
      refine (pm.map (·.2)).nodup_iff.mpr ?_
      rw [List.map_cons]
      exact List.nodup_cons.mpr ⟨hm, R.nd⟩
    have hes : (SetTable.insertAt es p (k.hash w, Value.ref x)).size = L.length + 1 := by rw [size_of_ents hin, hlen]
    generalize SetTable.insertAt es p (k.hash w, Value.ref x) = es1 at hin hes ⊢
    generalize L.take p ++ (x, k) :: L.drop p = L1 at pm hlen q3 nd1 hin
    have ld1 : w.params.followText "set-order" = true ∨ t1.led = true := by rw [q5]; exact R.led
    -- behind the question whether the hash is by value: t2 is t1, but for one mark
    have rest : ∀ t2 : SetTable, TabOk t2 (hashes w L1) → t2.mask = t.mask → t2.fill = L.length + 1 → (w.params.followText "set-order" = true ∨ t2.led = true) →
        wpAny (model P w) A (do
          storeSet a es1 t2
          if (!false && t2.tooFull) = true then do
              setRelay a (SetTable.grown (es.size + 1))
              pure true
            else pure true) Q E s := by
      intro t2 T2 m2 f2 l2
      refine wpAny_bind (wpAny_storeSet_of ho hd ?_ (by rw [hes, sizeLine_eq]; omega))
      have sb : Heap.SameBut a s.heap (s.heap.update a (Obj.putSet es1 t2)) := Heap.SameBut.update ..
      have ho1 := store_at (es' := es1) (t' := t2) ho hd
      generalize s.heap.update a (Obj.putSet es1 t2) = h1 at sb ho1 ⊢
      have ks1 : ∀ p ∈ L1, TupK h1 p.2 p.1 := fun p hp => by
        rcases List.mem_cons.mp (pm.mem_iff.mp hp) with e | hp
        · rw [e]
          exact hx.butSet ho hd sb
        · exact (R.ks p hp).butSet ho hd sb
      by_cases hf : t2.tooFull = true
      · refine wp_if_pos (by simp [hf]) ?_
        have hfull : (L.length + 1) * 5 ≥ t2.mask * 3 := by
          have h := hf
          unfold SetTable.tooFull at h
          rw [decide_eq_true_eq, f2] at h
          exact h
        rw [hsl]
        have two : (t.mask = 7 ∧ L.length = 4) ∨ (t.mask = 31 ∧ L.length = 18) := by
          rcases R.tab.mok with e | e | e
          · left; rw [m2, e] at hfull; rw [e] at hroom; exact ⟨e, by omega⟩
          · right; rw [m2, e] at hfull; rw [e] at hroom; exact ⟨e, by omega⟩
          · exfalso; rw [m2, e] at hfull; omega
        have go : ∀ M, SetTable.sizeAbove (SetTable.grown (L.length + 1)) - 1 = M → MaskOk M → SetTable.sizeAbove (SetTable.grown (L.length + 1)) ≤ 128 → (L.length + 1) * 5 < M * 3 →
            wpAny (model P w) A (do setRelay a (SetTable.grown (L.length + 1)); pure true) Q E { s with heap := h1 } := fun M e1 e2 e3 e4 => by
          refine wpAny_bind (relaid_at (s := { s with heap := h1 }) ho1 ⟨hex.1, hex.2.1, hex.2.2⟩ rfl hin T2 (by rw [hlen, m2]; rcases two with ⟨e, e'⟩ | ⟨e, e'⟩ <;> omega) nd1 ks1 l2 (by rw [hlen]; exact hfew) e1 e2 e3 (by rw [hlen]; exact e4) ?_)
          intro h2 L2 es2 ep2 t2 sb2 R2 pm2
          exact wpAny_pure (hQ true h2 L2 es2 ep2 t2 (sb.trans sb2) R2 (fun z => absurd z hm) fun _ => pm2.trans pm)
        rcases two with ⟨_, e2⟩ | ⟨_, e2⟩
        · exact go 31 (by rw [e2, size_20]) (.inr (.inl rfl)) (by rw [e2, size_20]; decide) (by omega)
        · exact go 127 (by rw [e2, size_76]) (.inr (.inr rfl)) (by rw [e2, size_76]; decide) (by omega)
      · refine wp_if_neg (by simp [hf]) ?_
        refine wpAny_pure (hQ true h1 L1 es1 (ep + 1) t2 sb ⟨⟨_, ho1, ⟨hex.1, hex.2.1, hex.2.2⟩, rfl⟩, hin, T2, nd1, ks1, l2, ?_, by rw [hlen]; exact hfew⟩ (fun z => absurd z hm) fun _ => pm)
        have h := hf
        unfold SetTable.tooFull at h
        rw [decide_eq_true_eq, f2] at h
        rw [hlen]
        omega
    have f1 : t1.fill = L.length + 1 := by rw [q9, hashes_len]
    have close : ∀ b : Bool, wpAny (model P w) A (do
          storeSet a es1 (if b = true then t1 else { t1 with plain := false })
          if (!false && (if b = true then t1 else { t1 with plain := false }).tooFull) = true then do
              setRelay a (SetTable.grown (es.size + 1))
              pure true
            else pure true) Q E s := fun b => by
      cases b with
      | true => exact rest t1 q3 q4 f1 ld1
      | false => exact rest { t1 with plain := false } (TabOk.unplain q3) q4 f1 ld1
    by_cases hpl : t1.plain = true
    · first
        | exact wpAny_bind (wp_if_pos hpl (byVal k _ 8 _ _ _ _ hx.1 fun b => close b))
        | exact wp_if_pos hpl (wpAny_bind (byVal k _ 8 _ _ _ _ hx.1 fun b => close b))
    · first
        | exact wpAny_bind (wp_if_neg hpl (wpAny_pure (close true)))
        | exact wp_if_neg hpl (wpAny_bind (wpAny_pure (close true)))
end
end Rw
namespace Rw
open PySem PySem.Spec PyProof.Rows L2
/-! ### set(xs): filled item by item -/
/-- a new set -/
abbrev newSetObj (w : World) : Obj := { cls := .type "set", dict := none, data := .set #[] 0 (.fresh 0 0 (!w.params.followText "set-order")) }
/-- G i: the set at S has got the first i items -/
structure Fill (P : Program) (w : World) (S : Addr) (h0 : Heap) (items : List Value) (G : Nat → Heap → Prop) : Prop where
  start : ∀ h, h.get? S = some (newSetObj w) → G 0 h
  keep : ∀ i h h', G i h → (∀ o, h.get? S = some o → h'.get? S = some o) → (∀ b o, h0.get? b = some o → h'.get? b = some o) → G i h'
  put : ∀ i v (A : Around) (E : Value → Shared → Prop) (s : Shared) (Q : Bool → Shared → Prop), A.units + 8 < cLine → items[i]? = some v → G i s.heap → (∀ b o, h0.get? b = some o → s.heap.get? b = some o) →
    (∀ b h' tk, s.toks ≤ tk → Heap.SameBut S s.heap h' → G (i + 1) h' → Q b { s with heap := h', toks := tk }) → wpAny (model P w) A (setAdd S v) Q E s
section
variable {P : Program} {w : World} {A : Around} {E : Value → Shared → Prop} {s : Shared}
theorem fill_loop {I : Addr} {fp wr : List Addr} {GG : Array GenState → Array GenState → Prop} {n : Nat} {Pv : Nat → Value → Prop} {St : Nat → Shared → Prop} {R : Result → Shared → Prop} {S : Addr} {h0 : Heap} {items : List Value} {G : Nat → Heap → Prop}
    (W : WalksS P w A.in1 I fp wr GG n Pv St) (hSf : S ∉ fp) (T : Fill P w S h0 items G) (hval : ∀ i v, Pv i v → items[i]? = some v) (hS0 : h0.get? S = none) (hw0 : ∀ b ∈ wr, h0.get? b = none) (hu : A.in1.units + 8 < cLine) :
    ∀ (k i : Nat) (s : Shared), n - i = k → i ≤ n → St i s → (∀ b o, h0.get? b = some o → s.heap.get? b = some o) → G i s.heap →
      (∀ s', Moved (S :: wr) GG s s' → G n s'.heap → (∀ b o, h0.get? b = some o → s'.heap.get? b = some o) → R (.ok (.ret .none)) s') →
      codeAny (model P w) A (.builtin "set.update.loop" ⟨[.ref S, .ref I], []⟩) R s := by
  have hSw : S ∉ wr := fun h => hSf (W.sub _ h)
  have wider : ∀ b ∈ wr, b ∈ S :: wr := fun b hb => List.mem_cons_of_mem _ hb
  have old : ∀ {s s' : Shared}, Moved wr GG s s' → (∀ b o, h0.get? b = some o → s.heap.get? b = some o) → ∀ b o, h0.get? b = some o → s'.heap.get? b = some o := fun hm hkp b o e =>
    hm.heap b o (fun hb => by rw [hw0 b hb] at e; cases e) (hkp b o e)
  intro k
  induction k with
  | zero =>
    intro i s hk' hi hst hkp g hR
    have hin : i = n := by omega
    subst hin
    refine codeAny_builtin F.entry_set_update_loop ?_
    rw [Around.under_plainId F.plain_set_update_loop _]
    show wpAny _ A.in1 (pyNext (.ref I) >>= _) _ _ s
    refine wpAny_bind (W.done s _ _ hst fun s' hm => ?_)
    show wpAny _ A.in1 (ret Value.none) _ _ s'
    exact wpAny_pure (hR s' (hm.mono wider) (T.keep _ _ _ g (fun o e => hm.heap S o hSw e) (old hm hkp)) (old hm hkp))
  | succ k ih =>
    intro i s hk' hi hst hkp g hR
    have hlt : i < n := by omega
    refine codeAny_builtin F.entry_set_update_loop ?_
    rw [Around.under_plainId F.plain_set_update_loop _]
    show wpAny _ A.in1 (pyNext (.ref I) >>= _) _ _ s
    refine wpAny_bind (W.item i s _ _ hlt hst fun v s' hP hst' hm => ?_)
    have hkp' := old hm hkp
    show wpAny _ A.in1 (holding [v] (setAdd S v) >>= _) _ _ s'
    refine wpAny_bind (wpAny_holding (T.put i v A.in1 _ s' _ hu (hval i v hP) (T.keep _ _ _ g (fun o e => hm.heap S o hSw e) hkp') hkp' fun b h' tk htk hsb g' => ?_))
    have hkp2 : ∀ b o, h0.get? b = some o → h'.get? b = some o := fun b o e => (hsb.2 b (fun z => by rw [z, hS0] at e; cases e)).trans (hkp' b o e)
    refine wpAny_pure ⟨plainId_quiet F.plain_set_update_loop _, ih (i + 1) _ (by omega) hlt (W.frame _ s' _ _ hst' htk fun b hb o e => ?_) hkp2 g' fun s'' hm'' g'' hkp'' => ?_⟩
    · rw [hsb.2 b (fun h : b = S => hSf (by rw [← h]; exact hb))]
      exact e
    · refine hR s'' (Moved.trans W.gtrans ((hm.mono wider).then_heap htk fun b o hb e => ?_) hm'') g'' hkp''
      rw [hsb.2 b (fun h : b = S => hb (by rw [h]; exact List.mem_cons_self))]
      exact e
theorem call_fill_list {l : Addr} {items : Array Value} {G : Nat → Heap → Prop} {Q : Value → Shared → Prop} (hh : A.handled = none) (hl : s.heap.IsList l items) (T : Fill P w s.heap.objs.size s.heap items.toList G) (hu : A.units + 16 < cLine)
    (h : ∀ (h' : Heap) (tk : Nat), G items.size h' → (∀ b o, s.heap.get? b = some o → h'.get? b = some o) → Q (.ref s.heap.objs.size) { s with heap := h', toks := tk }) :
    wpAny (model P w) A (call (.type "set") [.ref l]) Q E s := by
  obtain ⟨c, tl, hmro⟩ := F.called_set.mro
  have hmade := F.called_set.made
  have hsub := F.called_set.sub
  refine wpAny_call (codeAny_of_tree ?_)
  show wpAny _ _ (callAny (.type "set") _) _ _ _
  refine wpAny_pure ⟨Code.quiet_builtin _ (by decide +kernel), codeAny_builtin F.entry_type_call ?_⟩
  rw [Around.under_plain (weight_type_call_type "set" [.ref l] []) rfl]
  have f1 := F.called_set.notType
  have f2 := F.called_set.canCreate
  have f3 := F.typeCall_set_1 (.ref l)
  repeat (any_goals (first | assumption | wp_step))
  refine codeAny_mono (code_set_led1 (.ref l) (E := E) (Q₁ := fun obj s₁ => obj = .ref s.heap.objs.size ∧ s₁ = { s with heap := s.heap.push (newSetObj w) }) ⟨rfl, rfl⟩) fun r s₁ hr => ?_
  cases r with
  | error e => exact hr
  | ok fl =>
    cases fl with
    | ret obj =>
      obtain ⟨rfl, rfl⟩ := hr
      have hS : (s.heap.push (newSetObj w)).get? s.heap.objs.size = some (newSetObj w) := Heap.get?_push_size _ rfl
      have hT : Shared.TypeIs { s with heap := s.heap.push (newSetObj w) } (.ref s.heap.objs.size) "set" := ⟨_, hS, rfl⟩
      have f4 := F.called_set.init.lookup
      have f5 := F.called_set.init.bind (.ref s.heap.objs.size)
      repeat (any_goals (first | assumption | wp_step))
      refine codeAny_mono (codeAny_call_builtin (R := wants (fun r s₂ => r = .none ∧ ∃ h' tk, s₂ = { s with heap := h', toks := tk } ∧ G items.size h' ∧ (∀ b o, s.heap.get? b = some o → h'.get? b = some o)) E) F.called_set.init.plain F.entry_set_init (check_set_init_1 hT ?_)) fun r₂ s₂ hr₂ => ?_
      · obtain ⟨ol, hol, hcl, nl, hdl⟩ := hl
        obtain ⟨ocls, odict, odata, oslots⟩ := ol
        simp only at hcl hdl
        subst hcl; subst hdl
        have hol' : (s.heap.push (newSetObj w)).get? l = some { cls := .type "list", dict := odict, data := .seq items nl, slots := oslots } := Heap.get?_push_of_some _ hol
        have f6 := F.sub_list_set
        have f7 := F.sub_list_frozenset
        have f8 : (Value.type "list" == Value.type "dict") = false := by decide
        have hl1 : (s.heap.push (newSetObj w)).IsList l items := ⟨_, hol', rfl, nl, rfl⟩
        unfold Builtin.«set.__init__» noKeywords Builtin.Frozenset.updateFrom
        generalize hPI : pyIter = PI
        wp_walk
        subst hPI
        refine wpAny_pyIter_list hl1 ?_
        refine wpAny_bind (wpAny_runValue ?_)
        have hlS : l < s.heap.objs.size := Heap.lt_size hol
        have hh3 : A.in1.in1.in1.handled = none := by simp [hh]
        have hz1 : (s.heap.push (newSetObj w)).objs.size = s.heap.objs.size + 1 := Heap.size_push ..
        have hneI : l ≠ (s.heap.push (newSetObj w)).objs.size := by
          rw [Heap.size_push]
          exact Nat.ne_of_lt (Nat.lt_succ_of_lt hlS)
        have hSf : s.heap.objs.size ∉ [(s.heap.push (newSetObj w)).objs.size, l] := by
          rw [Heap.size_push]
          simp only [List.mem_cons, List.mem_singleton, List.not_mem_nil, or_false, not_or]
          exact ⟨Nat.ne_of_lt (Nat.lt_succ_self _), Nat.ne_of_gt hlS⟩
        have none_of : ∀ b, s.heap.objs.size ≤ b → s.heap.get? b = none := fun b hb => by
          cases q : s.heap.get? b with
          | none => rfl
          | some o => exact absurd (Nat.lt_of_lt_of_le (Heap.lt_size q) hb) (Nat.lt_irrefl _)
        refine fill_loop ((Walks.list hh3 _ l hneI items).toS) hSf T (fun i v hv => by rw [Array.getElem?_toList]; exact hv) (none_of _ (Nat.le_refl _)) (fun b hb => none_of b (by
            rw [List.mem_singleton.mp hb, Heap.size_push]
            exact Nat.le_succ _)) (by simp only [Around.in1_units]; omega) (items.size - 0) 0 _ (by omega) (Nat.zero_le _)
          ⟨⟨_, Heap.get?_push_size _ rfl, rfl, rfl⟩, (hl1.push _)⟩ (fun b o e => Heap.get?_push_of_some _ (Heap.get?_push_of_some _ e)) (T.start _ (Heap.get?_push_of_some _ hS)) ?hR
        intro s' hm g' hkp
        obtain ⟨h', g2, d', tk', os'⟩ := s'
        have eg : g2 = s.gens := hm.gens
        have ed : d' = s.drawn := hm.drawn
        have eo : os' = s.os := hm.os
        subst eg; subst ed; subst eo
        show wpAny _ _ _ _ _ _
        refine wpAny_pure ?_
        show wpAny _ _ (ret Value.none) _ _ _
        exact wpAny_pure ⟨rfl, h', tk', rfl, g', hkp⟩
      · cases r₂ with
        | error e => exact hr₂
        | ok fl₂ =>
          cases fl₂ with
          | ret r =>
            obtain ⟨rfl, h', tk, rfl, g', hk'⟩ := hr₂
            repeat (any_goals (first | assumption | wp_step))
            exact h _ _ g' hk'
          | _ => exact hr₂.elim
    | _ => exact hr.elim
theorem call_fill_tuple {l : Addr} {items : Array Value} {G : Nat → Heap → Prop} {Q : Value → Shared → Prop} (hh : A.handled = none) (hl : s.heap.IsTuple l items) (T : Fill P w s.heap.objs.size s.heap items.toList G) (hu : A.units + 16 < cLine)
    (h : ∀ (h' : Heap) (tk : Nat), G items.size h' → (∀ b o, s.heap.get? b = some o → h'.get? b = some o) → Q (.ref s.heap.objs.size) { s with heap := h', toks := tk }) :
    wpAny (model P w) A (call (.type "set") [.ref l]) Q E s := by
  obtain ⟨c, tl, hmro⟩ := F.called_set.mro
  have hmade := F.called_set.made
  have hsub := F.called_set.sub
  refine wpAny_call (codeAny_of_tree ?_)
  show wpAny _ _ (callAny (.type "set") _) _ _ _
  refine wpAny_pure ⟨Code.quiet_builtin _ (by decide +kernel), codeAny_builtin F.entry_type_call ?_⟩
  rw [Around.under_plain (weight_type_call_type "set" [.ref l] []) rfl]
  have f1 := F.called_set.notType
  have f2 := F.called_set.canCreate
  have f3 := F.typeCall_set_1 (.ref l)
  repeat (any_goals (first | assumption | wp_step))
  refine codeAny_mono (code_set_led1 (.ref l) (E := E) (Q₁ := fun obj s₁ => obj = .ref s.heap.objs.size ∧ s₁ = { s with heap := s.heap.push (newSetObj w) }) ⟨rfl, rfl⟩) fun r s₁ hr => ?_
  cases r with
  | error e => exact hr
  | ok fl =>
    cases fl with
    | ret obj =>
      obtain ⟨rfl, rfl⟩ := hr
      have hS : (s.heap.push (newSetObj w)).get? s.heap.objs.size = some (newSetObj w) := Heap.get?_push_size _ rfl
      have hT : Shared.TypeIs { s with heap := s.heap.push (newSetObj w) } (.ref s.heap.objs.size) "set" := ⟨_, hS, rfl⟩
      have f4 := F.called_set.init.lookup
      have f5 := F.called_set.init.bind (.ref s.heap.objs.size)
      repeat (any_goals (first | assumption | wp_step))
      refine codeAny_mono (codeAny_call_builtin (R := wants (fun r s₂ => r = .none ∧ ∃ h' tk, s₂ = { s with heap := h', toks := tk } ∧ G items.size h' ∧ (∀ b o, s.heap.get? b = some o → h'.get? b = some o)) E) F.called_set.init.plain F.entry_set_init (check_set_init_1 hT ?_)) fun r₂ s₂ hr₂ => ?_
      · obtain ⟨ol, hol, hcl, nl, hdl⟩ := hl
        obtain ⟨ocls, odict, odata, oslots⟩ := ol
        simp only at hcl hdl
        subst hcl; subst hdl
        have hol' : (s.heap.push (newSetObj w)).get? l = some { cls := .type "tuple", dict := odict, data := .seq items nl, slots := oslots } := Heap.get?_push_of_some _ hol
        have f6 := F.sub_tuple_set
        have f7 := F.sub_tuple_frozenset
        have f8 : (Value.type "tuple" == Value.type "dict") = false := by decide
        have hl1 : (s.heap.push (newSetObj w)).IsTuple l items := ⟨_, hol', rfl, nl, rfl⟩
        unfold Builtin.«set.__init__» noKeywords Builtin.Frozenset.updateFrom
        generalize hPI : pyIter = PI
        wp_walk
        subst hPI
        refine wpAny_pyIter_tuple hl1 ?_
        refine wpAny_bind (wpAny_runValue ?_)
        have hlS : l < s.heap.objs.size := Heap.lt_size hol
        have hh3 : A.in1.in1.in1.handled = none := by simp [hh]
        have hz1 : (s.heap.push (newSetObj w)).objs.size = s.heap.objs.size + 1 := Heap.size_push ..
        have hneI : l ≠ (s.heap.push (newSetObj w)).objs.size := by
          rw [Heap.size_push]
          exact Nat.ne_of_lt (Nat.lt_succ_of_lt hlS)
        have hSf : s.heap.objs.size ∉ [(s.heap.push (newSetObj w)).objs.size, l] := by
          rw [Heap.size_push]
          simp only [List.mem_cons, List.mem_singleton, List.not_mem_nil, or_false, not_or]
          exact ⟨Nat.ne_of_lt (Nat.lt_succ_self _), Nat.ne_of_gt hlS⟩
        have none_of : ∀ b, s.heap.objs.size ≤ b → s.heap.get? b = none := fun b hb => by
          cases q : s.heap.get? b with
          | none => rfl
          | some o => exact absurd (Nat.lt_of_lt_of_le (Heap.lt_size q) hb) (Nat.lt_irrefl _)
        refine fill_loop ((Walks.tuple hh3 _ l hneI items).toS) hSf T (fun i v hv => by rw [Array.getElem?_toList]; exact hv) (none_of _ (Nat.le_refl _)) (fun b hb => none_of b (by
            rw [List.mem_singleton.mp hb, Heap.size_push]
            exact Nat.le_succ _)) (by simp only [Around.in1_units]; omega) (items.size - 0) 0 _ (by omega) (Nat.zero_le _)
          ⟨⟨_, Heap.get?_push_size _ rfl, rfl, rfl⟩, (hl1.push _)⟩ (fun b o e => Heap.get?_push_of_some _ (Heap.get?_push_of_some _ e)) (T.start _ (Heap.get?_push_of_some _ hS)) ?hR
        intro s' hm g' hkp
        obtain ⟨h', g2, d', tk', os'⟩ := s'
        have eg : g2 = s.gens := hm.gens
        have ed : d' = s.drawn := hm.drawn
        have eo : os' = s.os := hm.os
        subst eg; subst ed; subst eo
        show wpAny _ _ _ _ _ _
        refine wpAny_pure ?_
        show wpAny _ _ (ret Value.none) _ _ _
        exact wpAny_pure ⟨rfl, h', tk', rfl, g', hkp⟩
      · cases r₂ with
        | error e => exact hr₂
        | ok fl₂ =>
          cases fl₂ with
          | ret r =>
            obtain ⟨rfl, h', tk, rfl, g', hk'⟩ := hr₂
            repeat (any_goals (first | assumption | wp_step))
            exact h _ _ g' hk'
          | _ => exact hr₂.elim
    | _ => exact hr.elim
end
end Rw
namespace Rw
open PySem PySem.Spec PyProof.Rows PySem.W PySem.SeqAt
/-! ### tuples, perhaps empty ones among them, sorted -/
section
variable {prog : Program} {w : World} {A : Around} {E : Value → Shared → Prop} {s : Shared}
/-- each value is a tuple, and these are their first items -/
inductive Firsts (h : Heap) : List Value → List (Option Value) → Prop
  | nil : Firsts h [] []
  | cons {a : Addr} {o : Obj} {xs : Array Value} {n : Nat} {vs : List Value} {fs : List (Option Value)} : h.get? a = some o → o.cls = .type "tuple" → o.data = .seq xs n → Firsts h vs fs → Firsts h (.ref a :: vs) (xs[0]? :: fs)
theorem Firsts.len {h : Heap} {vs : List Value} {fs : List (Option Value)} (x : Firsts h vs fs) : fs.length = vs.length := by
  induction x with
  | nil => rfl
  | cons _ _ _ _ ih => rw [List.length_cons, List.length_cons, ih]
theorem firsts_run {M : Model} : ∀ (vs : List Value) (fs : List (Option Value)) {Q : List (Option Value) → Shared → Prop}, Firsts s.heap vs fs → Q fs s → wpAny M A (vs.mapM firstOfTuple') Q E s
  | _, _, _, .nil, h => by
    rw [List.mapM_nil]
    exact wpAny_pure h
  | _, _, Q, .cons (a := a) (xs := xs) (vs := vs) (fs := fs) ho hc hd t, h => by
    rw [List.mapM_cons]
    refine wpAny_bind ?_
    rw [kas_first_eq]
    refine wpAny_bind (Looks.here (show Looks M s.heap (typeOf (.ref a)) _ from (Looks.ld ho).andThen .now) ?_)
    rw [hc, if_neg (by first | decide | simp)]
    refine wpAny_bind (listItems_at ho hd (wpAny_pure ?_))
    exact wpAny_bind (firsts_run vs fs (Q := fun bs s' => wpAny M A (pure (xs[0]? :: bs)) Q E s') t (wpAny_pure h))
theorem firsts_ty {M : Model} {h : Heap} {vs : List Value} {fs : List (Option Value)} (x : Firsts h vs fs) : ∀ v ∈ vs, Looks M h (typeOf v) (.type "tuple") := by
  induction x with
  | nil => exact fun v hv => nomatch hv
  | cons ho hc hd _ ih =>
    intro v hv
    rcases List.mem_cons.mp hv with rfl | hv
    · show Looks M h (typeOf (Value.ref _)) (Value.type "tuple")
      exact hc ▸ (Looks.ld ho).andThen .now
    · exact ih v hv
/-- an empty one among the others, not the first -/
theorem kind_general {M : Model} {vs : List Value} {fs : List (Option Value)} {f : Value} {Q : SortKind → Shared → Prop} (x : Firsts s.heap vs fs) (h0 : fs[0]? = some (some f)) (hn : none ∈ fs) (h : Q general' s) : wpAny M A (keyKind' vs.toArray) Q E s := by
  rw [kat_kind_eq, List.mapM_toArray, map_eq_pure_bind]
  refine wpAny_bind (wpAny_bind (firsts_run vs fs x (wpAny_pure ?_)))
  have c : ¬ ((fs.toArray.all fun x => x.isSome) = true) := by
    intro q
    rw [List.all_toArray, List.all_eq_true] at q
    exact absurd (q none hn) (by simp)
  rw [if_neg c]
  have c2 : ((fs.toArray[0]?.bind id).isSome) = true := by
    have e : fs.toArray[0]? = some (some f) := by simpa using h0
    rw [e]
    rfl
  rw [if_pos c2]
  exact wpAny_pure h
/-- the first is empty -/
theorem kind_one {M : Model} {vs : List Value} {fs : List (Option Value)} {Q : SortKind → Shared → Prop} (x : Firsts s.heap vs fs) (h0 : fs[0]? = some none) (h : Q oneType' s) : wpAny M A (keyKind' vs.toArray) Q E s := by
  rw [kat_kind_eq, List.mapM_toArray, map_eq_pure_bind]
  refine wpAny_bind (wpAny_bind (firsts_run vs fs x (wpAny_pure ?_)))
  have c : ¬ ((fs.toArray.all fun x => x.isSome) = true) := by
    intro q
    rw [List.all_toArray, List.all_eq_true] at q
    exact absurd (q none (List.mem_of_getElem? h0)) (by simp)
  rw [if_neg c]
  have e : fs.toArray[0]? = some none := by simpa using h0
  have c2 : ¬ ((fs.toArray[0]?.bind id).isSome) = true := by
    rw [e]
    simp
  rw [if_neg c2, oneTypeOnly'_eq, List.mapM_toArray, map_eq_pure_bind]
  refine wpAny_bind (wpAny_bind (wpAny_bind (kas_mapM (r := Value.type "tuple") _ (fun v hv Q' hq => (firsts_ty x v hv).here hq) (wpAny_pure ?_))))
  have all : ((List.map (fun _ => Value.type "tuple") vs).toArray.all fun x => x == Value.type "tuple") = true := by
    simp only [List.all_toArray, List.all_map, List.all_eq_true]
    intro _ _
    show (Value.type "tuple" == Value.type "tuple") = true
    decide
  obtain ⟨v, r, ev⟩ : ∃ v r, vs = v :: r := by
    cases x with
    | nil => simp at h0
    | cons _ _ _ _ => exact ⟨_, _, rfl⟩
  have z : (List.map (fun _ => Value.type "tuple") vs).toArray[0]? = some (Value.type "tuple") := by
    rw [ev]
    simp
  rw [z]
  simp only [all, if_true]
  exact wpAny_pure (wpAny_pure h)
/-- by the type's own < -/
theorem oneLt_tuples {xs ys : List PyData} {a b : Value} {as bs : List Addr} {Q : Bool → Shared → Prop} (ra : Reads s.heap a (.tuple xs) as) (rb : Reads s.heap b (.tuple ys) bs) (hal : alikeAll xs ys = true)
    (hu : A.units + min (PyData.tuple xs).depth (PyData.tuple ys).depth < cLine) (hq : Q (dataLt (.tuple xs) (.tuple ys)) s) : wpAny (model prog w) A (oneLt' true a b) Q E s := by
  cases ra with
  | @tuple l o vs n _ _ h1 h2 h3 h4 =>
    cases rb with
    | @tuple l' o' vs' n' _ _ k1 k2 k3 k4 =>
      have n1 : vs.size = xs.length := by simpa using SeqAt.ReadsAll.length _ _ _ h4
      have n2 : vs'.size = ys.length := by simpa using SeqAt.ReadsAll.length _ _ _ k4
      rw [dataLt_tuple, ← firstLt_toks xs ys hal, ← n1, ← n2] at hq
      rw [oneLt'_eq]
      simp only [if_true]
      refine wpAny_bind (wpAny_cRoomFor (SeqAt.room_here hu) ?_)
      obtain ⟨ocls, odict, odata, oslots⟩ := o
      obtain ⟨pcls, pdict, pdata, pslots⟩ := o'
      simp only at h2 h3 k2 k3
      subst h2 h3 k2 k3
      refine wpAny_bind (wpAny_callSpecialIfBound?_slot (T := "tuple") ⟨_, h1, rfl⟩ F.slot_tuple_lt (call_meets F.slot_tuple_lt ⟨_, h1, rfl⟩ F.entry_tuple_lt (F.args_tuple_lt_2 _ _)
        (SeqAt.tuple_ltAt l l' vs vs' n n' odict pdict oslots pslots (pairEq xs ys) (fun j => dataLt (xs.getD j .none) (ys.getD j .none))) ⟨h1, k1, fun j j1 j2 => ?_, fun j j1 j2 hj => ?_, ?_⟩))
      · have := eqAt_alikeAll xs ys A.in1 s vs.toList vs'.toList _ _ h4 k4 hal (SeqAt.room_in hu) j (by simpa using j1) (by simpa using j2)
        simpa using this
      · have := rcLt_alikeAll xs ys A.in1 s vs.toList vs'.toList _ _ h4 k4 hal (SeqAt.room_in hu) j (by simpa using j1) (by simpa using j2) hj
        simpa using this
      · exact wpAny_truthy_bool hq
theorem firsts_of {h : Heap} : ∀ {vs : List Value} {ds : List PyData}, EachIs (fun v d => ∃ as, Reads h v d as) vs ds → (∀ d ∈ ds, ∃ xs, d = .tuple xs) → ∃ fs, Firsts h vs fs ∧ ∀ i : Nat, fs[i]? = some none ↔ ds[i]? = some (.tuple [])
  | _, _, .nil, _ => ⟨[], .nil, fun i => by simp⟩
  | _, _, .cons (b := d) ⟨as, r⟩ t, ht => by
    obtain ⟨fs, h1, h2⟩ := firsts_of t fun d hd => ht d (List.mem_cons_of_mem _ hd)
    obtain ⟨xs, rfl⟩ := ht d List.mem_cons_self
    cases r with
    | @tuple a o vs n _ _ ho hc hd hr =>
      refine ⟨_, .cons ho hc hd h1, fun i => ?_⟩
      cases i with
      | succ i => simpa using h2 i
      | zero =>
        have hl := SeqAt.ReadsAll.length _ _ _ hr
        rw [Array.length_toList] at hl
        simp only [List.getElem?_cons_zero, Option.some.injEq]
        constructor
        · intro q
          have z : vs.size = 0 := by
            have := Array.getElem?_eq_none_iff.mp q
            omega
          rw [z] at hl
          rw [List.length_eq_zero_iff.mp hl.symm]
        · intro q
          injection q with q
          subst q
          rw [List.length_nil] at hl
          exact Array.getElem?_eq_none (by omega)
/-- tuples of alike data can be sorted, empty ones too -/
theorem SortsAt.tups {vs : List Value} {ds : List PyData} (e : EachIs (fun v d => ∃ as, Reads s.heap v d as) vs ds) (hal : AllAlike ds) (ht : ∀ d ∈ ds, ∃ xs, d = .tuple xs) (hu : ∀ d, d ∈ ds → A.units + d.depth < cLine) : SortsAt prog w A s (dataKind s.heap ds) vs := by
  by_cases full : ∀ d ∈ ds, ∃ x r, d = .tuple (x :: r)
  · exact SortsAt.data e hal (.inl full) hu
  have hollow : PyData.tuple [] ∈ ds := by
    refine Classical.byContradiction fun hn => full fun d hd => ?_
    obtain ⟨xs, rfl⟩ := ht d hd
    cases xs with
    | nil => exact absurd hd hn
    | cons x r => exact ⟨x, r, rfl⟩
  have room : ∀ {d d' : PyData}, d ∈ ds → A.units + min d.depth d'.depth < cLine := fun {d d'} hd => Nat.lt_of_le_of_lt (Nat.add_le_add_left (Nat.min_le_left _ _) _) (hu d hd)
  refine ⟨fun v hv => ?_, ?_⟩
  · obtain ⟨d, hd, as, r⟩ := e.left v hv
    exact ⟨_, dataKind_some hal hd r⟩
  obtain ⟨fs, f1, f2⟩ := firsts_of e ht
  obtain ⟨i0, hi0, ei0⟩ := List.getElem_of_mem hollow
  have hnone : none ∈ fs := List.mem_of_getElem? ((f2 i0).mpr (by rw [List.getElem?_eq_getElem hi0, ei0]))
  have side : ∀ {x y : Value} {a b : List (Int ⊕ List Nat)}, (dataKind s.heap ds).keyOf x = some a → (dataKind s.heap ds).keyOf y = some b →
      ∃ xs ys as bs, Reads s.heap x (.tuple xs) as ∧ Reads s.heap y (.tuple ys) bs ∧ alike (.tuple xs) (.tuple ys) = true ∧ a = keyToks (.tuple xs) ∧ b = keyToks (.tuple ys) ∧ A.units + min (PyData.tuple xs).depth (PyData.tuple ys).depth < cLine := by
    intro x y a b ha hb
    obtain ⟨d, as, hd, ra, rfl⟩ := dataKind_inv ha
    obtain ⟨d', bs, hd', rb, rfl⟩ := dataKind_inv hb
    obtain ⟨xs, rfl⟩ := ht d hd
    obtain ⟨ys, rfl⟩ := ht d' hd'
    exact ⟨xs, ys, as, bs, ra, rb, hal _ hd _ hd', rfl, rfl, room hd⟩
  cases hz : fs[0]? with
  | none =>
    have : fs = [] := by
      cases fs with
      | nil => rfl
      | cons f r => simp at hz
    rw [this] at hnone
    exact nomatch hnone
  | some f =>
    cases f with
    | some f =>
      refine ⟨general', fun E x y a b Q ha hb hq => ?_, fun _ E Q hq => kind_general f1 hz hnone hq⟩
      obtain ⟨xs, ys, as, bs, ra, rb, hh, rfl, rfl, hr⟩ := side ha hb
      show wpAny _ _ (oneLt' false x y) _ _ _
      exact oneLt_alike (fun z => absurd z Bool.false_ne_true) ra rb hh (fun z => nomatch z) hr hq
    | none =>
      refine ⟨oneType', fun E x y a b Q ha hb hq => ?_, fun _ E Q hq => kind_one f1 hz hq⟩
      obtain ⟨xs, ys, as, bs, ra, rb, hh, rfl, rfl, hr⟩ := side ha hb
      rw [keyLt'_oneType]
      exact oneLt_tuples ra rb (by simpa [alike] using hh) hr hq
end
end Rw
namespace Rw
open PySem PySem.Spec PyProof.Rows L2 PySem.Froz
/-! ### filling a set with tuples -/
structure GotN (ks : List (Addr × NK)) (i : Nat) (L : List (Addr × NK)) : Prop where
  sub : ∀ p ∈ L, p ∈ ks.take i
  all : ∀ p ∈ ks.take i, p.2 ∈ L.map (·.2)
  len : L.length ≤ i
theorem take_snoc {α : Type} {l : List α} {i : Nat} {x : α} (h : l[i]? = some x) : l.take (i + 1) = l.take i ++ [x] := by
  rw [List.take_succ, h]
  rfl
theorem GotN.next {ks L L' : List (Addr × NK)} {i : Nat} {x : Addr × NK} (g : GotN ks i L) (h : ks[i]? = some x) (c1 : x.2 ∈ L.map (·.2) → L' = L) (c2 : x.2 ∉ L.map (·.2) → L'.Perm (x :: L)) : GotN ks (i + 1) L' := by
  have ht := take_snoc h
  by_cases hm : x.2 ∈ L.map (·.2)
  · rw [c1 hm]
    refine ⟨fun p hp => ?_, fun p hp => ?_, Nat.le_succ_of_le g.len⟩
    · rw [ht]
      exact List.mem_append_left _ (g.sub p hp)
    · rw [ht] at hp
      rcases List.mem_append.mp hp with z | z
      · exact g.all p z
      · rw [List.mem_singleton.mp z]
        exact hm
  · have pm := c2 hm
    refine ⟨fun p hp => ?_, fun p hp => ?_, ?_⟩
    · rw [ht]
      rcases List.mem_cons.mp (pm.mem_iff.mp hp) with e | z
      · rw [e]
        exact List.mem_append_right _ (List.mem_singleton.mpr rfl)
      · exact List.mem_append_left _ (g.sub p z)
    · rw [(pm.map (·.2)).mem_iff, List.map_cons]
      rw [ht] at hp
      rcases List.mem_append.mp hp with z | z
      · exact List.mem_cons_of_mem _ (g.all p z)
      · rw [List.mem_singleton.mp z]
        exact List.mem_cons_self
    · rw [pm.length_eq, List.length_cons]
      exact Nat.succ_le_succ g.len
theorem led_new (w : World) : w.params.followText "set-order" = true ∨ (!w.params.followText "set-order") = true := by
  cases w.params.followText "set-order"
  · exact .inr rfl
  · exact .inl rfl
section
variable {P : Program} {w : World} {A : Around} {E : Value → Shared → Prop} {s : Shared}
theorem TSet.empty {h : Heap} {a : Addr} (ho : h.get? a = some (newSetObj w)) : TSet P w h a [] #[] 0 (.fresh 0 0 (!w.params.followText "set-order")) where
  ob := ⟨_, ho, ⟨rfl, rfl, rfl⟩, rfl⟩
  en := rfl
  tab := ⟨List.Pairwise.nil, rfl, rfl, .inl rfl, fun x hx => (by cases hx), fun i h j hi => (by simp [hashes] at hi)⟩
  nd := List.nodup_nil
  ks := fun p hp => (by cases hp)
  led := led_new w
  room := by
    show 0 * 5 < 7 * 3
    decide
  few := by
    show 0 < 64
    decide
theorem TSet.moved {h h' : Heap} {a : Addr} {L : List (Addr × NK)} {es : Array (Int × Value)} {ep : Nat} {t : SetTable} (R : TSet P w h a L es ep t) (ha : ∀ o, h.get? a = some o → h'.get? a = some o) (ht : ∀ p ∈ L, TupK h' p.2 p.1) : TSet P w h' a L es ep t := by
  obtain ⟨o, ho, r⟩ := R.ob
  exact ⟨⟨o, ha o ho, r⟩, R.en, R.tab, R.nd, ht, R.led, R.room, R.few⟩
theorem fill_tups (S : Addr) (h0 : Heap) (ks : List (Addr × NK)) (hk : ∀ p ∈ ks, TupK h0 p.2 p.1) (few : ks.length < 64) :
    Fill P w S h0 (ks.map fun p => Value.ref p.1) (fun i h => ∃ L es ep t, TSet P w h S L es ep t ∧ GotN ks i L) where
  start := fun h ho => ⟨[], #[], 0, _, TSet.empty ho, ⟨fun p hp => (by cases hp), fun p hp => (by simp at hp), Nat.le_refl _⟩⟩
  keep := fun i h h' ⟨L, es, ep, t, R, g⟩ ha hold => ⟨L, es, ep, t, R.moved ha fun p hp => (hk p (List.mem_of_mem_take (g.sub p hp))).kept hold, g⟩
  put := fun i v A E s Q hu hv ⟨L, es, ep, t, R, g⟩ hold hQ => by
    rw [List.getElem?_map] at hv
    cases hx : ks[i]? with
    | none => rw [hx] at hv; simp at hv
    | some x =>
      rw [hx] at hv
      obtain rfl : Value.ref x.1 = v := Option.some.inj hv
      have il : i < ks.length := (List.getElem?_eq_some_iff.mp hx).1
      have hxk := (hk x (List.mem_of_getElem? hx)).kept hold
      unfold setAdd
      refine wpAny_holding ?_
      refine wpAny_bind ((nestedKind P w).pyHash (k := x.2) (show A.units + 8 < cLine from hu) hxk ?_)
      refine added (s := { s with toks := s.toks + (nestedKind P w).draws x.2 }) R hxk hu (by have := g.len; omega) fun b h' L' es' ep' t' sb R' c1 c2 => ?_
      exact hQ b h' _ (Nat.le_add_right _ _) sb ⟨L', es', ep', t', R', g.next hx c1 c2⟩
/-! ### filling a set with texts -/
structure XSet (P : Program) (w : World) (h : Heap) (a : Addr) (ms : List Str) (es : Array (Int × Value)) (ep : Nat) (t : SetTable) : Prop where
  ob : h.get? a = some (sObj "set" (es, ep, t))
  ok : TxOk P w (es, ep, t) ms
  nd : ms.Nodup
  ris : Ris t.place.toList
  led : w.params.followText "set-order" = true ∨ t.led = true
theorem add_ris {g : Int} {v : Value} {D : SD} (h : Ris D.2.2.place.toList) : Ris (addTx g v D).2.2.place.toList ∧ (addTx g v D).2.2.led = D.2.2.led := by
  obtain ⟨es, ep, t⟩ := D
  have n1 := layNew_ris t es g v h
  have n2 := layNew_led t es g v
  unfold addTx tailTx
  dsimp only at n1 n2 ⊢
  generalize layNew t es g v = N at n1 n2 ⊢
  obtain ⟨es1, t1, wd, gv⟩ := N
  dsimp only at n1 n2 ⊢
  have m1 : Ris (if t1.plain = true then { t1 with plain := false } else t1).place.toList ∧ (if t1.plain = true then { t1 with plain := false } else t1).led = t.led := by
    split <;> exact ⟨n1, n2⟩
  generalize (if t1.plain = true then { t1 with plain := false } else t1) = t2 at m1 ⊢
  split
  · exact ⟨relayAll_ris t2 es1 _, (relayAll_led t2 es1 _).trans m1.2⟩
  · exact m1
theorem XSet.moved {h h' : Heap} {a : Addr} {ms : List Str} {es : Array (Int × Value)} {ep : Nat} {t : SetTable} (R : XSet P w h a ms es ep t) (ha : ∀ o, h.get? a = some o → h'.get? a = some o) : XSet P w h' a ms es ep t :=
  ⟨ha _ R.ob, R.ok, R.nd, R.ris, R.led⟩
/-- a text that is in the set is put in again -/
theorem again_in {a : Addr} {ms : List Str} {es : Array (Int × Value)} {ep : Nat} {t : SetTable} {k : Str} {u : Tok} {Q : Bool → Shared → Prop} (R : XSet P w s.heap a ms es ep t) (hk : k ∈ ms) (hb : ms.length < scanBound) (h : Q false s) :
    wpAny (model P w) A (setAddHashed a (.str k u) (hashStr w k)) Q E s := by
  have hel : ElemsOf (strKind P w) es.toList := R.ok.el
  have hsz : es.size = ms.length := R.ok.sz
  have hf : t.fits es.size = true := R.ok.fit
  have hd : (sObj "set" (es, ep, t)).data = .set es ep t := rfl
  have hkey : (strKind P w).is k (.str k u) = true := is_str k u
  obtain ⟨e, he, hp⟩ := (R.ok.mem k).mp hk
  unfold setAddHashed setAddHashedIn
  refine wpAny_holding (wpAny_bind (wpAny_setState_of R.ob hd hf ?_))
  dsimp only
  rw [byScan_of rfl (by omega) hel]
  simp only [↓reduceIte]
  unfold setAddByScan
  refine wpAny_bind (wpAny_bind (wpAny_rule (wpAny_bind (wpAny_setScan_of (knd := strKind P w) (k := k) hkey R.ob hd hf hel ?_))))
  cases hr : List.findIdx? (fun e => (strKind P w).is k e.2) es.toList with
  | none =>
    have z := List.findIdx?_eq_none_iff.mp hr e he
    rw [hp] at z
    exact nomatch z
  | some j =>
    dsimp only
    exact wpAny_pure (wpAny_pure h)
theorem put_text {a : Addr} {ms : List Str} {es : Array (Int × Value)} {ep : Nat} {t : SetTable} {k : Str} {u : Tok} {Q : Bool → Shared → Prop} (R : XSet P w s.heap a ms es ep t) (hb : ms.length + 1 < scanBound)
    (h : ∀ b h' ms' es' ep' t', Heap.SameBut a s.heap h' → XSet P w h' a ms' es' ep' t' → (∀ z, z ∈ ms' ↔ z = k ∨ z ∈ ms) → ms'.length ≤ ms.length + 1 → Q b { s with heap := h' }) :
    wpAny (model P w) A (setAddHashed a (.str k u) (hashStr w k)) Q E s := by
  by_cases hk : k ∈ ms
  · refine again_in R hk (by omega) (h false s.heap ms es ep t (Heap.SameBut.refl a s.heap) R (fun z => ⟨.inr, fun q => q.elim (fun e => e ▸ hk) id⟩) (Nat.le_succ _))
  · refine add_x R.ob R.ok hk hb ?_
    have sb : Heap.SameBut a s.heap (s.heap.update a (fun _ => sObj "set" (addTx (hashStr w k) (.str k u) (es, ep, t)))) := Heap.SameBut.update ..
    have ho : (s.heap.update a (fun _ => sObj "set" (addTx (hashStr w k) (.str k u) (es, ep, t)))).get? a = some (sObj "set" (addTx (hashStr w k) (.str k u) (es, ep, t))) := get_upd _ R.ob rfl
    have ok := add_ok u R.ok (k := k)
    have rl := add_ris (g := hashStr w k) (v := .str k u) (D := (es, ep, t)) R.ris
    generalize addTx (hashStr w k) (.str k u) (es, ep, t) = D at sb ho ok rl ⊢
    obtain ⟨es', ep', t'⟩ := D
    refine h true _ (k :: ms) es' ep' t' sb ⟨ho, ok, List.nodup_cons.mpr ⟨hk, R.nd⟩, rl.1, ?_⟩ (fun z => List.mem_cons) (Nat.le_refl _)
    have e : t'.led = t.led := rl.2
    rw [e]
    exact R.led
theorem fill_texts (S : Addr) (h0 : Heap) (zs : List Str) {vs : List Value} (hv : PySem.W.EachIs (fun v z => ∃ u, v = Value.str z u) vs zs) (few : zs.length + 1 < scanBound) :
    Fill P w S h0 vs (fun i h => ∃ ms es ep t, XSet P w h S ms es ep t ∧ (∀ z, z ∈ ms ↔ z ∈ zs.take i) ∧ ms.length ≤ i) where
  start := fun h ho => ⟨[], #[], 0, _, ⟨ho, TxOk.nil rfl, List.nodup_nil, List.Pairwise.nil, led_new w⟩, fun z => by simp, Nat.le_refl _⟩
  keep := fun i h h' ⟨ms, es, ep, t, R, g⟩ ha _ => ⟨ms, es, ep, t, R.moved ha, g⟩
  put := fun i v A E s Q hu hvi ⟨ms, es, ep, t, R, g, hl⟩ hold hQ => by
    have hlen := hv.length
    have il : i < vs.length := (List.getElem?_eq_some_iff.mp hvi).1
    have iz : i < zs.length := by omega
    have hz : zs[i]? = some zs[i] := List.getElem?_eq_getElem iz
    have pz : (v, zs[i]) ∈ vs.zip zs := List.mem_of_getElem? (i := i) (by rw [List.getElem?_zip_eq_some]; exact ⟨hvi, hz⟩)
    obtain ⟨u, rfl⟩ : ∃ u, v = Value.str zs[i] u := hv.zip _ pz
    unfold setAdd
    refine wpAny_holding ?_
    refine wpAny_bind ((strKind P w).pyHash (k := zs[i]) (is_str _ _) ?_)
    refine put_text (s := { s with toks := s.toks + 1 }) R (by omega) fun b h' ms' es' ep' t' sb R' hm hl' => ?_
    refine hQ b h' _ (Nat.le_succ _) sb ⟨ms', es', ep', t', R', fun z => ?_, by omega⟩
    rw [hm, take_snoc hz, List.mem_append, List.mem_singleton, g z]
    exact ⟨fun q => q.elim .inr .inl, fun q => q.elim .inr .inl⟩
/-! ### sorted of a set -/
theorem each_perm {α β : Type} {R : α → β → Prop} {l l' : List α} (p : l'.Perm l) : ∀ {bs : List β}, PySem.W.EachIs R l bs → ∃ bs', PySem.W.EachIs R l' bs' ∧ bs'.Perm bs := by
  induction p with
  | nil => exact fun {bs} e => ⟨bs, e, List.Perm.refl _⟩
  | cons x _ ih =>
    intro bs e
    cases e with
    | cons h t =>
      obtain ⟨bs', e', p'⟩ := ih t
      exact ⟨_ :: bs', .cons h e', p'.cons _⟩
  | swap x y l =>
    intro bs e
    cases e with
    | cons h t =>
      cases t with
      | cons h' t' => exact ⟨_, .cons h' (.cons h t'), List.Perm.swap _ _ _⟩
  | trans _ _ ih1 ih2 =>
    intro bs e
    obtain ⟨b1, e1, p1⟩ := ih2 e
    obtain ⟨b2, e2, p2⟩ := ih1 e1
    exact ⟨b2, e2, p2.trans p1⟩
open PySem.W in
theorem each_and {α β : Type} {R S : α → β → Prop} : ∀ {as : List α} {bs : List β}, EachIs R as bs → EachIs S as bs → EachIs (fun a b => R a b ∧ S a b) as bs
  | _, _, .nil, .nil => .nil
  | _, _, .cons h t, .cons h' t' => .cons ⟨h, h'⟩ (each_and t t')
open PySem.W in
/-- xs.sort(): the list's own object then holds the sorted values -/
theorem list_sorts {β : Type} {a : Addr} {n : Nat} {vs : List Value} {bs : List β} {enc : β → PyData} {R : Value → β → Prop} {Q : Value → Shared → Prop} (ho : s.heap.get? a = some (seqObj "list" vs.toArray n)) (e : EachIs R vs bs) (er : EachIs (fun v b => ∃ as, Reads s.heap v (enc b) as ∧ a ∉ as) vs bs) (hal : AllAlike (bs.map enc)) (hk : (∀ d ∈ bs.map enc, ∃ xs, d = .tuple xs) ∨ Sortable (bs.map enc)) (hL : bs.length ≤ sizeLine)
    (hu : ∀ b, b ∈ bs → A.units + 1 + (enc b).depth < cLine) (h : ∀ out, out.length = bs.length → EachIs R out (bs.mergeSort (dataLe false enc)) → Q .none { s with heap := sortedHeap s.heap a vs (List.toArray out) }) :
    wpAny (model P w) A (call (.builtin "list.sort") [.ref a]) Q E s := by
  have er' : EachIs (fun v b => ∃ as, Reads (sortingHeap s.heap a vs) v (enc b) as) vs bs := each_keepBut (h' := sortingHeap s.heap a vs) (fun _ _ hb q => sortingHeap_old hb q) (fun o q => by rw [ho] at q; rw [← Option.some.inj q]) hal er
  have em := each_map (R := fun v d => ∃ as, Reads (sortingHeap s.heap a vs) v d as) enc er'
  have can : SortsAt P w A.in1 { s with heap := sortingHeap s.heap a vs } (dataKind (sortingHeap s.heap a vs) (bs.map enc)) vs := by
    rcases hk with ht | hs
    · exact SortsAt.tups (s := { s with heap := sortingHeap s.heap a vs }) em hal ht (bound_map hu)
    · exact SortsAt.data (s := { s with heap := sortingHeap s.heap a vs }) em hal hs (bound_map hu)
  refine wpAny_call_entry slot_list_sort ⟨_, ho, rfl⟩ entry_list_sort (list_sort_vals (κ := dataKind (sortingHeap s.heap a vs) (bs.map enc)) ho can (by rw [e.length]; exact hL) ⟨.none, rfl, ?_⟩) (args_list_sort _)
  exact h _ (by rw [sortVals_length false rfl]; exact e.length) (sortVals_data false e er' hal)
open PySem.W in
theorem sort_facts {β : Type} (enc : β → PyData) (bs : List β) : (bs.mergeSort (dataLe false enc)).Perm bs ∧ (bs.mergeSort (dataLe false enc)).Pairwise (fun a b => dataLe false enc a b = true) :=
  ⟨List.mergeSort_perm _ _, sort_pairwise (sortLe_total (listOrd itemOrd) false fun b => keyToks (enc b)) bs⟩
open PySem.W in
theorem sorted_coll {β : Type} {a : Addr} {es : Array (Int × Value)} {ep : Nat} {t : SetTable} {bs : List β} {enc : β → PyData} {R : Value → β → Prop} {Q : Value → Shared → Prop} (hh : A.handled = none) (ha : SetAt s.heap a es ep t) (hf : t.fits es.size = true) (hsz : es.size < scanBound) (r : Ris t.place.toList)
    (hl : w.params.followText "set-order" = true ∨ t.led = true) (e : EachIs R (es.toList.map (·.2)) bs) (er : EachIs (fun v b => ∃ as, Reads s.heap v (enc b) as ∧ ∀ c ∈ as, c < s.heap.objs.size) (es.toList.map (·.2)) bs)
    (hal : AllAlike (bs.map enc)) (hk : (∀ d ∈ bs.map enc, ∃ xs, d = .tuple xs) ∨ Sortable (bs.map enc)) (hu : ∀ b, b ∈ bs → A.units + 3 + (enc b).depth < cLine)
    (hQ : ∀ s' p (out : Array Value) (c : Nat) (bs' : List β), (∀ b o, s.heap.get? b = some o → s'.heap.get? b = some o) → s'.gens = s.gens → s'.os = s.os → s.heap.objs.size ≤ p → s'.heap.get? p = some (seqObj "list" out c) →
      EachIs R out.toList bs' → bs'.Perm bs → bs'.Pairwise (fun a b => dataLe false enc a b = true) → Q (.ref p) s') :
    wpAny (model P w) A (call (.builtin "sorted") [.ref a]) Q E s := by
  refine Calls.call_function_entry kind_sorted plain_sorted entry_sorted (args_sorted1 _) ?_
  unfold Builtin.«sorted»
  refine wpAny_bind (m := checkCount "sorted" 1 1 _) (wpAny_pure ?_)
  refine wpAny_bind (collect_set (A := A.in1) hh ha hf hsz r hl fun s1 vs k1 hz g1 o1 pm => ?_)
  obtain ⟨bs1, e1, p1⟩ := each_perm pm (each_and e er)
  have lb : bs.length = es.size := by rw [← e.length, List.length_map, Array.length_toList]
  have lv : vs.length = bs1.length := e1.length
  have l1 : bs1.length = bs.length := p1.length_eq
  have sl : scanBound = 4096 := rfl
  refine wpAny_bind (wpAny_newList ?_ (by rw [sizeLine_eq]; omega))
  have hoL : (s1.heap.push (seqObj "list" vs.toArray 0)).get? s1.heap.objs.size = some (seqObj "list" vs.toArray 0) := Heap.get?_push_size _ rfl
  have mem1 : ∀ d, d ∈ bs1.map enc ↔ d ∈ bs.map enc := fun d => (p1.map enc).mem_iff
  refine wpAny_bind (wpAny_holding (list_sorts (s := { s1 with heap := s1.heap.push (seqObj "list" vs.toArray 0) }) (enc := enc) (R := R) hoL (e1.mono fun _ _ z => z.1)
    (e1.mono fun v b z => ?_) (fun d hd d' hd' => hal d ((mem1 d).mp hd) d' ((mem1 d').mp hd')) ?_ (by rw [sizeLine_eq]; omega) (fun b hb => ?_) fun out ho eo => ?_))
  · obtain ⟨_, as, rd, lo⟩ := z
    refine ⟨as, PyProof.Rows.Reads.keeps (fun c o q => Heap.get?_push_of_some _ (k1 c o q)) rd, fun hm => ?_⟩
    exact absurd (Nat.lt_of_lt_of_le (lo _ hm) hz) (Nat.lt_irrefl _)
  · rcases hk with ht | hs
    · exact .inl fun d hd => ht d ((mem1 d).mp hd)
    · rcases hs with h1 | h2
      · exact .inr (.inl fun d hd => h1 d ((mem1 d).mp hd))
      · exact .inr (.inr fun d hd => h2 d ((mem1 d).mp hd))
  · have := hu b (p1.mem_iff.mp hb)
    simp only [Around.in1_units]
    omega
  · obtain ⟨c, hc⟩ := sortedHeap_at (vs := vs) (out := out.toArray) hoL
    have sf := sort_facts enc bs1
    refine wpAny_pure ⟨_, rfl, hQ _ s1.heap.objs.size out.toArray c (bs1.mergeSort (dataLe false enc)) (fun b u q => ?_) g1 o1 hz hc (by simpa using eo) (sf.1.trans p1) sf.2⟩
    have q1 := k1 b u q
    have hlt := Heap.lt_size q1
    show (sortedHeap (s1.heap.push (seqObj "list" vs.toArray 0)) s1.heap.objs.size vs out.toArray).get? b = some u
    rw [sortedHeap_old (Nat.ne_of_lt hlt) (by rw [size_push']; exact Nat.lt_succ_of_lt hlt)]
    exact Heap.get?_push_of_some _ q1
end
end Rw
namespace Rw
open PySem PySem.Spec PyProof.Rows L2 PySem.Froz
/-! ### data made of texts, whole numbers, None and tuples -/
mutual
def okD : PyData → Bool
  | .none => true
  | .int _ => true
  | .str _ => true
  | .tuple xs => okDs xs
  | .bool _ => false
  | .list _ => false
  | .dict _ => false
def okDs : List PyData → Bool
  | [] => true
  | x :: xs => okD x && okDs xs
end
mutual
def toK : PyData → NK
  | .none => .none
  | .int i => .num i
  | .str x => .text x
  | .tuple xs => .tup (toKs xs)
  | .bool _ => .none
  | .list _ => .none
  | .dict _ => .none
def toKs : List PyData → List NK
  | [] => []
  | x :: xs => toK x :: toKs xs
end
theorem okDs_cons {x : PyData} {xs : List PyData} (h : okDs (x :: xs) = true) : okD x = true ∧ okDs xs = true := by
  rw [okDs, Bool.and_eq_true] at h
  exact h
mutual
theorem toK_data : ∀ d : PyData, okD d = true → (toK d).data = d
  | .none, _ => by simp [toK, NestedKey.data]
  | .int _, _ => by simp [toK, NestedKey.data]
  | .str _, _ => by simp [toK, NestedKey.data]
  | .tuple xs, h => by
    rw [okD] at h
    rw [toK, NestedKey.data, toKs_data xs h]
  | .bool _, h => by simp [okD] at h
  | .list _, h => by simp [okD] at h
  | .dict _, h => by simp [okD] at h
theorem toKs_data : ∀ ds : List PyData, okDs ds = true → NestedKey.datas (toKs ds) = ds
  | [], _ => by simp [toKs, NestedKey.datas]
  | x :: xs, h => by
    obtain ⟨h1, h2⟩ := okDs_cons h
    rw [toKs, NestedKey.datas, toK_data x h1, toKs_data xs h2]
end
theorem toK_inj {d e : PyData} (hd : okD d = true) (he : okD e = true) (h : toK d = toK e) : d = e := by
  rw [← toK_data d hd, ← toK_data e he, h]
mutual
theorem toK_depth : ∀ d : PyData, (toK d).depth ≤ d.depth
  | .none => by simp [toK, NestedKey.depth]
  | .int _ => by simp [toK, NestedKey.depth]
  | .str _ => by simp [toK, NestedKey.depth]
  | .tuple xs => by
    have z := toKs_depth xs
    rw [toK, NestedKey.depth, PyData.depth]
    omega
  | .bool _ => by simp [toK, NestedKey.depth]
  | .list _ => by simp [toK, NestedKey.depth]
  | .dict _ => by simp [toK, NestedKey.depth]
theorem toKs_depth : ∀ ds : List PyData, NestedKey.depthAll (toKs ds) ≤ PyData.depthAll ds
  | [] => by simp [toKs, NestedKey.depthAll]
  | x :: xs => by
    have z1 := toK_depth x
    have z2 := toKs_depth xs
    rw [toKs, NestedKey.depthAll, PyData.depthAll]
    omega
end
mutual
theorem isK_of : ∀ (d : PyData) (h : Heap) (v : Value) (as : List Addr), okD d = true → Reads h v d as → NestedIs h (toK d) v ∧ as = []
  | .none, _, _, _, _, r => by
    cases r
    exact ⟨.none, rfl⟩
  | .int _, _, _, _, _, r => by
    cases r
    exact ⟨.int _ _, rfl⟩
  | .str _, _, _, _, _, r => by
    cases r
    exact ⟨.text _ _, rfl⟩
  | .tuple xs, h, _, _, ok, r => by
    rw [okD] at ok
    cases r with
    | tuple h1 h2 h3 h4 =>
      obtain ⟨k, e⟩ := isKs_of xs h _ _ ok h4
      exact ⟨.tup h1 h2 h3 k, e⟩
  | .bool _, _, _, _, ok, _ => by simp [okD] at ok
  | .list _, _, _, _, ok, _ => by simp [okD] at ok
  | .dict _, _, _, _, ok, _ => by simp [okD] at ok
theorem isKs_of : ∀ (ds : List PyData) (h : Heap) (vs : List Value) (as : List Addr), okDs ds = true → ReadsAll h vs ds as → NestedAll h (toKs ds) vs ∧ as = []
  | [], _, _, _, _, r => by
    cases r
    exact ⟨.nil, rfl⟩
  | x :: xs, h, _, _, ok, r => by
    obtain ⟨o1, o2⟩ := okDs_cons ok
    cases r with
    | cons r1 r2 =>
      obtain ⟨k1, e1⟩ := isK_of x h _ _ o1 r1
      obtain ⟨k2, e2⟩ := isKs_of xs h _ _ o2 r2
      exact ⟨.cons k1 k2, by rw [e1, e2]; rfl⟩
end
/-- a tuple of such, not too deep -/
structure Good (d : PyData) : Prop where
  ok : okD d = true
  dp : d.depth ≤ 8
  tu : ∃ xs, d = .tuple xs
/-! ### what stays while tuples stay -/
def Stay (H H' : Hp) : Prop := ∀ b xs, Rd H b (.tup xs) → Rd H' b (.tup xs)
theorem Stay.refl (H : Hp) : Stay H H := fun _ _ h => h
theorem Stay.trans {H H1 H2 : Hp} (a : Stay H H1) (b : Stay H1 H2) : Stay H H2 := fun c xs h => b c xs (a c xs h)
theorem Stay.same {H H' : Hp} (h : Same H H') : Stay H H' := fun b xs r => by
  rcases r with r | ⟨o, r⟩
  · exact .inl (h _ _ r)
  · exact .inr ⟨o, h _ _ r⟩
theorem same_new {H : Hp} {p : Addr} (h : H p = none) (o : HO) : Same H (upd H p o) := fun b u q => by
  rw [upd_ne (ne_of_none q h)]
  exact q
theorem Stay.new {H : Hp} {p : Addr} (h : H p = none) (o : HO) : Stay H (upd H p o) := .same (same_new h o)
theorem Stay.put {H : Hp} {p : Addr} (h : Mut (H p)) (o : HO) : Stay H (upd H p o) := fun b xs r => by
  have ne : b ≠ p := fun z => by
    subst z
    rcases r with r | ⟨u, r⟩
    · rw [r] at h; exact h
    · rw [r] at h; exact h
  unfold Rd
  rw [upd_ne ne]
  exact r
theorem Stay.seq {K : PySem.W.Frag} {H H' : Hp} {a : Addr} {xs : List V} (e : Stay H H') (h : SqT K H a xs) : SqT K H' a xs := by
  rcases h with h | h
  · exact .inl (e _ _ h)
  · exact .inr h
theorem same_tup {K : PySem.W.Frag} {H H' : Hp} {a : Addr} {xs : List V} (e : Same H H') (h : SqT K H a xs) : SqT K H' a xs := (Stay.same e).seq h
section
variable {K : PySem.W.Frag} {H H' : Hp}
mutual
theorem Stay.dp (e : Stay H H') : ∀ (d : PyData) (x : V), okD d = true → Dp K H x d → Dp K H' x d
  | .none, _, _, h => by cases h; exact .non
  | .int _, _, _, h => by cases h; exact .int _
  | .str _, _, _, h => by cases h; exact .str _
  | .tuple ds, _, ok, h => by
    rw [okD] at ok
    cases h with
    | tup h1 h2 => exact .tup (e.seq h1) (Stay.dpAll e ds _ ok h2)
  | .bool _, _, ok, _ => by simp [okD] at ok
  | .list _, _, ok, _ => by simp [okD] at ok
  | .dict _, _, ok, _ => by simp [okD] at ok
theorem Stay.dpAll (e : Stay H H') : ∀ (ds : List PyData) (xs : List V), okDs ds = true → DpAll K H xs ds → DpAll K H' xs ds
  | [], _, _, h => by cases h; exact .nil
  | d :: ds, _, ok, h => by
    obtain ⟨o1, o2⟩ := okDs_cons ok
    cases h with
    | cons h1 h2 => exact .cons (Stay.dp e d _ o1 h1) (Stay.dpAll e ds _ o2 h2)
end
theorem okDs_all {ds : List PyData} (h : ∀ d ∈ ds, okD d = true) : okDs ds = true := by
  induction ds with
  | nil => rfl
  | cons d ds ih =>
    rw [okDs, h d List.mem_cons_self, ih fun e he => h e (List.mem_cons_of_mem _ he)]
    rfl
theorem dpAll_len : ∀ {xs : List V} {ds : List PyData}, DpAll K H xs ds → xs.length = ds.length
  | _, _, .nil => rfl
  | _, _, .cons _ t => by rw [List.length_cons, List.length_cons, dpAll_len t]
theorem dpAll_at : ∀ {xs : List V} {ds : List PyData} {i : Nat} {d : PyData}, DpAll K H xs ds → ds[i]? = some d → ∃ x, xs[i]? = some x ∧ Dp K H x d
  | _, _, _, _, .nil, e => by simp at e
  | _, _, 0, _, .cons h _, e => by
    simp at e
    subst e
    exact ⟨_, rfl, h⟩
  | _, _, i + 1, _, .cons _ t, e => by
    obtain ⟨x, h1, h2⟩ := dpAll_at (i := i) t (by simpa using e)
    exact ⟨x, by simpa using h1, h2⟩
theorem dpAll_at' : ∀ {xs : List V} {ds : List PyData} {i : Nat} {x : V}, DpAll K H xs ds → xs[i]? = some x → ∃ d, ds[i]? = some d ∧ Dp K H x d
  | _, _, _, _, .nil, e => by simp at e
  | _, _, 0, _, .cons h _, e => by
    simp at e
    subst e
    exact ⟨_, rfl, h⟩
  | _, _, i + 1, _, .cons _ t, e => by
    obtain ⟨x, h1, h2⟩ := dpAll_at' (i := i) t (by simpa using e)
    exact ⟨x, by simpa using h1, h2⟩
theorem dpAll_app : ∀ {xs ys : List V} {ds es : List PyData}, DpAll K H xs ds → DpAll K H ys es → DpAll K H (xs ++ ys) (ds ++ es)
  | _, _, _, _, .nil, h => h
  | _, _, _, _, .cons a t, h => .cons a (dpAll_app t h)
theorem Good.ref {x : V} {d : PyData} (g : Good d) (h : Dp K H x d) : ∃ a, x = .ref a := by
  obtain ⟨xs, rfl⟩ := g.tu
  cases h with
  | tup _ _ => exact ⟨_, rfl⟩
end
/-! ### the rules over the abstract heap -/
def tk (L : List (Addr × PyData)) : List (Addr × NK) := L.map fun p => (p.1, toK p.2)
/-- the set of tuples at a, without the tuples -/
def TSetO (w : World) (a : Addr) (L : List (Addr × PyData)) : HO := .ext fun h => ∃ (es : Array (Int × Value)) (ep : Nat) (t : SetTable), (∃ o, h.get? a = some o ∧ o.ExactSet ∧ o.data = .set es ep t) ∧ es.toList = ents w (tk L) ∧ TabOk t (hashes w (tk L)) ∧ ((tk L).map (·.2)).Nodup ∧
  (w.params.followText "set-order" = true ∨ t.led = true) ∧ (tk L).length * 5 < t.mask * 3 ∧ (tk L).length < 64
def XSetO (P : Program) (w : World) (a : Addr) (ms : List Str) : HO := .ext fun h => ∃ (es : Array (Int × Value)) (ep : Nat) (t : SetTable), XSet P w h a ms es ep t
section
variable {X : Cx} {pins : List (Addr × Obj)} {σ : L2.St} {H : Hp} {s : Shared}
theorem key_at (I : Inv X pins σ H s) {a : Addr} {d : PyData} (h : Dp X.K H (.ref a) d) (g : Good d) : TupK s.heap (toK d) a := by
  obtain ⟨as, r⟩ := Dp.reads I d (.ref a) (.ref a) h rfl
  exact ⟨(isK_of d s.heap _ as g.ok r).1, Nat.le_trans (toK_depth d) g.dp⟩
theorem refs_of (g : ∀ d ∈ ds, Good d) {K : PySem.W.Frag} {H : Hp} : ∀ {xs : List V}, DpAll K H xs ds → ∃ L : List (Addr × PyData), xs = L.map (fun p => V.ref p.1) ∧ ds = L.map (·.2) ∧ ∀ p ∈ L, Dp K H (.ref p.1) p.2 := by
  induction ds with
  | nil =>
    intro xs h
    cases h
    exact ⟨[], rfl, rfl, fun p hp => nomatch hp⟩
  | cons d ds ih =>
    intro xs h
    cases h with
    | cons h1 h2 =>
      obtain ⟨L, e1, e2, e3⟩ := ih (fun e he => g e (List.mem_cons_of_mem _ he)) h2
      obtain ⟨a, rfl⟩ := (g d List.mem_cons_self).ref h1
      refine ⟨(a, d) :: L, by rw [e1]; rfl, by rw [e2]; rfl, fun p hp => ?_⟩
      rcases List.mem_cons.mp hp with e | hp
      · rw [e]
        exact h1
      · exact e3 p hp
theorem vals_refs : ∀ {L : List (Addr × PyData)} {us : List Value}, Vals (L.map fun p => V.ref p.1) us → us = (tk L).map fun p => Value.ref p.1
  | [], _, .nil => rfl
  | p :: L, _, .cons r t => by
    cases r
    rw [vals_refs t]
    rfl
/-- set(xs), xs a list or a tuple of tuples -/
def rSetT (K : PySem.W.Frag) (w : World) : List V → Hp → VK → Prop := fun vs H Q => ∃ (l : Addr) (xs : List V) (ds : List PyData), vs = [V.ref l] ∧ (SqL K H l xs ∨ SqT K H l xs) ∧ DpAll K H xs ds ∧ (∀ d ∈ ds, Good d) ∧ ds.length < 64 ∧
  ∀ a L, H a = none → (∀ p ∈ L, p.2 ∈ ds ∧ Dp K H (.ref p.1) p.2) → (∀ d ∈ ds, d ∈ L.map (·.2)) → Q (.ref a) (upd H a (TSetO w a L))
theorem cr_setT (hc : X.calm = true) (hu : X.A.units + 64 < cLine) : CallR X (.type "set") (rSetT X.K X.w) := by
  intro pins s σ H vs us Q I r h
  obtain ⟨l, xs, ds, rfl, hl, hd, hg, hf, q⟩ := h
  obtain ⟨L0, rfl, rfl, hL0⟩ := refs_of hg hd
  rw [Vals.ref1 r]
  have hn : H s.heap.objs.size = none := I.hok.fresh (Nat.le_refl _)
  have hk0 : ∀ p ∈ tk L0, TupK s.heap p.2 p.1 := fun p hp => by
    obtain ⟨z, hz, rfl⟩ := List.mem_map.mp hp
    exact key_at I (hL0 z hz) (hg z.2 (List.mem_map.mpr ⟨z, hz, rfl⟩))
  have few : (tk L0).length < 64 := by
    unfold tk
    rw [List.length_map]
    rw [List.length_map] at hf
    exact hf
  have T := fill_tups (P := X.prog) (w := X.w) s.heap.objs.size s.heap (tk L0) hk0 few
  have fin : ∀ (n : Nat), n = (tk L0).length → ∀ (h' : Heap) (tk' : Nat), (∃ L es ep t, TSet X.prog X.w h' s.heap.objs.size L es ep t ∧ GotN (tk L0) n L) → (∀ b o, s.heap.get? b = some o → h'.get? b = some o) → EP X pins σ Q (.ref s.heap.objs.size) { s with heap := h', toks := tk' } := by
    intro n en h' tk' ⟨L, es, ep, t, R, g⟩ k
    subst en
    have back : ∀ M : List (Addr × NK), (∀ p ∈ M, p ∈ tk L0) → ∃ M0 : List (Addr × PyData), M = tk M0 ∧ ∀ p ∈ M0, p ∈ L0 := by
      intro M
      induction M with
      | nil => exact fun _ => ⟨[], rfl, fun p hp => nomatch hp⟩
      | cons m M ih =>
        intro hm
        obtain ⟨M0, e, h0⟩ := ih fun p hp => hm p (List.mem_cons_of_mem _ hp)
        obtain ⟨z, hz, ez⟩ := List.mem_map.mp (hm m List.mem_cons_self)
        refine ⟨z :: M0, by rw [e, ← ez]; rfl, fun p hp => ?_⟩
        rcases List.mem_cons.mp hp with e' | hp
        · rw [e']
          exact hz
        · exact h0 p hp
    obtain ⟨M, rfl, hM⟩ := back L fun p hp => List.mem_of_mem_take (g.sub p hp)
    have new : ObjOk X.prog X.w (upd H s.heap.objs.size (TSetO X.w s.heap.objs.size M)) h' s.heap.objs.size (TSetO X.w s.heap.objs.size M) := by
      obtain ⟨o, ho, ho2⟩ := R.ob
      refine ⟨⟨es, ep, t, ⟨o, ho, ho2⟩, R.en, R.tab, R.nd, R.led, R.room, R.few⟩, ⟨o, ho⟩, fun h1 h2 ⟨es', ep', t', ⟨o', e1, e2⟩, z⟩ kk => ⟨es', ep', t', ⟨o', kk o' e1, e2⟩, z⟩⟩
    refine ⟨.ref s.heap.objs.size, upd H s.heap.objs.size (TSetO X.w s.heap.objs.size M), I.laid (t' := tk') k (Nat.le_refl _) new, rfl, q _ M hn (fun p hp => ⟨List.mem_map.mpr ⟨p, hM p hp, rfl⟩, hL0 p (hM p hp)⟩) fun d hd => ?_⟩
    obtain ⟨z, hz, rfl⟩ := List.mem_map.mp hd
    have := g.all (z.1, toK z.2) (by rw [List.take_length]; exact List.mem_map.mpr ⟨z, hz, rfl⟩)
    obtain ⟨y, hy, ey⟩ := List.mem_map.mp this
    obtain ⟨y0, hy0, e0⟩ := List.mem_map.mp hy
    have e3 : toK y0.2 = toK z.2 := by
      have e := ey
      rw [← e0] at e
      exact e
    have e4 : y0.2 = z.2 := toK_inj (hg _ (List.mem_map.mpr ⟨y0, hM y0 hy0, rfl⟩)).ok (hg _ (List.mem_map.mpr ⟨z, hz, rfl⟩)).ok e3
    exact List.mem_map.mpr ⟨y0, hy0, e4⟩
  have vlen : ∀ {its : List Value}, its = (tk L0).map (fun p => Value.ref p.1) → its.toArray.size = (tk L0).length := fun e => by
    rw [e, List.size_toArray, List.length_map]
  rcases hl with hl | hl
  · obtain ⟨its, rv, pl, hz⟩ := I.list hl
    have ev := vals_refs rv
    exact call_fill_list (I.ok.hd hc) pl.isList (by rw [show its.toArray.toList = its by simp, ev]; exact T) (by omega) fun h' tk' G k => fin _ (vlen ev) h' tk' G k
  · obtain ⟨its, rv, pl, hz⟩ := I.tuple hl
    have ev := vals_refs rv
    obtain ⟨o, e1, e2, n, e3⟩ := pl
    exact call_fill_tuple (I.ok.hd hc) ⟨o, e1, e2, n, e3⟩ (by rw [show its.toArray.toList = its by simp, ev]; exact T) (by omega) fun h' tk' G k => fin _ (vlen ev) h' tk' G k
theorem tset_get (I : Inv X pins σ H s) {a : Addr} {L : List (Addr × PyData)} (ha : H a = some (TSetO X.w a L)) (hL : ∀ p ∈ L, Good p.2 ∧ Dp X.K H (.ref p.1) p.2) : ∃ es ep t, TSet X.prog X.w s.heap a (tk L) es ep t := by
  obtain ⟨es, ep, t, h1, h2, h3, h4, h5, h6, h7⟩ := (I.hok a _ ha).1
  refine ⟨es, ep, t, h1, h2, h3, h4, fun p hp => ?_, h5, h6, h7⟩
  obtain ⟨z, hz, rfl⟩ := List.mem_map.mp hp
  exact key_at I (hL z hz).2 (hL z hz).1
open PySem.W in
/-- values that stand for data, as values of the layer -/
theorem each_vals {K : PySem.W.Frag} {H : Hp} : ∀ {us : List Value} {ds : List PyData}, EachIs (fun u d => ∃ x, RelV x u ∧ Dp K H x d) us ds → ∃ ys, Vals ys us ∧ DpAll K H ys ds
  | _, _, .nil => ⟨[], .nil, .nil⟩
  | _, _, .cons ⟨x, r, h⟩ t => by
    obtain ⟨ys, v, h'⟩ := each_vals t
    exact ⟨x :: ys, .cons r v, .cons h h'⟩
open PySem.W in
theorem each_map' {α γ δ : Type} {R : γ → δ → Prop} (f : α → γ) (g : α → δ) : ∀ {l : List α}, (∀ a ∈ l, R (f a) (g a)) → EachIs R (l.map f) (l.map g)
  | [], _ => .nil
  | a :: l, h => .cons (h a List.mem_cons_self) (each_map' f g fun b hb => h b (List.mem_cons_of_mem _ hb))
/-- in rising order, as Python's < says -/
abbrev Rising (ds : List PyData) : Prop := ds.Pairwise fun a b => PySem.W.dataLe false id a b = true
/-- sorted(a set of tuples) -/
def rSortT (K : PySem.W.Frag) (w : World) : List V → Hp → VK → Prop := fun vs H Q => ∃ (a : Addr) (L : List (Addr × PyData)), vs = [V.ref a] ∧ H a = some (TSetO w a L) ∧ (∀ p ∈ L, Good p.2 ∧ Dp K H (.ref p.1) p.2) ∧ PySem.W.AllAlike (L.map (·.2)) ∧
  ∀ (ys : List V) (ds : List PyData) (p : Addr), ds.Perm (L.map (·.2)) → ds.Nodup → ds.length < 64 → Rising ds → DpAll K H ys ds → H p = none → Q (.ref p) (upd H p (.lst ys))
theorem cr_sortT (hc : X.calm = true) (hu : X.A.units + 64 < cLine) : CallR X (.builtin "sorted") (rSortT X.K X.w) := by
  intro pins s σ H vs us Q I r h
  obtain ⟨a, L, rfl, ha, hL, hal, q⟩ := h
  obtain ⟨es, ep, t, R⟩ := tset_get I ha hL
  rw [Vals.ref1 r]
  obtain ⟨o, ho, hex, hd⟩ := R.ob
  have hvals : es.toList.map (·.2) = L.map fun p => Value.ref p.1 := by
    rw [R.en]
    unfold ents tk
    rw [List.map_map, List.map_map]
    rfl
  have few : L.length < 64 := by
    have := R.few
    unfold tk at this
    rw [List.length_map] at this
    exact this
  have e1 : PySem.W.EachIs (fun u d => ∃ x, RelV x u ∧ Dp X.K H x d) (es.toList.map (·.2)) (L.map (·.2)) := by
    rw [hvals]
    exact each_map' _ _ fun p hp => ⟨.ref p.1, rfl, (hL p hp).2⟩
  have e2 : PySem.W.EachIs (fun v d => ∃ as, Reads s.heap v (id d) as ∧ ∀ c ∈ as, c < s.heap.objs.size) (es.toList.map (·.2)) (L.map (·.2)) := by
    rw [hvals]
    refine each_map' _ _ fun p hp => ?_
    obtain ⟨as, rd⟩ := Dp.reads I p.2 (.ref p.1) (.ref p.1) (hL p hp).2 rfl
    refine ⟨as, rd, ?_⟩
    rw [(isK_of p.2 s.heap _ as (hL p hp).1.ok rd).2]
    exact fun c hc => nomatch hc
  have hm : ∀ d ∈ (L.map (·.2)).map id, Good d := fun d hd => by
    rw [List.map_id] at hd
    obtain ⟨p, hp, rfl⟩ := List.mem_map.mp hd
    exact (hL p hp).1
  refine sorted_coll (enc := id) (I.ok.hd hc) ⟨o, ho, hex.1, hd⟩ R.fits (by have := size_of_ents R.en; unfold tk at this; rw [List.length_map] at this; unfold scanBound; omega) R.tab.ris R.led e1 e2 (by rw [List.map_id]; exact hal) (.inl fun d hd => (hm d hd).tu) (fun d hd => ?_) fun s' p out c ds k g os hp hg ho' pm sr => ?_
  · have z := (hm d (by rw [List.map_id]; exact hd)).dp
    show X.A.units + 3 + d.depth < cLine
    omega
  · obtain ⟨ys, hv, hd'⟩ := each_vals ho'
    have hn : H p = none := I.hok.fresh hp
    have hl : ds.length = L.length := by rw [pm.length_eq, List.length_map]
    have hlen : ys.length ≤ sizeLine := by
      rw [dpAll_len hd', sizeLine_eq]
      omega
    have nd : ds.Nodup := by
      refine pm.nodup_iff.mpr ?_
      have z := R.nd
      unfold tk at z
      rw [List.map_map] at z
      have z' : (L.map fun p => toK p.2).Nodup := z
      have y : ((L.map (·.2)).map toK).Nodup := by
        rw [List.map_map]
        exact z'
      exact nodup_of_map y
    have J : Inv X pins σ (upd H p (.lst ys)) { s with heap := s'.heap, gens := s'.gens, drawn := s'.drawn, toks := s'.toks } :=
      I.call (ch := []) (Un.laid k hp hn) (I.hok.laid k hp ⟨hlen, out.toList, c, hv, hg⟩) (by rw [g]; exact I.bare) (fun _ z => nomatch z)
    have e : s' = { s with heap := s'.heap, gens := s'.gens, drawn := s'.drawn, toks := s'.toks } := by
      cases s'
      cases s
      cases os
      rfl
    rw [e]
    exact ⟨.ref p, _, J, rfl, q ys ds p pm nd (by omega) sr hd' hn⟩
/-- set(xs), xs a list or a tuple of texts -/
def rSetX (K : PySem.W.Frag) (P : Program) (w : World) : List V → Hp → VK → Prop := fun vs H Q => ∃ (l : Addr) (zs : List Str), vs = [V.ref l] ∧ (SqL K H l (zs.map V.str) ∨ SqT K H l (zs.map V.str)) ∧ zs.length < 1000 ∧
  ∀ a ms, H a = none → ms.Nodup → (∀ z, z ∈ ms ↔ z ∈ zs) → ms.length ≤ zs.length → Q (.ref a) (upd H a (XSetO P w a ms))
theorem vals_texts : ∀ {zs : List Str} {us : List Value}, Vals (zs.map V.str) us → PySem.W.EachIs (fun v z => ∃ u, v = Value.str z u) us zs
  | [], _, .nil => .nil
  | _ :: _, _, .cons r t => .cons r (vals_texts t)
theorem texts_vals {zs : List Str} {us : List Value} (h : PySem.W.EachIs (fun v z => ∃ u, v = Value.str z u) us zs) : Vals (zs.map V.str) us := by
  induction h with
  | nil => exact .nil
  | cons h _ ih => exact .cons h ih
theorem cr_setX (hc : X.calm = true) (hu : X.A.units + 64 < cLine) : CallR X (.type "set") (rSetX X.K X.prog X.w) := by
  intro pins s σ H vs us Q I r h
  obtain ⟨l, zs, rfl, hl, few, q⟩ := h
  rw [Vals.ref1 r]
  have hn : H s.heap.objs.size = none := I.hok.fresh (Nat.le_refl _)
  have fin : ∀ (n : Nat), n = zs.length → ∀ (h' : Heap) (tk' : Nat), (∃ ms es ep t, XSet X.prog X.w h' s.heap.objs.size ms es ep t ∧ (∀ z, z ∈ ms ↔ z ∈ zs.take n) ∧ ms.length ≤ n) → (∀ b o, s.heap.get? b = some o → h'.get? b = some o) → EP X pins σ Q (.ref s.heap.objs.size) { s with heap := h', toks := tk' } := by
    intro n en h' tk' ⟨ms, es, ep, t, R, g, hl⟩ k
    subst en
    have new : ObjOk X.prog X.w (upd H s.heap.objs.size (XSetO X.prog X.w s.heap.objs.size ms)) h' s.heap.objs.size (XSetO X.prog X.w s.heap.objs.size ms) :=
      ⟨⟨es, ep, t, R⟩, ⟨_, R.ob⟩, fun h1 h2 ⟨es', ep', t', R'⟩ kk => ⟨es', ep', t', R'.moved kk⟩⟩
    exact ⟨.ref s.heap.objs.size, _, I.laid (t' := tk') k (Nat.le_refl _) new, rfl, q _ ms hn R.nd (fun z => by rw [g z, List.take_length]) hl⟩
  have sb : scanBound = 4096 := rfl
  rcases hl with hl | hl
  · obtain ⟨its, rv, pl, hz⟩ := I.list hl
    have ev := vals_texts rv
    have T := fill_texts (P := X.prog) (w := X.w) s.heap.objs.size s.heap zs ev (by omega)
    exact call_fill_list (I.ok.hd hc) pl.isList (by rw [show its.toArray.toList = its by simp]; exact T) (by omega) fun h' tk' G k => fin its.toArray.size (by rw [List.size_toArray]; exact ev.length) h' tk' G k
  · obtain ⟨its, rv, pl, hz⟩ := I.tuple hl
    have ev := vals_texts rv
    have T := fill_texts (P := X.prog) (w := X.w) s.heap.objs.size s.heap zs ev (by omega)
    obtain ⟨o, e1, e2, n, e3⟩ := pl
    exact call_fill_tuple (I.ok.hd hc) ⟨o, e1, e2, n, e3⟩ (by rw [show its.toArray.toList = its by simp]; exact T) (by omega) fun h' tk' G k => fin its.toArray.size (by rw [List.size_toArray]; exact ev.length) h' tk' G k
abbrev RisingX (zs : List Str) : Prop := zs.Pairwise fun a b => decide (a.cps.toList ≤ b.cps.toList) = true
open PySem.W in
theorem each_iff {es : List (Int × Value)} : ∀ {ms : List Str}, (∀ e ∈ es, ∃ k u, e.2 = Value.str k u) → ∃ zs, EachIs (fun v z => ∃ u, v = Value.str z u) (es.map (·.2)) zs := by
  induction es with
  | nil => exact fun _ => ⟨[], .nil⟩
  | cons e es ih =>
    intro ms h
    obtain ⟨k, u, ek⟩ := h e List.mem_cons_self
    obtain ⟨zs, hz⟩ := ih (ms := ms) fun e' he => h e' (List.mem_cons_of_mem _ he)
    exact ⟨k :: zs, .cons ⟨u, ek⟩ hz⟩
/-- sorted(a set of texts) -/
def rSortX (P : Program) (w : World) : List V → Hp → VK → Prop := fun vs H Q => ∃ (a : Addr) (ms : List Str), vs = [V.ref a] ∧ H a = some (XSetO P w a ms) ∧ ms.length < 1000 ∧
  ∀ (zs : List Str) (p : Addr), (∀ z, z ∈ zs ↔ z ∈ ms) → zs.Nodup → zs.length ≤ ms.length → RisingX zs → H p = none → Q (.ref p) (upd H p (.lst (zs.map V.str)))
theorem nodup_len_le : ∀ {l m : List Str}, l.Nodup → (∀ z ∈ l, z ∈ m) → l.length ≤ m.length
  | [], _, _, _ => Nat.zero_le _
  | x :: l, m, hn, hs => by
    obtain ⟨h1, h2⟩ := List.nodup_cons.mp hn
    have hx : x ∈ m := hs x List.mem_cons_self
    have ih := nodup_len_le (l := l) (m := m.erase x) h2 fun y hy => (List.mem_erase_of_ne (show y ≠ x from fun e => h1 (by rw [← e]; exact hy))).2 (hs y (List.mem_cons_of_mem _ hy))
    rw [List.length_erase_of_mem hx] at ih
    have := List.length_pos_of_mem hx
    rw [List.length_cons]
    omega
theorem nodup_of_len : ∀ {l m : List Str}, m.Nodup → (∀ z ∈ m, z ∈ l) → l.length ≤ m.length → l.Nodup
  | [], _, _, _, _ => List.nodup_nil
  | x :: l, m, hm, hs, hl => by
    have hxl : x ∉ l := fun hx => by
      have z := nodup_len_le (l := m) (m := l) hm fun z hz => (List.mem_cons.mp (hs z hz)).elim (fun e => by rw [e]; exact hx) id
      rw [List.length_cons] at hl
      omega
    refine List.nodup_cons.mpr ⟨hxl, nodup_of_len (m := m.erase x) (hm.erase x) (fun z hz => ?_) ?_⟩
    · have hz' := List.mem_of_mem_erase hz
      rcases List.mem_cons.mp (hs z hz') with e | h
      · rw [e] at hz
        exact absurd hz (List.Nodup.not_mem_erase hm)
      · exact h
    · by_cases hx : x ∈ m
      · rw [List.length_erase_of_mem hx]
        rw [List.length_cons] at hl
        omega
      · rw [List.erase_of_not_mem hx]
        rw [List.length_cons] at hl
        omega
theorem cr_sortX (hc : X.calm = true) (hu : X.A.units + 64 < cLine) : CallR X (.builtin "sorted") (rSortX X.prog X.w) := by
  intro pins s σ H vs us Q I r h
  obtain ⟨a, ms, rfl, ha, hlt, q⟩ := h
  obtain ⟨es, ep, t, R⟩ := (I.hok a _ ha).1
  rw [Vals.ref1 r]
  have hel := R.ok.el
  have hsz : es.size = ms.length := R.ok.sz
  obtain ⟨zs, hz⟩ := each_iff (es := es.toList) (ms := ms) fun e he => by
    obtain ⟨⟨k, hk, _⟩, _⟩ := hel e he
    obtain ⟨u, hu⟩ := Value.isStrOf_shape (x := k) (v := e.2) hk
    exact ⟨k, u, hu⟩
  have e1 : PySem.W.EachIs (fun u z => RelV (.str z) u) (es.toList.map (·.2)) zs := hz
  have e2 : PySem.W.EachIs (fun v z => ∃ as, Reads s.heap v (PyData.str z) as ∧ ∀ c ∈ as, c < s.heap.objs.size) (es.toList.map (·.2)) zs := hz.mono fun v z ⟨u, e⟩ => ⟨[], by rw [e]; exact .str z u, fun c hc => nomatch hc⟩
  have mem : ∀ z, z ∈ zs ↔ z ∈ ms := fun z => by
    rw [R.ok.mem z]
    constructor
    · intro hm
      obtain ⟨i, hi, ei⟩ := List.getElem_of_mem hm
      have hi2 : i < (es.toList.map (·.2)).length := by rw [hz.length]; exact hi
      have pz : ((es.toList.map (·.2))[i], zs[i]) ∈ (es.toList.map (·.2)).zip zs := List.mem_of_getElem? (i := i) (by rw [List.getElem?_zip_eq_some]; exact ⟨List.getElem?_eq_getElem hi2, List.getElem?_eq_getElem hi⟩)
      obtain ⟨u, hu⟩ := hz.zip _ pz
      have hin := List.getElem_mem hi2
      rw [show (es.toList.map (·.2))[i] = Value.str zs[i] u from hu, ei] at hin
      obtain ⟨e, he, ee⟩ := List.mem_map.mp hin
      exact ⟨e, he, by rw [ee]; exact is_str z u⟩
    · rintro ⟨e, he, hk⟩
      obtain ⟨z', hz', u, hu⟩ := hz.left e.2 (List.mem_map.mpr ⟨e, he, rfl⟩)
      rw [hu] at hk
      have : z = z' := (strKind X.prog X.w).inj (.str z' u) z z' hk (is_str z' u)
      rw [this]
      exact hz'
  have zl : zs.length = ms.length := by rw [← hz.length, List.length_map, Array.length_toList, hsz]
  refine sorted_coll (enc := fun z : Str => PyData.str z) (I.ok.hd hc) ⟨_, R.ob, rfl, rfl⟩ R.ok.fit (by show es.size < scanBound; unfold scanBound; omega) R.ris R.led e1 e2 (PySem.W.AllAlike.of fun b b' => by simp [PySem.W.alike]) (.inr (PySem.W.Sortable.others fun b => ⟨(fun z => nomatch z), (fun xs z => nomatch z)⟩)) (fun d hd => ?_) fun s' p out c zs' k g os hp hg ho' pm sr => ?_
  · show X.A.units + 3 + (PyData.str d).depth < cLine
    simp only [PyData.depth]
    omega
  · have hn : H p = none := I.hok.fresh hp
    have hv : Vals (zs'.map V.str) out.toList := texts_vals ho'
    have hl : zs'.length = ms.length := by rw [pm.length_eq, zl]
    have hlen : (zs'.map V.str).length ≤ sizeLine := by
      rw [List.length_map, sizeLine_eq]
      omega
    have J : Inv X pins σ (upd H p (.lst (zs'.map V.str))) { s with heap := s'.heap, gens := s'.gens, drawn := s'.drawn, toks := s'.toks } :=
      I.call (ch := []) (Un.laid k hp hn) (I.hok.laid k hp ⟨hlen, out.toList, c, hv, hg⟩) (by rw [g]; exact I.bare) (fun _ z => nomatch z)
    have e : s' = { s with heap := s'.heap, gens := s'.gens, drawn := s'.drawn, toks := s'.toks } := by
      cases s'
      cases s
      cases os
      rfl
    rw [e]
    rw [PySem.W.dataLe_str fun z : Str => z] at sr
    have mem' : ∀ z, z ∈ zs' ↔ z ∈ ms := fun z => by rw [pm.mem_iff]; exact mem z
    exact ⟨.ref p, _, J, rfl, q zs' p mem' (nodup_of_len R.nd (fun z hz => (mem' z).mpr hz) (Nat.le_of_eq hl)) (Nat.le_of_eq hl) sr hn⟩
/-- sorted(a list of tuples) -/
def rSortL (K : PySem.W.Frag) : List V → Hp → VK → Prop := fun vs H Q => ∃ (a : Addr) (xs : List V) (ds : List PyData), vs = [V.ref a] ∧ SqL K H a xs ∧ DpAll K H xs ds ∧ (∀ d ∈ ds, Good d) ∧ PySem.W.AllAlike ds ∧
  ∀ (ys : List V) (es : List PyData) (p : Addr), es.Perm ds → Rising es → DpAll K H ys es → H p = none → Q (.ref p) (upd H p (.lst ys))
theorem cr_sortL (hu : X.A.units + 64 < cLine) : CallR X (.builtin "sorted") (rSortL X.K) := by
  intro pins s σ H vs us Q I r h
  obtain ⟨a, xs, ds, rfl, ha, hd, hg, hal, q⟩ := h
  rw [Vals.ref1 r]
  obtain ⟨its, rv, pl, hz⟩ := I.list ha
  have both : ∀ {xs : List V} {ds : List PyData} {its : List Value}, Vals xs its → DpAll X.K H xs ds → (∀ d ∈ ds, Good d) → PySem.W.EachIs (fun u d => (∃ x, RelV x u ∧ Dp X.K H x d) ∧ ∃ as, Reads s.heap u (id d) as) its ds := by
    intro xs ds its rv
    induction rv generalizing ds with
    | nil =>
      intro hd _
      cases hd
      exact .nil
    | cons r _ ih =>
      intro hd hg
      cases hd with
      | cons h1 h2 => exact .cons ⟨⟨_, r, h1⟩, Dp.reads I _ _ _ h1 r⟩ (ih h2 fun d hd => hg d (List.mem_cons_of_mem _ hd))
  have e0 := both rv hd hg
  have il : its.length = ds.length := e0.length
  have sl := sizeLine_eq
  have xl := rv.length
  have er' : PySem.W.EachIs (fun v d => ∃ as, Reads (PySem.W.sortingHeap (PySem.W.copyHeap s.heap its) (s.heap.objs.size + 1) its) v (id d) as) its ds := e0.mono fun _ _ z => by
    obtain ⟨_, as, rd⟩ := z
    exact ⟨as, PyProof.Rows.Reads.keeps (fun _ _ => PySem.W.sorting_copy_old) rd⟩
  have can : PySem.W.SortsAt X.prog X.w X.A.in1.in1 { s with heap := PySem.W.sortingHeap (PySem.W.copyHeap s.heap its) (s.heap.objs.size + 1) its } (PySem.W.dataKind (PySem.W.sortingHeap (PySem.W.copyHeap s.heap its) (s.heap.objs.size + 1) its) ds) its :=
    SortsAt.tups (s := { s with heap := PySem.W.sortingHeap (PySem.W.copyHeap s.heap its) (s.heap.objs.size + 1) its }) er' hal (fun d hd => (hg d hd).tu) fun d hd => by
      have z := (hg d hd).dp
      simp only [Around.in1_units]
      omega
  refine PySem.W.sorted_vals pl.isList can (by omega) ?_
  have eo : PySem.W.EachIs (fun u d => ∃ x, RelV x u ∧ Dp X.K H x d) (PySem.W.sortVals (PySem.W.dataKind (PySem.W.sortingHeap (PySem.W.copyHeap s.heap its) (s.heap.objs.size + 1) its) ds) false its its) (ds.mergeSort (PySem.W.dataLe false id)) := by
    have z := PySem.W.sortVals_data (h' := PySem.W.sortingHeap (PySem.W.copyHeap s.heap its) (s.heap.objs.size + 1) its) (enc := id) false (e0.mono fun _ _ z => z.1) er' (by rw [List.map_id]; exact hal)
    rw [List.map_id] at z
    exact z
  obtain ⟨ys, hv, hd'⟩ := each_vals eo
  have sf := sort_facts id ds
  generalize hout : PySem.W.sortVals (PySem.W.dataKind (PySem.W.sortingHeap (PySem.W.copyHeap s.heap its) (s.heap.objs.size + 1) its) ds) false its its = out at eo hv
  have hn : H (s.heap.objs.size + 1) = none := I.hok.fresh (Nat.le_succ _)
  obtain ⟨c, hcc⟩ := sortedAll_at s.heap its out.toArray
  have hlen : ys.length ≤ sizeLine := by
    rw [dpAll_len hd', sf.1.length_eq]
    omega
  exact ⟨.ref (s.heap.objs.size + 1), upd H (s.heap.objs.size + 1) (.lst ys), I.laid (t' := s.toks) (fun b o e => sortedAll_old e) (Nat.le_succ _) ⟨hlen, out, c, hv, hcc⟩, rfl, q ys _ _ sf.1 sf.2 hd' hn⟩
end
end Rw
namespace Rw
open PySem PySem.Spec PyProof.Rows L2
/-! ### dicts whose keys are tuples of texts and of such tuples -/
abbrev Ent := PyData × Addr × V
def RelE (p : Ent) (q : NK × Addr × Value) : Prop := toK p.1 = q.1 ∧ p.2.1 = q.2.1 ∧ RelV p.2.2 q.2.2
def NDO (P : Program) (w : World) (d : Addr) (kvs : List Ent) : HO := .ext fun h => kvs.length ≤ 100000 ∧ (d == sysModules) = false ∧ ∃ xs : List (NK × Addr × Value), Paired RelE kvs xs ∧
  ∃ o es ep, h.get? d = some o ∧ o.ExactDict ∧ o.data = .dict es ep ∧ es.toList = xs.map (entryOfKey (nestedKind P w)) ∧ (xs.map (·.1)).Nodup
/-- the entries' keys stand -/
abbrev KeysOk (K : PySem.W.Frag) (H : Hp) (kvs : List Ent) : Prop := ∀ p ∈ kvs, Good p.1 ∧ Dp K H (.ref p.2.1) p.1
theorem KeysOk.stay {K : PySem.W.Frag} {H H' : Hp} {kvs : List Ent} (h : KeysOk K H kvs) (e : Stay H H') : KeysOk K H' kvs := fun p hp => ⟨(h p hp).1, e.dp _ _ (h p hp).1.ok (h p hp).2⟩
theorem paired_mem {α β : Type} {F : α → β → Prop} : ∀ {l : List α} {m : List β}, Paired F l m → ∀ y ∈ m, ∃ x ∈ l, F x y
  | _, _, .nil, y, h => nomatch h
  | _, _, .cons r t, y, h => by
    rcases List.mem_cons.mp h with e | h
    · subst e
      exact ⟨_, List.mem_cons_self, r⟩
    · obtain ⟨x, hx, hr⟩ := paired_mem t y h
      exact ⟨x, List.mem_cons_of_mem _ hx, hr⟩
theorem paired_snoc {α β : Type} {F : α → β → Prop} {x : α} {y : β} (r : F x y) : ∀ {l : List α} {m : List β}, Paired F l m → Paired F (l ++ [x]) (m ++ [y])
  | _, _, .nil => .cons r .nil
  | _, _, .cons q t => .cons q (paired_snoc r t)
/-- what a look-up finds -/
theorem nd_look {kvs : List Ent} {xs : List (NK × Addr × Value)} (p : Paired RelE kvs xs) (hk : ∀ p ∈ kvs, Good p.1) {k : PyData} (g : Good k) :
    (∀ q, atKey xs (toK k) = some q → ∃ z ∈ kvs, z.1 = k ∧ RelV z.2.2 q.2) ∧ (atKey xs (toK k) = none → ∀ z ∈ kvs, z.1 ≠ k) := by
  induction p with
  | nil => exact ⟨fun q h => by simp [atKey] at h, fun _ z hz => nomatch hz⟩
  | @cons a b as bs r t ih =>
    obtain ⟨r1, r2, r3⟩ := r
    obtain ⟨i1, i2⟩ := ih fun p hp => hk p (List.mem_cons_of_mem _ hp)
    by_cases e : b.1 = toK k
    · have ek : a.1 = k := toK_inj (hk a List.mem_cons_self).ok g.ok (r1.trans e)
      have ea : atKey (b :: bs) (toK k) = some b.2 := by simp [atKey, e]
      refine ⟨fun q h => ?_, fun h => ?_⟩
      · rw [ea] at h
        cases h
        exact ⟨a, List.mem_cons_self, ek, r3⟩
      · rw [ea] at h
        cases h
    · have ea : atKey (b :: bs) (toK k) = atKey bs (toK k) := by simp [atKey, e]
      have ne : a.1 ≠ k := fun z => e (by rw [← r1, z])
      refine ⟨fun q h => ?_, fun h z hz => ?_⟩
      · rw [ea] at h
        obtain ⟨z, hz, h1⟩ := i1 q h
        exact ⟨z, List.mem_cons_of_mem _ hz, h1⟩
      · rw [ea] at h
        rcases List.mem_cons.mp hz with e' | hz
        · rw [e']
          exact ne
        · exact i2 h z hz
section
variable {X : Cx} {pins : List (Addr × Obj)} {σ : L2.St} {H : Hp} {s : Shared} {d : Addr} {kvs : List Ent} {E : Value → Shared → Prop}
theorem nd_get (I : Inv X pins σ H s) (hd : H d = some (NDO X.prog X.w d kvs)) (hk : KeysOk X.K H kvs) : kvs.length ≤ 100000 ∧ (d == sysModules) = false ∧ ∃ xs, Paired RelE kvs xs ∧ s.heap.DictOfH (nestedKind X.prog X.w) d xs := by
  obtain ⟨hz, hs, xs, p, o, es, ep, h1, h2, h3, h4, h5⟩ := (I.hok d _ hd).1
  refine ⟨hz, hs, xs, p, o, es, ep, h1, h2, h3, h4, fun x hx => ?_, h5⟩
  obtain ⟨q, hq, r1, r2, _⟩ := paired_mem p x hx
  have := key_at I (hk q hq).2 (hk q hq).1
  rw [r1, r2] at this
  exact this
theorem nd_new {kvs : List Ent} {xs : List (NK × Addr × Value)} {h' : Heap} {H' : Hp} (hz : kvs.length ≤ 100000) (hs : (d == sysModules) = false) (p : Paired RelE kvs xs) (m : h'.DictOfH (nestedKind X.prog X.w) d xs) : ObjOk X.prog X.w H' h' d (NDO X.prog X.w d kvs) := by
  obtain ⟨o, es, ep, h1, h2, h3, h4, _, h5⟩ := m
  refine ⟨⟨hz, hs, xs, p, o, es, ep, h1, h2, h3, h4, h5⟩, ⟨o, h1⟩, fun a b ⟨z1, z2, xs', p', o', es', ep', k1, k2⟩ kk => ⟨z1, z2, xs', p', o', es', ep', kk o' k1, k2⟩⟩
/-- k in d, k not in d -/
def rInN (K : PySem.W.Frag) (P : Program) (w : World) (neg : Bool) : R2 := fun x y H Q => ∃ (a d : Addr) (kvs : List Ent) (k : PyData), x = .ref a ∧ y = .ref d ∧ H d = some (NDO P w d kvs) ∧ KeysOk K H kvs ∧ Good k ∧ Dp K H (.ref a) k ∧
  ∀ b : Bool, (b = true ↔ k ∈ kvs.map (·.1)) → Q (.bl (if neg then !b else b)) H
theorem nd_isSome {xs : List (NK × Addr × Value)} (p : Paired RelE kvs xs) (hk : ∀ p ∈ kvs, Good p.1) {k : PyData} (g : Good k) : (atKey xs (toK k)).isSome = true ↔ k ∈ kvs.map (·.1) := by
  obtain ⟨l1, l2⟩ := nd_look p hk g
  cases e : atKey xs (toK k) with
  | none => exact ⟨(fun h => nomatch h), fun h => by
      obtain ⟨z, hz, ez⟩ := List.mem_map.mp h
      exact absurd ez (l2 e z hz)⟩
  | some q => exact ⟨fun _ => by
      obtain ⟨z, hz, h1, _⟩ := l1 q e
      exact List.mem_map.mpr ⟨z, hz, h1⟩, fun _ => rfl⟩
theorem op_inN (hu : X.A.units + 64 < cLine) : OpR X (compareOp .In) (rInN X.K X.prog X.w false) := by
  intro pins s σ H x y v u Q I rx ry h
  obtain ⟨a, d, kvs, k, rfl, rfl, hd, hk, g, da, q⟩ := h
  cases rx
  cases ry
  obtain ⟨hz, hs, xs, p, m⟩ := nd_get I hd hk
  refine wpAny_in_heap (knd := nestedKind X.prog X.w) (by show X.A.units + 1 + 8 < cLine; omega) (key_at I da g) hs m ?_
  exact ⟨.bl _, H, I.tok _, rfl, q _ (nd_isSome p (fun z hz => (hk z hz).1) g)⟩
theorem op_notInN (hu : X.A.units + 64 < cLine) : OpR X (compareOp .NotIn) (rInN X.K X.prog X.w true) := by
  intro pins s σ H x y v u Q I rx ry h
  obtain ⟨a, d, kvs, k, rfl, rfl, hd, hk, g, da, q⟩ := h
  cases rx
  cases ry
  obtain ⟨hz, hs, xs, p, m⟩ := nd_get I hd hk
  refine wpAny_notIn_heap (knd := nestedKind X.prog X.w) (by show X.A.units + 1 + 8 < cLine; omega) (key_at I da g) hs m ?_
  exact ⟨.bl _, H, I.tok _, rfl, q _ (nd_isSome p (fun z hz => (hk z hz).1) g)⟩
/-- d[k], k is there -/
def rGetN (K : PySem.W.Frag) (P : Program) (w : World) : R2 := fun x y H Q => ∃ (a d : Addr) (kvs : List Ent) (k : PyData), x = .ref d ∧ y = .ref a ∧ H d = some (NDO P w d kvs) ∧ KeysOk K H kvs ∧ Good k ∧ Dp K H (.ref a) k ∧ k ∈ kvs.map (·.1) ∧
  ∀ z ∈ kvs, z.1 = k → Q z.2.2 H
theorem pe_getN {o i : Expr} {td ty : TE} {pos : Pos} (hu : X.A.units + 64 < cLine) (hr : PE X o td) (hi : PE X i ty) (hs : NoSl i) : PE X (.Subscript o i pos) (tOp (rGetN X.K X.prog X.w) td ty) := by
  refine ⟨fun pins s σ H Q I h => ?_⟩
  refine subD_of PySem.F.slot_dict_getitem.lookup hs (thn (hr.run pins s σ H _ I h) fun v s1 ⟨x, H1, I1, r1, q1⟩ => thn (hi.run pins s1 σ H1 _ I1 q1) fun u s2 ⟨y, H2, I2, r2, a, d, kvs, k, ex, ey, hd, hk, g, da, hm, q⟩ => ?_)
  subst ex ey
  cases r1
  cases r2
  obtain ⟨hz, hs', xs, p, m⟩ := nd_get I2 hd hk
  obtain ⟨l1, l2⟩ := nd_look p (fun z hz => (hk z hz).1) g
  refine ⟨m.typeIs, ?_⟩
  cases e : atKey xs (toK k) with
  | none =>
    obtain ⟨z, hz, ez⟩ := List.mem_map.mp hm
    exact absurd ez (l2 e z hz)
  | some pv =>
    obtain ⟨z, hz, ez, rz⟩ := l1 pv e
    exact wpAny_getItem_heap (knd := nestedKind X.prog X.w) (by show X.A.units + 1 + 8 < cLine; omega) (key_at I2 da g) m e ⟨z.2.2, H2, I2.tok _, rz, q z hz ez⟩
/-- {} -/
theorem pe_dnewN {pos : Pos} : PE X (.Dict [] [] pos) (fun _ H Q => ∀ p, H p = none → Q (.ref p) (upd H p (NDO X.prog X.w p []))) := ⟨fun pins s σ H Q I h =>
  wpAny_Dict_empty ⟨.ref s.heap.objs.size, _, I.laid (a := s.heap.objs.size) (o := NDO X.prog X.w s.heap.objs.size []) (t' := s.toks) (fun _ _ q => Heap.get?_push_of_some _ q) (Nat.le_refl _)
    (nd_new (X := X) (Nat.zero_le _) (by have := I.big; exact beq_eq_false_iff_ne.mpr (Nat.ne_of_gt this)) .nil (Heap.DictOfH.new _)), rfl, h _ (I.hok.fresh (Nat.le_refl _))⟩⟩
/-- an entry more -/
theorem nd_put {a : Addr} {k : PyData} {x : V} {u : Value} {A : Around} {Q : Unit → Shared → Prop} (hu : A.units + 8 < cLine) (I : Inv X pins σ H s) (hd : H d = some (NDO X.prog X.w d kvs)) (hk : KeysOk X.K H kvs) (g : Good k) (da : Dp X.K H (.ref a) k) (new : k ∉ kvs.map (·.1)) (few : kvs.length < 100000) (r : RelV x u)
    (h : ∀ s', Inv X pins σ (upd H d (NDO X.prog X.w d (kvs ++ [(k, a, x)]))) s' → (∀ b o, b ≠ d → s.heap.get? b = some o → s'.heap.get? b = some o) → Q () s') : wpAny (model X.prog X.w) A (dictSet d (.ref a) u) Q E s := by
  obtain ⟨hz, hs, xs, p, m⟩ := nd_get I hd hk
  have xl : xs.length = kvs.length := (Paired.length p).symm
  have none_ : atKey xs (toK k) = none := by
    cases e : atKey xs (toK k) with
    | none => rfl
    | some q => exact absurd ((nd_isSome p (fun z hz => (hk z hz).1) g).mp (by rw [e]; rfl)) new
  refine wpAny_dictSet_heap (knd := nestedKind X.prog X.w) (hsz := by rw [sizeLine_eq]; omega) hu (key_at I da g) m fun h' m' sb => ?_
  rw [storedH_new none_] at m'
  have ex : ∃ q, h'.get? d = some q := let ⟨q, _, _, hq, _⟩ := m'; ⟨q, hq⟩
  refine h _ (d_write (t' := _) I (by rw [hd]; exact True.intro) sb ex (nd_new (by rw [List.length_append, List.length_singleton]; omega) hs (paired_snoc ⟨rfl, rfl, r⟩ p) m')) fun b o hb e => (sb.2 b hb).trans e
/-- d.setdefault(k, x) -/
def tSetdN (K : PySem.W.Frag) (P : Program) (w : World) (td ty tx : TE) : TE := fun σ H Q => td σ H fun x H1 => ∃ d kvs0, x = .ref d ∧ H1 d = some (NDO P w d kvs0) ∧ ty σ H1 fun y H2 => tx σ H2 fun z H3 => ∃ (a : Addr) (kvs : List Ent) (k : PyData), y = .ref a ∧ H3 d = some (NDO P w d kvs) ∧ KeysOk K H3 kvs ∧
  Good k ∧ Dp K H3 (.ref a) k ∧ kvs.length < 100000 ∧ (∀ e ∈ kvs, e.1 = k → Q e.2.2 H3) ∧ (k ∉ kvs.map (·.1) → Q z (upd H3 d (NDO P w d (kvs ++ [(k, a, z)]))))
theorem pe_setdN {o e f : Expr} {td ty tx : TE} {apos cpos : Pos} (hu : X.A.units + 64 < cLine) (ho : PE X o td) (he : PE X e ty) (hf : PE X f tx) (m : M2 X o "setdefault" apos e f cpos) : PE X (.Call (.Attribute o "setdefault" apos) [e, f] [] cpos) (tSetdN X.K X.prog X.w td ty tx) := by
  refine ⟨fun pins s σ H Q I h => ?_⟩
  refine wpAny_Call_method m.base m.few m.line PySem.F.plainAttrs_dict PySem.F.slot_dict_setdefault PySem.F.type_dict_setdefault (thn (ho.run pins s σ H _ I h) fun u s1 ⟨x, H1, I1, rx, d, kvs0, ex, d0, q1⟩ => ?_)
  subst ex
  obtain rfl : u = Value.ref d := rx
  have ty0 : ∃ o, s1.heap.get? d = some o ∧ o.cls = .type "dict" ∧ o.dict = none := by
    obtain ⟨_, _, xs, _, o, es, ep, h1, h2, _⟩ := (I1.hok d _ d0).1
    exact ⟨o, h1, h2.1, h2.2.1⟩
  obtain ⟨ob, ho1, ho2, ho3⟩ := ty0
  refine ⟨⟨ob, ho1, ho2⟩, fun b eb => ?_, ?_⟩
  · cases eb
    exact ⟨ob, ho1, ho3⟩
  rw [m.trees]
  refine Calls.callWith_builtin rfl (Calls.evalArgs_plain (Calls.spliced_cons (thn (he.run pins s1 σ H1 _ I1 q1) fun iv s2 ⟨y, H2, I2, ry, q2⟩ =>
    Calls.spliced_cons (thn (hf.run pins s2 σ H2 _ I2 q2) fun fv s3 ⟨z, H3, I3, rz, a, kvs, k, ey, hd, hk, g, da, few, q3, q4⟩ => Calls.spliced_nil ?_))))
  subst ey
  obtain rfl : iv = Value.ref a := ry
  obtain ⟨hz, hs, xs, p, mm⟩ := nd_get I3 hd hk
  have xl : xs.length = kvs.length := (Paired.length p).symm
  obtain ⟨l1, l2⟩ := nd_look p (fun z hz => (hk z hz).1) g
  refine call_setdefault_heap (knd := nestedKind X.prog X.w) (hsz := by rw [sizeLine_eq]; omega) (by show X.A.units + 1 + 8 < cLine; omega) (key_at I3 da g) hs mm (fun pv hp => ?_) fun hn h' m' sb => ?_
  · obtain ⟨z', hz', ez, rz'⟩ := l1 pv hp
    exact ⟨z'.2.2, H3, I3.tok _, rz', q3 z' hz' ez⟩
  · rw [storedH_new hn] at m'
    have ex : ∃ q, h'.get? d = some q := let ⟨q, _, _, hq, _⟩ := m'; ⟨q, hq⟩
    refine ⟨z, _, d_write (t' := _) I3 (by rw [hd]; exact True.intro) sb ex (nd_new (by rw [List.length_append, List.length_singleton]; omega) hs (paired_snoc ⟨rfl, rfl, rz⟩ p) m'), rz, q4 fun hm => ?_⟩
    obtain ⟨z', hz', ez⟩ := List.mem_map.mp hm
    exact l2 hn z' hz' ez
end
end Rw
namespace Rw
open PySem PySem.Spec PyProof.Rows L2
/-! ### y = {x: True for x in xs}, xs a list of tuples, no two alike -/
theorem idx_new {ds : List PyData} (hn : ds.Nodup) {i : Nat} {d : PyData} (h : ds[i]? = some d) : d ∉ ds.take i := fun hm => by
  have z := take_snoc h
  have nd : (ds.take (i + 1)).Nodup := List.Nodup.sublist (List.take_sublist _ _) hn
  rw [z] at nd
  obtain ⟨_, _, h3⟩ := List.nodup_append.mp nd
  exact h3 d hm d (List.mem_singleton.mpr rfl) rfl
theorem vals_at : ∀ {xs : List V} {us : List Value} {i : Nat} {u : Value}, Vals xs us → us[i]? = some u → ∃ x, xs[i]? = some x ∧ RelV x u
  | _, _, _, _, .nil, e => by simp at e
  | _, _, 0, _, .cons r _, e => by
    simp at e
    subst e
    exact ⟨_, rfl, r⟩
  | _, _, i + 1, _, .cons _ t, e => by
    obtain ⟨x, h1, h2⟩ := vals_at (i := i) t (by simpa using e)
    exact ⟨x, by simpa using h1, h2⟩
section
variable {X : Cx}
def tSetD (K : PySem.W.Frag) (P : Program) (w : World) (ti : TE) : TE := fun σ H Q => ti σ H fun v H1 => ∃ (l : Addr) (xs : List V) (ds : List PyData), v = .ref l ∧ SqL K H1 l xs ∧ DpAll K H1 xs ds ∧ (∀ d ∈ ds, Good d) ∧ ds.Nodup ∧ ds.length ≤ 1000 ∧
  ∀ D kvs, H1 D = none → kvs.map (·.1) = ds → KeysOk K H1 kvs → Q (.ref D) (upd H1 D (NDO P w D kvs))
theorem ps_setDictTrue {i : Nat} {y x : Str} {py p1 p2 p3 pos spos : Pos} {kk : Nat} {iter : Expr} {scope : Scope} {own : List (Str × Nat)} {ti : TE} (hc : X.calm = true) (hu : X.A.units + 64 < cLine) (hN : X.N.Nodup) (hy : X.N[i]? = some y) (hyl : X.env.scope.names.lookup y = some .local)
    (hsw : swapsWith (.DictComp (.Name x p1) (.Constant (.bool true) kk p2) [⟨.Name x p3, iter, [], 0⟩] scope pos) (some (.Name y py)) spos.line X.env = pure true) (hi : PE X iter ti) (ok : BlkOk X.N X.env.scope scope own)
    (hx : scope.names.lookup x = some .local) (hdeb : (x == ("__debug__" : Str)) = false) (hcell : ∀ z ∈ scope.names, z.2 ≠ .cell) (hs : ∀ x, foldedSetIterable iter X.env x = pure x := by intro _; rfl) :
    PS X (.Assign [.Name y py] (.DictComp (.Name x p1) (.Constant (.bool true) kk p2) [⟨.Name x p3, iter, [], 0⟩] scope pos) spos) (tAsg (tSetD X.K X.prog X.w ti) (gName i)) := by
  refine ⟨fun pins s σ H D I h => ?_⟩
  have h : tSetD X.K X.prog X.w ti σ H (fun x H1 => gName i x σ H1 D.nx) := h
  have hfree : ∀ y ∈ scope.names, y.2 = .free → ∃ c, X.env.cells.lookup y.1 = some c := fun y hy e => by
    rcases ok.free y hy e with k | k
    · exact I.ok.has _ (.inl k)
    · exact I.ok.has _ (.inr k)
  rw [exec_Assign_Name_used _ _ _ _ hsw]
  refine wpAny_bind (wpAny_standAt (wpAny_bind ?_))
  show wpAny _ X.A (do let _ ← comprehension (.DictComp (.Name x p1) (.Constant (.bool true) kk p2) [⟨.Name x p3, iter, [], 0⟩] scope pos) scope X.env _ newDict false (eval iter X.env) (some (assign (.Name y py) X.env))) _ _ s
  have main : wpAny (model X.prog X.w) X.A (eval iter X.env) (fun xv s₁ => wpAny (model X.prog X.w) X.A (pyIter xv)
      (DcGoes X.prog X.w X.A X.xe X.env scope (cloFrom X.env.cells scope.names []) (.Name x p3) [] (.Name x p1) (.Constant (.bool true) kk p2) (some (assign (.Name y py) X.env)) (fun _ s' => SP X pins D .next s')) X.xe s₁) X.xe s := by
    refine thn (hi.run pins s σ H _ I h) fun xv s1 ⟨v, H1, I1, rv, l, xs, ds, ev, hl, hd, hg, hnd, hlen, q⟩ => ?_
    subst ev
    obtain rfl : xv = Value.ref l := rv
    obtain ⟨its, rvs, pl, _⟩ := I1.list hl
    have hl0 : s1.heap.IsList l its.toArray := pl.isList
    have hlt : (l : Nat) < s1.heap.objs.size := by
      obtain ⟨o, ho, _⟩ := hl0
      exact Heap.lt_size ho
    have il : its.length = ds.length := by rw [← rvs.length, dpAll_len hd]
    refine wpAny_pyIter_list hl0 ?_
    refine ⟨s1.heap.objs.size, [s1.heap.objs.size, l], [s1.heap.objs.size], its.toArray.size, _, _, rfl, Goes.list (I1.ok.hd hc) s1.heap.objs.size l (Nat.ne_of_lt hlt) its.toArray, ⟨⟨_, Heap.get?_push_size _ rfl, rfl, rfl⟩, hl0.push _⟩, ?_⟩
    intro D0 C s3 hB hDobj
    obtain ⟨⟨h3, tk3, rfl⟩, old, nD, nC, hDC, hnm⟩ := hB
    have szp : (s1.heap.push { cls := .type "list_iterator", data := .fields #[.ref l, .int 0 0] }).objs.size = s1.heap.objs.size + 1 := Heap.size_push ..
    have nD' : s1.heap.objs.size + 1 ≤ D0 := by
      have q := nD
      rw [szp] at q
      exact q
    have nC' : s1.heap.objs.size + 1 ≤ C := by
      have q := nC
      rw [szp] at q
      exact q
    have sD : s1.heap.objs.size ≤ D0 := Nat.le_trans (Nat.le_succ _) nD'
    have sC : s1.heap.objs.size ≤ C := Nat.le_trans (Nat.le_succ _) nC'
    have neDI : s1.heap.objs.size ≠ D0 := Nat.ne_of_lt nD'
    have neCI : s1.heap.objs.size ≠ C := Nat.ne_of_lt nC'
    have neDl : (l : Nat) ≠ D0 := Nat.ne_of_lt (Nat.lt_of_lt_of_le hlt sD)
    have neCl : (l : Nat) ≠ C := Nat.ne_of_lt (Nat.lt_of_lt_of_le hlt sC)
    have hDn : H1 D0 = none := I1.hok.fresh sD
    have hIn : H1 s1.heap.objs.size = none := I1.hok.fresh (Nat.le_refl _)
    have hCn : H1 C = none := I1.hok.fresh sC
    have all3 : ∀ b o, s1.heap.get? b = some o → h3.get? b = some o := fun b o e => old b o (Heap.get?_push_of_some _ e)
    have kx : (compEnvC scope (cloFrom X.env.cells scope.names []) C X.env).kindOf x = some .local := lookup_relabel_local hx
    have hp : ((compEnvC scope (cloFrom X.env.cells scope.names []) C X.env).scope.kind == .class || ((compEnvC scope (cloFrom X.env.cells scope.names []) C X.env).scope.kind == .module && (compEnvC scope (cloFrom X.env.cells scope.names []) C X.env).locals != (compEnvC scope (cloFrom X.env.cells scope.names []) C X.env).globals)) = false := by
      show (scope.kind == .class || (scope.kind == .module && _)) = false
      rw [ok.kind]
      rfl
    have fpI : ∀ kvs, FpOk X pins (upd H1 D0 (NDO X.prog X.w D0 kvs)) s1.heap.objs.size := fun kvs => I1.fpOk (Nat.le_refl _) (by rw [upd_ne neDI]; exact hIn)
    have fpC : ∀ kvs, FpOk X pins (upd H1 D0 (NDO X.prog X.w D0 kvs)) C := fun kvs => I1.fpOk sC (by rw [upd_ne (fun e => hDC e.symm)]; exact hCn)
    refine ⟨fun i s₁ => ∃ kvs m, Inv X pins σ (upd H1 D0 (NDO X.prog X.w D0 kvs)) s₁ ∧ s₁.heap.Ns C m ∧ kvs.map (·.1) = ds.take i ∧ KeysOk X.K H1 kvs, ?_, ?_, ?_, ?_⟩
    · -- at the start
      refine ⟨[], _, I1.laid (t' := tk3) all3 sD (nd_new (X := X) (Nat.zero_le _) ?_ .nil ?_), hnm, rfl, fun p hp => nomatch hp⟩
      · exact beq_eq_false_iff_ne.mpr (Nat.ne_of_gt (Nat.lt_of_lt_of_le I1.big sD))
      · exact ⟨_, #[], 0, hDobj, ⟨rfl, rfl, rfl⟩, rfl, rfl, (fun _ z => nomatch z), List.nodup_nil⟩
    · -- the iterator turns
      rintro i s₁ h' tk ⟨kvs, m, J, hn, e, ko⟩ kp _
      obtain ⟨f0, f1, f2, f3, f4, f5⟩ := fpI kvs
      exact ⟨kvs, m, J.turned (t' := tk) (fun b o hb q => kp b o (by simpa using hb) q) f0 f1 f3 f4 f5, hn.at' fun o q => kp _ o (by simpa using (fun z => neCI z.symm)) q, e, ko⟩
    · -- one turn
      rintro i v s₁ hi' hv st ⟨kvs, m, J, hn, e, ko⟩
      have hv' : its[i]? = some v := by simpa using hv
      obtain ⟨x0, hx0, rx0⟩ := vals_at rvs hv'
      obtain ⟨d, hd0, dd⟩ := dpAll_at' hd hx0
      have gd := hg d (List.mem_of_getElem? hd0)
      obtain ⟨a, rfl⟩ := gd.ref dd
      obtain rfl : v = Value.ref a := rx0
      refine wpAny_assign_Name (wpAny_storeName_local kx hn (fun h5 n5 s5 => ?_) hp)
      refine wpAny_tests_nil ?_
      show wpAny _ _ _ _ _ _
      obtain ⟨f0, f1, f2, f3, f4, f5⟩ := fpC kvs
      have J5 : Inv X pins σ (upd H1 D0 (NDO X.prog X.w D0 kvs)) { s₁ with heap := h5, toks := s₁.toks + 1 } := J.turned (t' := s₁.toks + 1) (fun b o hb q => (s5.2 b hb).trans q) f0 f1 f3 f4 f5
      rw [eval_Name _ _ _ hdeb]
      refine wpAny_bind (wpAny_standAt (wpAny_loadName_local ok.kind kx n5 (v := .ref a) (if_pos rfl) ?_))
      refine Constant_bool ?_
      have st5 : h5.IsListIter s1.heap.objs.size l (i + 1) ∧ h5.IsList l its.toArray := ⟨st.1.at fun o q => (s5.2 _ neCI).trans q, st.2.at fun o q => (s5.2 _ neCl).trans q⟩
      have sty : Stay H1 (upd H1 D0 (NDO X.prog X.w D0 kvs)) := Stay.new hDn _
      refine nd_put (s := { s₁ with heap := h5, toks := s₁.toks + 1 }) (by omega) J5 upd_same (ko.stay sty) gd (sty.dp _ _ gd.ok dd) (by rw [e]; exact idx_new hnd hd0) ?_ (x := .bl true) rfl fun s' J' kept => ?_
      · have z := congrArg List.length e
        rw [List.length_map, List.length_take] at z
        omega
      · rw [upd_upd] at J'
        refine ⟨⟨_, _, J', n5.at' fun o q => kept _ o (fun z => hDC z.symm) q, ?_, ?_⟩, st5.1.at fun o q => kept _ o neDI q, st5.2.at fun o q => kept _ o neDl q⟩
        · rw [List.map_append, e, take_snoc hd0]
          rfl
        · intro p hp
          rcases List.mem_append.mp hp with hp | hp
          · exact ko p hp
          · rw [List.mem_singleton.mp hp]
            exact ⟨gd, dd⟩
    · -- behind the last
      rintro s₁ ⟨kvs, m, J, hn, e, ko⟩
      have e' : kvs.map (·.1) = ds := by
        rw [e, List.size_toArray, il, List.take_length]
      show wpAny _ X.A (assign (.Name y py) X.env (.ref D0)) _ _ _
      obtain ⟨f0, f1, f2, f3, f4, f5⟩ := fpC kvs
      refine wpAny_assign_Name (store_ok2 (v := V.ref D0) J hN hy (.inl hyl) rfl (fun s2 J2 ⟨a, sb, ha⟩ => ?_) (.inr hyl))
      have haC : C ≠ a := by
        rcases ha with z | z
        · rw [z]
          exact f1
        · exact fun e => f4 y a z e.symm
      exact ⟨m, hn.sameBut sb haC, fun h3' sb3 => ⟨_, _, J2.turned (t' := s2.toks) (fun b o hb q => (sb3.2 b hb).trans q) f0 f1 f3 f4 f5, q D0 kvs hDn e' ko⟩⟩
  refine wpAny_bind (wpAny_mono (comprehension_at (use := some (assign (.Name y py) X.env)) (Q := fun _ s' => SP X pins D .next s') rfl hs (closure_ok hfree) ok.kind (fun z hz e => by rw [ok.uniq z hz, e])
    (wpAny_mono main (fun xv s₁ h₁ => wpAny_mono h₁ (fun it s₂ h₂ => compBlock_dict hcell ok.kind h₂) fun _ _ e => e) fun _ _ e => e)) (fun _ s' hq => wpAny_pure (wpAny_pure hq)) fun _ _ e => e)
end
end Rw
namespace Rw
open PySem PySem.Spec PyProof.Rows L2
/-! ### names, worlds, pairs -/
def letter (c : Nat) : Bool := decide (97 ≤ c) && decide (c ≤ 122)
def notS : Str := ("not" : Str)
def nameB (x : Str) : Bool := x.cps.toList.all letter && decide (1 ≤ x.cps.size) && decide (x.cps.size ≤ 8) && !decide (x = notS)
theorem nameB_iff {x : Str} : nameB x = true ↔ (∀ c ∈ x.cps.toList, letter c = true) ∧ 1 ≤ x.cps.size ∧ x.cps.size ≤ 8 ∧ x ≠ notS := by
  unfold nameB
  simp only [Bool.and_eq_true, List.all_eq_true, decide_eq_true_eq, Bool.not_eq_true', decide_eq_false_iff_not]
  exact ⟨fun ⟨⟨⟨a, b⟩, c⟩, d⟩ => ⟨a, b, c, d⟩, fun ⟨a, b, c, d⟩ => ⟨⟨⟨a, b⟩, c⟩, d⟩⟩
theorem name_strOk {x : Str} (h : nameB x = true) : PyData.strOk x = true := by
  obtain ⟨h1, _⟩ := nameB_iff.mp h
  unfold PyData.strOk
  rw [← Array.all_toList, List.all_eq_true]
  intro c hc
  have := h1 c hc
  unfold letter at this
  simp only [Bool.and_eq_true, decide_eq_true_eq] at this
  exact decide_eq_true (by omega)
abbrev W := List Str
abbrev Pr := W × W
/-- strictly rising -/
abbrev UpX (ns : W) : Prop := ns.Pairwise fun a b => a.cps.toList < b.cps.toList
structure IsW (ns : W) : Prop where
  names : ∀ x ∈ ns, nameB x = true
  up : UpX ns
  few : ns.length ≤ 40
def wd (ns : W) : PyData := .tuple (ns.map .str)
def pd (p : Pr) : PyData := .tuple [wd p.1, wd p.2]
theorem str_inj : ∀ {a b : W}, a.map PyData.str = b.map PyData.str → a = b
  | [], [], _ => rfl
  | [], _ :: _, h => by simp at h
  | _ :: _, [], h => by simp at h
  | x :: a, y :: b, h => by
    simp only [List.map_cons, List.cons.injEq, PyData.str.injEq] at h
    rw [h.1, str_inj h.2]
theorem wd_inj {a b : W} (h : wd a = wd b) : a = b := by
  unfold wd at h
  injection h with h
  exact str_inj h
theorem pd_inj {p q : Pr} (h : pd p = pd q) : p = q := by
  unfold pd at h
  injection h with h
  injection h with h1 h2
  injection h2 with h2 _
  exact Prod.ext (wd_inj h1) (wd_inj h2)
theorem okDs_str : ∀ ns : W, okDs (ns.map .str) = true
  | [] => rfl
  | x :: ns => by
    rw [List.map_cons, okDs, okDs_str ns]
    rfl
theorem depth_str : ∀ ns : W, PyData.depthAll (ns.map .str) = 0
  | [] => by simp [PyData.depthAll]
  | x :: ns => by
    rw [List.map_cons, PyData.depthAll, depth_str ns]
    simp [PyData.depth]
theorem ok_wd (ns : W) : okD (wd ns) = true := by
  unfold wd
  rw [okD]
  exact okDs_str ns
theorem depth_wd (ns : W) : (wd ns).depth = 1 := by
  unfold wd
  rw [PyData.depth, depth_str]
theorem good_wd (ns : W) : Good (wd ns) := ⟨ok_wd ns, by rw [depth_wd]; decide, ⟨_, rfl⟩⟩
theorem ok_pd (p : Pr) : okD (pd p) = true := by
  unfold pd
  rw [okD, okDs, okDs, okDs, ok_wd, ok_wd]
  rfl
theorem depth_pd (p : Pr) : (pd p).depth = 2 := by
  unfold pd
  simp [PyData.depth, PyData.depthAll, depth_wd]
theorem good_pd (p : Pr) : Good (pd p) := ⟨ok_pd p, by rw [depth_pd]; decide, ⟨_, rfl⟩⟩
theorem lay_strs : ∀ {ns : W}, (∀ x ∈ ns, nameB x = true) → PyData.canLayAll0 (ns.map .str) = true
  | [], _ => by simp [PyData.canLayAll0]
  | x :: ns, h => by
    rw [List.map_cons, PyData.canLayAll0, lay_strs fun y hy => h y (List.mem_cons_of_mem _ hy), PyData.canLay0, name_strOk (h x List.mem_cons_self)]
    rfl
theorem lay_wd {ns : W} (h : ∀ x ∈ ns, nameB x = true) : (wd ns).canLay0 = true := by
  unfold wd
  rw [PyData.canLay0]
  exact lay_strs h
theorem shaped_wd {ns : W} (h : IsW ns) : SeqAt.shaped (wd ns) = true := by
  unfold SeqAt.shaped
  rw [lay_wd h.names, depth_wd]
  rfl
theorem lay_pd {p : Pr} (h1 : IsW p.1) (h2 : IsW p.2) : (pd p).canLay0 = true := by
  unfold pd
  rw [PyData.canLay0, PyData.canLayAll0, PyData.canLayAll0, PyData.canLayAll0, lay_wd h1.names, lay_wd h2.names]
  rfl
theorem shaped_pd {p : Pr} (h1 : IsW p.1) (h2 : IsW p.2) : SeqAt.shaped (pd p) = true := by
  unfold SeqAt.shaped
  rw [lay_pd h1 h2, depth_pd]
  rfl
theorem alike_strs : ∀ a b : W, PySem.W.alikeAll (a.map .str) (b.map .str) = true
  | [], _ => by simp [PySem.W.alikeAll]
  | _ :: _, [] => by simp [PySem.W.alikeAll]
  | x :: a, y :: b => by
    rw [List.map_cons, List.map_cons, PySem.W.alikeAll, alike_strs a b]
    simp [PySem.W.alike]
theorem alike_wd (a b : W) : PySem.W.alike (wd a) (wd b) = true := by
  unfold wd
  rw [PySem.W.alike]
  exact alike_strs a b
theorem alike_pd (p q : Pr) : PySem.W.alike (pd p) (pd q) = true := by
  unfold pd
  rw [PySem.W.alike, PySem.W.alikeAll, PySem.W.alikeAll, PySem.W.alikeAll, alike_wd, alike_wd]
  rfl
theorem eqv_strs : ∀ a b : W, PyData.eqvAll (a.map .str) (b.map .str) = decide (a = b)
  | [], [] => by simp [PyData.eqvAll]
  | [], _ :: _ => by simp [PyData.eqvAll]
  | _ :: _, [] => by simp [PyData.eqvAll]
  | x :: a, y :: b => by
    rw [List.map_cons, List.map_cons, PyData.eqvAll, eqv_strs a b, PyData.eqv]
    by_cases h : x = y
    · subst h
      by_cases h2 : a = b <;> simp [h2]
    · simp [h]
theorem eqv_wd (a b : W) : PyData.eqv (wd a) (wd b) = decide (a = b) := by
  unfold wd
  rw [PyData.eqv]
  exact eqv_strs a b
theorem eqv_pd (p q : Pr) : PyData.eqv (pd p) (pd q) = decide (p = q) := by
  unfold pd
  rw [PyData.eqv, PyData.eqvAll, PyData.eqvAll, PyData.eqvAll, eqv_wd, eqv_wd]
  obtain ⟨a, b⟩ := p
  obtain ⟨c, d⟩ := q
  by_cases h1 : a = c
  · by_cases h2 : b = d <;> simp [h1, h2]
  · simp [h1]
/-! ### sorted lists are told by their members -/
theorem toks_ne {d e : PyData} (h : PySem.W.alike d e = true) (he : PyData.eqv d e = false) : PySem.W.keyToks d ≠ PySem.W.keyToks e := fun t => by
  have z := (PySem.W.toks_eqv d e h).2 he [.inl 0] [.inl 1]
  rw [t, PySem.W.lex_pre, lex_irrefl] at z
  exact absurd z (by decide)
theorem lt_or {d e : PyData} (h : PySem.W.alike d e = true) (he : PyData.eqv d e = false) : PySem.W.dataLt d e = true ∨ PySem.W.dataLt e d = true := by
  cases h1 : PySem.W.dataLt d e with
  | true => exact .inl rfl
  | false =>
    cases h2 : PySem.W.dataLt e d with
    | true => exact .inr rfl
    | false => exact absurd (lex_total _ _ h1 h2) (toks_ne h he)
/-- rising and without repetition: told by the members -/
theorem rising_one {α : Type} {enc : α → PyData} (al : ∀ a b, PySem.W.alike (enc a) (enc b) = true) (inj : ∀ a b, PyData.eqv (enc a) (enc b) = true → a = b) :
    ∀ {l m : List α}, Rising (l.map enc) → Rising (m.map enc) → l.Nodup → m.Nodup → (∀ a, a ∈ l ↔ a ∈ m) → l = m
  | [], [], _, _, _, _, _ => rfl
  | [], b :: m, _, _, _, _, h => absurd ((h b).mpr List.mem_cons_self) (List.not_mem_nil)
  | a :: l, [], _, _, _, _, h => absurd ((h a).mp List.mem_cons_self) (List.not_mem_nil)
  | a :: l, b :: m, r1, r2, n1, n2, h => by
    have le_of : ∀ {x y : α} {k : List α}, Rising ((x :: k).map enc) → y ∈ x :: k → y = x ∨ PySem.W.dataLt (enc y) (enc x) = false := by
      intro x y k r hy
      rcases List.mem_cons.mp hy with e | hy
      · exact .inl e
      · right
        have z := (List.pairwise_cons.mp r).1 (enc y) (List.mem_map.mpr ⟨y, hy, rfl⟩)
        have z' : (!PySem.W.dataLt (enc y) (enc x)) = true := z
        simpa using z'
    have e : a = b := by
      have h1 := le_of r1 ((h b).mpr List.mem_cons_self)
      have h2 := le_of r2 ((h a).mp List.mem_cons_self)
      rcases h1 with e | h1
      · exact e.symm
      · rcases h2 with e | h2
        · exact e
        · cases ev : PyData.eqv (enc a) (enc b) with
          | true => exact inj a b ev
          | false =>
            rcases lt_or (al a b) ev with z | z
            · rw [h2] at z
              exact nomatch z
            · rw [h1] at z
              exact nomatch z
    subst e
    obtain ⟨a1, a2⟩ := List.nodup_cons.mp n1
    obtain ⟨b1, b2⟩ := List.nodup_cons.mp n2
    rw [rising_one al inj (List.pairwise_cons.mp r1).2 (List.pairwise_cons.mp r2).2 a2 b2 fun x => ?_]
    constructor
    · intro hx
      rcases List.mem_cons.mp ((h x).mp (List.mem_cons_of_mem _ hx)) with e | z
      · rw [e] at hx
        exact absurd hx a1
      · exact z
    · intro hx
      rcases List.mem_cons.mp ((h x).mpr (List.mem_cons_of_mem _ hx)) with e | z
      · rw [e] at hx
        exact absurd hx b1
      · exact z
theorem pairs_one {R R' : List Pr} (r1 : Rising (R.map pd)) (r2 : Rising (R'.map pd)) (n1 : R.Nodup) (n2 : R'.Nodup) (h : ∀ p, p ∈ R ↔ p ∈ R') : R = R' :=
  rising_one alike_pd (fun p q e => by rw [eqv_pd] at e; exact of_decide_eq_true e) r1 r2 n1 n2 h
theorem worlds_one {R R' : List W} (r1 : Rising (R.map wd)) (r2 : Rising (R'.map wd)) (n1 : R.Nodup) (n2 : R'.Nodup) (h : ∀ p, p ∈ R ↔ p ∈ R') : R = R' :=
  rising_one alike_wd (fun p q e => by rw [eqv_wd] at e; exact of_decide_eq_true e) r1 r2 n1 n2 h
/-- texts: likewise -/
theorem upX_one : ∀ {l m : W}, UpX l → UpX m → (∀ a, a ∈ l ↔ a ∈ m) → l = m
  | [], [], _, _, _ => rfl
  | [], b :: m, _, _, h => absurd ((h b).mpr List.mem_cons_self) (List.not_mem_nil)
  | a :: l, [], _, _, h => absurd ((h a).mp List.mem_cons_self) (List.not_mem_nil)
  | a :: l, b :: m, r1, r2, h => by
    obtain ⟨p1, q1⟩ := List.pairwise_cons.mp r1
    obtain ⟨p2, q2⟩ := List.pairwise_cons.mp r2
    have e : a = b := by
      rcases List.mem_cons.mp ((h a).mp List.mem_cons_self) with e | z
      · exact e
      · rcases List.mem_cons.mp ((h b).mpr List.mem_cons_self) with e | z'
        · exact e.symm
        · exact absurd (p1 b z') (List.lt_asymm (p2 a z))
    subst e
    have na : ∀ {k : W}, (∀ x ∈ k, a.cps.toList < x.cps.toList) → a ∉ k := fun h hm => List.lt_irrefl _ (h a hm)
    rw [upX_one q1 q2 fun x => ?_]
    constructor
    · intro hx
      rcases List.mem_cons.mp ((h x).mp (List.mem_cons_of_mem _ hx)) with e | z
      · rw [e] at hx
        exact absurd hx (na p1)
      · exact z
    · intro hx
      rcases List.mem_cons.mp ((h x).mpr (List.mem_cons_of_mem _ hx)) with e | z
      · rw [e] at hx
        exact absurd hx (na p2)
      · exact z
/-- ≤ and without repetition: strictly rising -/
theorem upX_of {zs : W} (h : RisingX zs) (n : zs.Nodup) : UpX zs := by
  induction zs with
  | nil => exact List.Pairwise.nil
  | cons x zs ih =>
    obtain ⟨p, q⟩ := List.pairwise_cons.mp h
    obtain ⟨n1, n2⟩ := List.nodup_cons.mp n
    refine List.pairwise_cons.mpr ⟨fun y hy => ?_, ih q n2⟩
    have le := of_decide_eq_true (p y hy)
    refine Classical.byContradiction fun c => ?_
    have ge : y.cps.toList ≤ x.cps.toList := List.not_lt.mp c
    have e : x.cps.toList = y.cps.toList := List.le_antisymm le ge
    exact n1 ((PySem.W.str_of_cps e) ▸ hy)
theorem upX_nodup {zs : W} (h : UpX zs) : zs.Nodup := List.Pairwise.imp (fun {a b} h e => by subst e; exact List.lt_irrefl _ h) h
end Rw
namespace Rw
open PySem PySem.Spec PyProof.Rows L2
/-! ### the text -/
def topS (i : Nat) : Stmt := PySem.Challenge.pw_ruleworlds_k25_sets_of_pairs_barred.main.body.getD i (.Pass ⟨0, 0, 0, 0⟩)
abbrev sIsName : Stmt := topS 7
abbrev sIsWorld : Stmt := topS 8
abbrev sAreNames : Stmt := topS 9
abbrev sSetOf : Stmt := topS 10
abbrev sIsPair : Stmt := topS 12
abbrev sHasAll : Stmt := topS 13
abbrev sCheckWorld : Stmt := topS 14
abbrev sCheckKind : Stmt := topS 15
theorem scIsName : FnScope ["thing", "letter"] ["thing"] (defScope sIsName) := ⟨rfl, rfl, rfl, by decide +kernel, rfl, by decide +kernel, by decide +kernel⟩
theorem scIsWorld : FnScope ["thing"] ["thing"] (defScope sIsWorld) := ⟨rfl, rfl, rfl, by decide +kernel, rfl, by decide +kernel, by decide +kernel⟩
theorem scAreNames : FnScope ["thing", "item"] ["thing"] (defScope sAreNames) := ⟨rfl, rfl, rfl, by decide +kernel, rfl, by decide +kernel, by decide +kernel⟩
theorem scSetOf : FnScope ["names"] ["names"] (defScope sSetOf) := ⟨rfl, rfl, rfl, by decide +kernel, rfl, by decide +kernel, by decide +kernel⟩
theorem scIsPair : FnScope ["thing", "here", "there"] ["thing"] (defScope sIsPair) := ⟨rfl, rfl, rfl, by decide +kernel, rfl, by decide +kernel, by decide +kernel⟩
theorem scHasAll : FnScope ["names", "wanted", "name"] ["names", "wanted"] (defScope sHasAll) := ⟨rfl, rfl, rfl, by decide +kernel, rfl, by decide +kernel, by decide +kernel⟩
theorem scCheckWorld : FnScope ["thing"] ["thing"] (defScope sCheckWorld) := ⟨rfl, rfl, rfl, by decide +kernel, rfl, by decide +kernel, by decide +kernel⟩
theorem scCheckKind : FnScope ["thing", "kinds"] ["thing", "kinds"] (defScope sCheckKind) := ⟨rfl, rfl, rfl, by decide +kernel, rfl, by decide +kernel, by decide +kernel⟩
/-- the built-in names that the text does not bind -/
structure Bl (mg : Str → Option Value) : Prop where
  len : mg "len" = none
  isi : mg "isinstance" = none
  all : mg "all" = none
  tuple : mg "tuple" = none
  list : mg "list" = none
  sorted : mg "sorted" = none
  set : mg "set" = none
  str : mg "str" = none
  int : mg "int" = none
  max : mg "max" = none
  min : mg "min" = none
  range : mg "range" = none
def lettersS : Str := ("abcdefghijklmnopqrstuvwxyz" : Str)
theorem in_letters {c : Nat} (h : letter c = true) : c ∈ lettersS.cps.toList := by
  have all : ((List.range 123).all fun c => !letter c || decide (c ∈ lettersS.cps.toList)) = true := by decide +kernel
  have z := h
  unfold letter at z
  simp only [Bool.and_eq_true, decide_eq_true_eq] at z
  have q := List.all_eq_true.mp all c (List.mem_range.mpr (by omega))
  rw [h] at q
  simpa using q
/-- a comprehension over a text's signs -/
theorem lc_sgn {x : Str} {g : TG} {tt : TT} {te : TE} {vs : List Nat} {σ : L2.St} {H1 : Hp} {D : Addr} {Qd : Hp → Prop} (Pv : Nat → Hp → Prop) (h0 : Pv 0 (upd H1 D (.lst [])))
    (hs : ∀ i c H, x.cps[i]? = some c → Pv i H → g (.str ⟨#[c]⟩) (wipe σ vs) H fun σ2 H2 => wipe σ2 vs = wipe σ vs ∧ tt σ2 H2 fun b H3 =>
      if b = true then te σ2 H3 fun y H4 => ∃ acc, H4 D = some (.lst acc) ∧ acc.length < sizeLine ∧ Pv (i + 1) (upd H4 D (.lst (acc ++ [y]))) else Pv (i + 1) H3) (hd : ∀ H, Pv x.cps.size H → Qd H) :
    ∃ W : Nat → Nat → Hp → Prop, (∃ m, W 0 m (upd H1 D (.lst []))) ∧ ∀ i m H, W i m H →
      ((Its x).stop i H ∧ Qd H) ∨ ((Its x).go i H ∧ ∃ Nx : Hp → Prop, (∀ H', Nx H' → ∃ m', m' < m ∧ W (i + 1) m' H') ∧ ∀ y H', (Its x).yld i H y H' → g y (wipe σ vs) H' fun σ2 H2 => wipe σ2 vs = wipe σ vs ∧ tt σ2 H2 fun b H3 =>
        if b = true then te σ2 H3 fun y H4 => ∃ acc, H4 D = some (.lst acc) ∧ acc.length < sizeLine ∧ Nx (upd H4 D (.lst (acc ++ [y]))) else Nx H3) := by
  refine ⟨fun i m H => m = x.cps.size - i ∧ i ≤ x.cps.size ∧ Pv i H, ⟨x.cps.size, by simp, Nat.zero_le _, h0⟩, ?_⟩
  rintro i m H ⟨rfl, hi, p⟩
  by_cases hlt : i < x.cps.size
  · refine .inr ⟨hlt, Pv (i + 1), fun H' p' => ⟨x.cps.size - (i + 1), by omega, rfl, hlt, p'⟩, fun y H' yy => ?_⟩
    obtain ⟨rfl, c, hc, rfl⟩ := yy
    exact hs i c _ hc p
  · have e : i = x.cps.size := by omega
    subst e
    exact .inl ⟨Nat.le_refl _, hd H p⟩
theorem small_line {n : Nat} (h : n ≤ 10000) : n ≤ sizeLine := by
  rw [sizeLine_eq]
  omega
theorem small_line' {n : Nat} (h : n ≤ 10000) : n < sizeLine := by
  rw [sizeLine_eq]
  omega
section
variable {P : Program} {w : World} {K : PySem.W.Frag} {mg : Str → Option Value} {base : Heap} {f : Addr} {fd : FuncData} {k : Nat}
/-! ### is_name -/
def spIsName : Sp := fun vs H Q _ => ∃ x : Str, vs = [.str x] ∧ nameB x = true ∧ ∀ H', Same H H' → Q (.bl true) H'
theorem ok_isName (F : Fun K "is_name" "is_name" sIsName f fd) (T : Bl mg) (mL : ∃ t, mg "LETTERS" = some (.str lettersS t)) : FnOk P w K mg base CX0 (k + 1) f fd ["thing"] spIsName := by
  refine F.ok scIsName (fun vs H Q E h => ?_) (fun cdv A outer s H vs Q E hr h => ?_)
  · obtain ⟨x, rfl, _⟩ := h
    rfl
  obtain ⟨x, rfl, hn, q⟩ := h
  obtain ⟨h1, h2, h3, h4⟩ := nameB_iff.mp hn
  obtain ⟨tl, mL⟩ := mL
  refine ⟨_, pss_cons (ps_if (PW.pt (pw_or (pt_not (pt_val (pe_callB call_isi (by rfl) T.isi PyProof.Rows.boot_isinstance (pa_cons (pv 0) (pa_cons (pe_bltn (v := .ty "str") (by rfl) T.str (by decide +kernel) rfl) pa_nil)))))
      (pw_or1 (pt_cmpR op_eq (pv 0) pe_str (nomark _))))) (pss_one (ps_ret pe_bl)) pss_nil)
    (pss_one (ps_ret (pe_and (pe_chain op_le op_le pe_int (pe_callB call_len_str (by rfl) T.len PySem.boot_len (pa_cons (pv 0) pa_nil)) pe_int)
      (pe_one (pe_callB (cr_all rfl) (by rfl) T.all (by decide +kernel) (pa_cons (pe_lc (own := [("letter", 1)]) (g := gName 1) (by rfl) scIsName.nd (pi_str (pv 0)) (blkOk_by (N := ["thing", "letter"]) (sc := defScope sIsName) (by decide +kernel))
        (fun _ _ _ _ _ => pg_name (i := 1) scIsName.nd rfl (Or.inl rfl)) (fun _ _ _ _ _ => pts_nil) (fun _ _ _ _ _ => pe_cmpR op_in_sign (pv 1) (pe_glob (v := .str lettersS) (by rfl) mL ⟨_, rfl⟩) (by rfl))) pa_nil)))))), ?_⟩
  refine ⟨.str x, rfl, .str x, .ty "str", .type "str", .type "str", true, rfl, .ty "str", .base (.str x), kit_ty (by decide +kernel), true, rfl, ?_⟩
  refine ⟨.str x, rfl, rfl, _, rfl, ?_⟩
  have ne : ¬ (V.str x = V.str notS) := fun e => h4 (V.str.inj e)
  refine ite2 (fun e => absurd (of_decide_eq_true e) ne) (fun _ => ?_)
  have hl : (1 : Int) ≤ (x.length : Int) ∧ (x.length : Int) ≤ 8 := by
    show (1 : Int) ≤ (x.cps.size : Int) ∧ (x.cps.size : Int) ≤ 8
    omega
  -- 1 <= len(thing) <= 8
  refine ⟨.str x, rfl, x, rfl, small_line (by show x.cps.size ≤ 10000; omega), 1, x.length, rfl, rfl, true, congrArg V.bl (decide_eq_true hl.1), iteT ⟨x.length, 8, rfl, rfl, true, congrArg V.bl (decide_eq_true hl.2), iteT ?_⟩⟩
  -- all(..)
  refine ⟨.str x, rfl, x, rfl, fun D hD => ?_⟩
  have s1 : Same H (upd H D (.lst [])) := same_new hD _
  refine lc_sgn (x := x) (fun i H1 => Same H H1 ∧ H1 D = some (.lst (List.replicate i (V.bl true)))) ⟨s1, upd_same⟩ (fun i c H1 hc hI => ?_) (fun H1 hI => ?_)
  · obtain ⟨sm, hd⟩ := hI
    have cm : c ∈ x.cps.toList := List.mem_of_getElem? (by rw [Array.getElem?_toList]; exact hc)
    have ein : decide (c ∈ lettersS.cps.toList) = true := decide_eq_true (in_letters (h1 c cm))
    refine ⟨rfl, .str ⟨#[c]⟩, rfl, c, lettersS, rfl, rfl, ?_⟩
    rw [ein]
    have il : i < x.cps.size := (Array.getElem?_eq_some_iff.mp hc).1
    refine ⟨_, hd, small_line' (by rw [List.length_replicate]; omega), ?_, ?_⟩
    · intro b o e
      rw [upd_ne (ne_of_none e hD)]
      exact sm b o e
    · rw [upd_same]
      have z : List.replicate (i + 1) (V.bl true) = List.replicate i (V.bl true) ++ [V.bl true] := List.replicate_succ'
      rw [z]
  · obtain ⟨sm, hd⟩ := hI
    refine ⟨D, List.replicate x.cps.size true, rfl, SqL.of (by rw [List.map_replicate]; exact hd), ?_⟩
    have z : (List.replicate x.cps.size true).all id = true := by simp
    rw [z]
    exact q H1 sm
theorem map_at {α β : Type} {l : List α} {f : α → β} {i : Nat} {y : β} (h : (l.map f)[i]? = some y) : ∃ x, l[i]? = some x ∧ y = f x := by
  rw [List.getElem?_map] at h
  cases e : l[i]? with
  | none => rw [e] at h; simp at h
  | some x =>
    rw [e] at h
    exact ⟨x, rfl, (Option.some.inj h).symm⟩
theorem same_put {H H1 : Hp} {D : Addr} {o : HO} (sm : Same H H1) (hD : H D = none) : Same H (upd H1 D o) := fun b u e => by
  rw [upd_ne (ne_of_none e hD)]
  exact sm b u e
/-! ### _are_names -/
def spAreNames (K : PySem.W.Frag) : Sp := fun vs H Q _ => ∃ (a : Addr) (ns : W), vs = [.ref a] ∧ SqT K H a (ns.map V.str) ∧ (∀ x ∈ ns, nameB x = true) ∧ ns.length ≤ 1000 ∧ ∀ H', Same H H' → Q (.bl true) H'
theorem ok_areNames {f1 : Addr} {fd1 : FuncData} (F : Fun K "_are_names" "_are_names" sAreNames f fd) (T : Bl mg) (G : FnOk P w K mg base CX0 k f1 fd1 ["thing"] spIsName) (b1 : Binds K fd1 ["thing"] []) (k1 : PySem.W.keepIn K (.ref f1) = true) (m1 : mg "is_name" = some (.ref f1)) :
    FnOk P w K mg base CX0 (k + 1) f fd ["thing"] (spAreNames K) := by
  refine F.ok scAreNames (fun vs H Q E h => ?_) (fun cdv A outer s H vs Q E hr h => ?_)
  · obtain ⟨a, ns, rfl, _⟩ := h
    rfl
  obtain ⟨a, ns, rfl, hS, hn, few, q⟩ := h
  refine ⟨_, pss_one (ps_ret (pe_and (pe_isiTL (pv 0) (by rfl) T.isi (pa_cons (pe_bltn (v := .ty "tuple") (by rfl) T.tuple (by decide +kernel) rfl) (pa_cons (pe_bltn (v := .ty "list") (by rfl) T.list (by decide +kernel) rfl) pa_nil)))
      (pe_one (pe_callB (cr_all rfl) (by rfl) T.all (by decide +kernel) (pa_cons (pe_lc (own := [("item", 1)]) (g := gName 1) (by rfl) scAreNames.nd (pi_tup (pv 0)) (blkOk_by (N := ["thing", "item"]) (sc := defScope sAreNames) (by decide +kernel))
        (fun _ _ _ _ _ => pg_name (i := 1) scAreNames.nd rfl (Or.inl rfl)) (fun _ _ _ _ _ => pts_nil) (fun _ _ _ _ _ => pe_call G hr (by rfl) m1 k1 b1 .nil pass0 (pa_cons (pv 1) pa_nil))) pa_nil))))), ?_⟩
  refine ⟨.ref a, rfl, ⟨a, _, rfl, hS⟩, fun T0 hT => ⟨true, rfl, iteT ?_⟩⟩
  have s0 : Same H (upd H T0 (.tup [.ty "tuple", .ty "list"])) := same_new hT _
  generalize upd H T0 (.tup [.ty "tuple", .ty "list"]) = H0 at s0 ⊢
  refine ⟨.ref a, rfl, a, rfl, ⟨_, same_tup s0 hS⟩, fun D hD => ?_⟩
  have s1 : Same H0 (upd H0 D (.lst [])) := same_new hD _
  refine lc_tup (xs := ns.map V.str) (fun i H1 => Same H0 H1 ∧ H1 D = some (.lst (List.replicate i (V.bl true)))) ⟨s1, upd_same⟩ (fun i H1 _ hI => same_tup (s0.trans hI.1) hS) (fun i x H1 hx hI => ?_) (fun H1 hI => ?_)
  · obtain ⟨sm, hd⟩ := hI
    obtain ⟨z, hz, rfl⟩ := map_at hx
    have il : i < ns.length := (List.getElem?_eq_some_iff.mp hz).1
    refine ⟨rfl, .str z, rfl, z, rfl, hn z (List.mem_of_getElem? hz), fun H2 sm2 => ⟨_, sm2 _ _ hd, small_line' (by rw [List.length_replicate]; omega), same_put (sm.trans sm2) hD, ?_⟩⟩
    rw [upd_same, show List.replicate (i + 1) (V.bl true) = List.replicate i (V.bl true) ++ [V.bl true] from List.replicate_succ']
  · obtain ⟨sm, hd⟩ := hI
    refine ⟨D, List.replicate (ns.map V.str).length true, rfl, SqL.of (by rw [List.map_replicate]; exact hd), ?_⟩
    have z : (List.replicate (ns.map V.str).length true).all id = true := by simp
    rw [z]
    exact q H1 (s0.trans sm)
/-! ### _set_of -/
def spSetOf (K : PySem.W.Frag) : Sp := fun vs H Q _ => ∃ (a : Addr) (ns : W), vs = [.ref a] ∧ (SqL K H a (ns.map V.str) ∨ SqT K H a (ns.map V.str)) ∧ ns.length < 1000 ∧ ∀ (H' : Hp) (p : Addr) (zs : W), Same H H' → H' p = some (.tup (zs.map V.str)) → UpX zs → (∀ z, z ∈ zs ↔ z ∈ ns) → Q (.ref p) H'
theorem ok_setOf (F : Fun K "_set_of" "_set_of" sSetOf f fd) (T : Bl mg) : FnOk P w K mg base CX0 (k + 1) f fd ["names"] (spSetOf K) := by
  refine F.ok scSetOf (fun vs H Q E h => ?_) (fun cdv A outer s H vs Q E hr h => ?_)
  · obtain ⟨a, ns, rfl, _⟩ := h
    rfl
  obtain ⟨a, ns, rfl, hS, few, q⟩ := h
  refine ⟨_, pss_one (ps_ret (pe_callTy call_tuple_of (by rfl) T.tuple (by decide +kernel) (pa_cons (pe_callB (cr_sortX rfl hr.units) (by rfl) T.sorted (by decide +kernel) (pa_cons (pe_callTy (cr_setX rfl hr.units) (by rfl) T.set (by decide +kernel) (pa_cons (pv 0) pa_nil)) pa_nil)) pa_nil))), ?_⟩
  refine ⟨.ref a, rfl, a, ns, rfl, hS, few, fun b ms hb nd hm hl => ?_⟩
  refine ⟨b, ms, rfl, upd_same, by omega, fun zs p hz nz hlz rz hp => ?_⟩
  refine ⟨p, zs.map V.str, rfl, .inl ⟨SqL.of upd_same, fun l hl2 => ?_⟩⟩
  exact q _ l zs ((same_new hb _).trans ((same_new hp _).trans (same_new hl2 _))) upd_same (upX_of rz nz) fun z => (hz z).trans (hm z)
end
end Rw
namespace Rw
open PySem PySem.Spec PyProof.Rows L2
/-! ### worlds and pairs as values -/
theorem dps_str {K : PySem.W.Frag} {H : Hp} : ∀ {ns : W} {xs : List V}, DpAll K H xs (ns.map .str) → xs = ns.map V.str
  | [], _, h => by cases h; rfl
  | x :: ns, _, h => by
    cases h with
    | cons h1 h2 =>
      cases h1
      rw [dps_str h2]
      rfl
theorem dps_strs {K : PySem.W.Frag} {H : Hp} : ∀ ns : W, DpAll K H (ns.map V.str) (ns.map .str)
  | [] => .nil
  | x :: ns => .cons (.str x) (dps_strs ns)
theorem of_wd {K : PySem.W.Frag} {H : Hp} {x : V} {ns : W} (h : Dp K H x (wd ns)) : ∃ a, x = .ref a ∧ SqT K H a (ns.map V.str) := by
  unfold wd at h
  cases h with
  | tup h1 h2 =>
    rw [dps_str h2] at h1
    exact ⟨_, rfl, h1⟩
theorem to_wd {K : PySem.W.Frag} {H : Hp} {a : Addr} {ns : W} (h : SqT K H a (ns.map V.str)) : Dp K H (.ref a) (wd ns) := .tup h (dps_strs ns)
theorem of_pd {K : PySem.W.Frag} {H : Hp} {x : V} {p : Pr} (h : Dp K H x (pd p)) : ∃ a y z, x = .ref a ∧ SqT K H a [y, z] ∧ Dp K H y (wd p.1) ∧ Dp K H z (wd p.2) := by
  unfold pd at h
  cases h with
  | tup h1 h2 =>
    cases h2 with
    | cons a1 t =>
      cases t with
      | cons a2 t =>
        cases t
        exact ⟨_, _, _, rfl, h1, a1, a2⟩
theorem to_pd {K : PySem.W.Frag} {H : Hp} {a : Addr} {y z : V} {p : Pr} (h : SqT K H a [y, z]) (h1 : Dp K H y (wd p.1)) (h2 : Dp K H z (wd p.2)) : Dp K H (.ref a) (pd p) := .tup h (.cons h1 (.cons h2 .nil))
theorem Stay.wd {K : PySem.W.Frag} {H H' : Hp} {x : V} {ns : W} (e : Stay H H') (h : Dp K H x (Rw.wd ns)) : Dp K H' x (Rw.wd ns) := e.dp _ _ (ok_wd ns) h
theorem Stay.pd {K : PySem.W.Frag} {H H' : Hp} {x : V} {p : Pr} (e : Stay H H') (h : Dp K H x (Rw.pd p)) : Dp K H' x (Rw.pd p) := e.dp _ _ (ok_pd p) h
theorem tyx_tup {K : PySem.W.Frag} {H : Hp} {a : Addr} {xs : List V} (h : SqT K H a xs) : TyX K H (.ref a) (.type "tuple") := by
  rcases h with (h | ⟨o, h⟩) | ⟨o, its, n, h1, h2, _⟩
  · exact .base (.tup h)
  · exact .fTuple h
  · exact .kTuple h1 h2
/-- all of ms are in ns -/
def sub (ms ns : W) : Bool := ms.all fun z => decide (z ∈ ns)
theorem inV_str (z : Str) : ∀ ns : W, inV (.str z) (ns.map V.str) = decide (z ∈ ns)
  | [] => by simp [inV]
  | x :: ns => by
    have ih := inV_str z ns
    unfold inV at ih ⊢
    rw [List.map_cons, List.any_cons, ih]
    show ((x == z) || decide (z ∈ ns)) = decide (z ∈ x :: ns)
    by_cases h : x = z
    · subst h
      simp
    · have h' : z ≠ x := fun e => h e.symm
      simp [h, h']
theorem flat_strs (ns : W) : (ns.map V.str).all flatV = true := by
  rw [List.all_map, List.all_eq_true]
  exact fun _ _ => rfl
section
variable {P : Program} {w : World} {K : PySem.W.Frag} {mg : Str → Option Value} {base : Heap} {f : Addr} {fd : FuncData} {k : Nat}
/-! ### is_world -/
def spIsWorld (K : PySem.W.Frag) : Sp := fun vs H Q _ => ∃ (x : V) (ns : W), vs = [x] ∧ Dp K H x (wd ns) ∧ IsW ns ∧ ∀ H', Same H H' → Q (.bl true) H'
theorem ok_isWorld {f1 f2 : Addr} {fd1 fd2 : FuncData} (F : Fun K "is_world" "is_world" sIsWorld f fd) (T : Bl mg) (G1 : FnOk P w K mg base CX0 k f1 fd1 ["thing"] (spAreNames K)) (b1 : Binds K fd1 ["thing"] []) (k1 : PySem.W.keepIn K (.ref f1) = true) (m1 : mg "_are_names" = some (.ref f1))
    (G2 : FnOk P w K mg base CX0 k f2 fd2 ["names"] (spSetOf K)) (b2 : Binds K fd2 ["names"] []) (k2 : PySem.W.keepIn K (.ref f2) = true) (m2 : mg "_set_of" = some (.ref f2)) : FnOk P w K mg base CX0 (k + 1) f fd ["thing"] (spIsWorld K) := by
  refine F.ok scIsWorld (fun vs H Q E h => ?_) (fun cdv A outer s H vs Q E hr h => ?_)
  · obtain ⟨x, ns, rfl, _⟩ := h
    rfl
  obtain ⟨x, ns, rfl, hx, hw, q⟩ := h
  obtain ⟨a, rfl, hS⟩ := of_wd hx
  refine ⟨_, pss_one (ps_ret (pe_and (pe_callB call_isi (by rfl) T.isi PyProof.Rows.boot_isinstance (pa_cons (pv 0) (pa_cons (pe_bltn (v := .ty "tuple") (by rfl) T.tuple (by decide +kernel) rfl) pa_nil)))
    (pe_and (pe_call G1 hr (by rfl) m1 k1 b1 .nil pass0 (pa_cons (pv 0) pa_nil)) (pe_one (pe_cmpR (op_eqD hr.units) (pv 0) (pe_call G2 hr (by rfl) m2 k2 b2 .nil pass0 (pa_cons (pv 0) pa_nil)) (nomark _)))))), ?_⟩
  have few := hw.few
  refine ⟨.ref a, rfl, .ref a, .ty "tuple", .type "tuple", .type "tuple", true, rfl, .ty "tuple", tyx_tup hS, kit_ty (by decide +kernel), true, rfl, iteT ?_⟩
  refine ⟨.ref a, rfl, a, ns, rfl, hS, hw.names, by omega, fun H1 s1 => ⟨true, rfl, iteT ?_⟩⟩
  refine ⟨.ref a, rfl, .ref a, rfl, a, ns, rfl, .inr (same_tup s1 hS), by omega, fun H2 p zs s2 hp hu hm => ?_⟩
  have e : zs = ns := upX_one hu hw.up hm
  subst e
  refine ⟨wd zs, wd zs, to_wd (same_tup (s1.trans s2) hS), to_wd (SqT.of hp), shaped_wd hw, shaped_wd hw, ?_⟩
  rw [eqv_wd, decide_eq_true rfl]
  exact q H2 (s1.trans s2)
/-! ### has_all -/
def spHasAll (K : PySem.W.Frag) : Sp := fun vs H Q _ => ∃ (x y : V) (ns ms : W), vs = [x, y] ∧ Dp K H x (wd ns) ∧ Dp K H y (wd ms) ∧ ms.length ≤ 1000 ∧ ∀ H', Same H H' → Q (.bl (sub ms ns)) H'
theorem ok_hasAll (F : Fun K "has_all" "has_all" sHasAll f fd) (T : Bl mg) : FnOk P w K mg base CX0 (k + 1) f fd ["names", "wanted"] (spHasAll K) := by
  refine F.ok scHasAll (fun vs H Q E h => ?_) (fun cdv A outer s H vs Q E hr h => ?_)
  · obtain ⟨x, y, ns, ms, rfl, _⟩ := h
    rfl
  obtain ⟨x, y, ns, ms, rfl, hx, hy, few, q⟩ := h
  obtain ⟨a, rfl, hS⟩ := of_wd hx
  obtain ⟨b, rfl, hT⟩ := of_wd hy
  refine ⟨_, pss_one (ps_ret (pe_callB (cr_all rfl) (by rfl) T.all (by decide +kernel) (pa_cons (pe_lc (own := [("name", 2)]) (g := gName 2) (by rfl) scHasAll.nd (pi_tup (pv 1)) (blkOk_by (N := ["names", "wanted", "name"]) (sc := defScope sHasAll) (by decide +kernel))
        (fun _ _ _ _ _ => pg_name (i := 2) scHasAll.nd rfl (Or.inl rfl)) (fun _ _ _ _ _ => pts_nil) (fun _ _ _ _ _ => pe_cmpR (r := rIn K false) op_in_seq (pv 2) (pv 0) (by rfl))) pa_nil))), ?_⟩
  refine ⟨.ref b, rfl, b, rfl, ⟨_, hT⟩, fun D hD => ?_⟩
  have s1 : Same H (upd H D (.lst [])) := same_new hD _
  refine lc_tup (xs := ms.map V.str) (fun i H1 => Same H H1 ∧ H1 D = some (.lst ((ms.take i).map fun z => V.bl (decide (z ∈ ns))))) ⟨s1, upd_same⟩ (fun i H1 _ hI => same_tup hI.1 hT) (fun i x H1 hx hI => ?_) (fun H1 hI => ?_)
  · obtain ⟨sm, hd⟩ := hI
    obtain ⟨z, hz, rfl⟩ := map_at hx
    refine ⟨rfl, .str z, rfl, .ref a, rfl, a, ns.map V.str, rfl, .inr (same_tup sm hS), rfl, flat_strs ns, ?_⟩
    refine ⟨_, hd, small_line' (by rw [List.length_map, List.length_take]; omega), same_put sm hD, ?_⟩
    rw [upd_same, take_snoc hz, List.map_append]
    show some (HO.lst (_ ++ [V.bl (inV (.str z) (ns.map V.str))])) = _
    rw [inV_str]
    rfl
  · obtain ⟨sm, hd⟩ := hI
    rw [List.length_map, List.take_length] at hd
    refine ⟨D, ms.map fun z => decide (z ∈ ns), rfl, SqL.of (by rw [List.map_map]; exact hd), ?_⟩
    have z : (ms.map fun z => decide (z ∈ ns)).all id = sub ms ns := by
      unfold sub
      rw [List.all_map]
      rfl
    rw [z]
    exact q H1 sm
/-! ### is_pair -/
def spIsPair (K : PySem.W.Frag) : Sp := fun vs H Q _ => ∃ (x : V) (p : Pr), vs = [x] ∧ Dp K H x (pd p) ∧ IsW p.1 ∧ IsW p.2 ∧ sub p.1 p.2 = true ∧ ∀ H', Same H H' → Q (.bl true) H'
theorem ok_isPair {f1 f2 : Addr} {fd1 fd2 : FuncData} (F : Fun K "is_pair" "is_pair" sIsPair f fd) (T : Bl mg) (G1 : FnOk P w K mg base CX0 k f1 fd1 ["thing"] (spIsWorld K)) (b1 : Binds K fd1 ["thing"] []) (k1 : PySem.W.keepIn K (.ref f1) = true) (m1 : mg "is_world" = some (.ref f1))
    (G2 : FnOk P w K mg base CX0 k f2 fd2 ["names", "wanted"] (spHasAll K)) (b2 : Binds K fd2 ["names", "wanted"] []) (k2 : PySem.W.keepIn K (.ref f2) = true) (m2 : mg "has_all" = some (.ref f2)) : FnOk P w K mg base CX0 (k + 1) f fd ["thing"] (spIsPair K) := by
  refine F.ok scIsPair (fun vs H Q E h => ?_) (fun cdv A outer s H vs Q E hr h => ?_)
  · obtain ⟨x, p, rfl, _⟩ := h
    rfl
  obtain ⟨x, p, rfl, hx, hw1, hw2, hs, q⟩ := h
  obtain ⟨a, y, z, rfl, hS, hy, hz⟩ := of_pd hx
  refine ⟨_, pss_cons (ps_if (PW.pt (pw_or (pt_not (pt_val (pe_callB call_isi (by rfl) T.isi PyProof.Rows.boot_isinstance (pa_cons (pv 0) (pa_cons (pe_bltn (v := .ty "tuple") (by rfl) T.tuple (by decide +kernel) rfl) pa_nil)))))
      (pw_or1 (pt_cmpR op_ne (pe_callB call_len_seq (by rfl) T.len PySem.boot_len (pa_cons (pv 0) pa_nil)) pe_int (nomark _))))) (pss_one (ps_ret pe_bl)) pss_nil)
    (pss_cons (ps_asg (pv 0) (pg_tup (by rfl) (pgs_cons (pg_name (i := 1) scIsPair.nd rfl (.inl rfl)) (pgs_cons (pg_name (i := 2) scIsPair.nd rfl (.inl rfl)) pgs_nil))))
    (pss_one (ps_ret (pe_and (pe_call G1 hr (by rfl) m1 k1 b1 .nil pass0 (pa_cons (pv 1) pa_nil)) (pe_and (pe_call G1 hr (by rfl) m1 k1 b1 .nil pass0 (pa_cons (pv 2) pa_nil))
      (pe_one (pe_call G2 hr (by rfl) m2 k2 b2 .nil pass0 (pa_cons (pv 2) (pa_cons (pv 1) pa_nil))))))))), ?_⟩
  refine ⟨.ref a, rfl, .ref a, .ty "tuple", .type "tuple", .type "tuple", true, rfl, .ty "tuple", tyx_tup hS, kit_ty (by decide +kernel), true, rfl, ?_⟩
  refine ⟨.ref a, rfl, a, _, rfl, .inr hS, rfl, _, rfl, ?_⟩
  have en : decide (V.int ((([y, z] : List V).length : Nat) : Int) = V.int 2) = true := decide_eq_true rfl
  refine ite2 (fun e => by rw [en] at e; exact absurd e (by decide)) (fun _ => ?_)
  refine ⟨.ref a, rfl, a, [y, z], rfl, hS, rfl, y, [z], rfl, z, [], rfl, rfl, ?_⟩
  refine ⟨y, rfl, y, p.1, rfl, hy, hw1, fun H1 s1 => ⟨true, rfl, iteT ?_⟩⟩
  refine ⟨z, rfl, z, p.2, rfl, (Stay.same s1).wd hz, hw2, fun H2 s2 => ⟨true, rfl, iteT ?_⟩⟩
  have s12 := s1.trans s2
  have few := hw1.few
  refine ⟨z, rfl, y, rfl, z, y, p.2, p.1, rfl, (Stay.same s12).wd hz, (Stay.same s12).wd hy, by omega, fun H3 s3 => ?_⟩
  rw [hs]
  exact q H3 (s12.trans s3)
/-! ### the checks -/
def spCheckWorld (K : PySem.W.Frag) : Sp := fun vs H Q _ => ∃ (x : V) (ns : W), vs = [x] ∧ Dp K H x (wd ns) ∧ IsW ns ∧ ∀ H', Same H H' → Q .non H'
theorem ok_checkWorld {f1 : Addr} {fd1 : FuncData} (F : Fun K "check_world" "check_world" sCheckWorld f fd) (G1 : FnOk P w K mg base CX0 k f1 fd1 ["thing"] (spIsWorld K)) (b1 : Binds K fd1 ["thing"] []) (k1 : PySem.W.keepIn K (.ref f1) = true) (m1 : mg "is_world" = some (.ref f1)) :
    FnOk P w K mg base CX0 (k + 1) f fd ["thing"] (spCheckWorld K) := by
  refine F.ok scCheckWorld (fun vs H Q E h => ?_) (fun cdv A outer s H vs Q E hr h => ?_)
  · obtain ⟨x, ns, rfl, _⟩ := h
    rfl
  obtain ⟨x, ns, rfl, hx, hw, q⟩ := h
  refine ⟨_, pss_one (ps_if (pt_not (pt_val (pe_call G1 hr (by rfl) m1 k1 b1 .nil pass0 (pa_cons (pv 0) pa_nil)))) pss_never pss_nil), ?_⟩
  refine ⟨x, rfl, x, ns, rfl, hx, hw, fun H1 s1 => ⟨true, rfl, ?_⟩⟩
  exact q H1 s1
def spCheckKind (K : PySem.W.Frag) : Sp := fun vs H Q _ => ∃ (z : Str) (a : Addr) (zs : W), vs = [.str z, .ref a] ∧ SqT K H a (zs.map V.str) ∧ z ∈ zs ∧ Q .non H
theorem ok_checkKind (F : Fun K "check_kind" "check_kind" sCheckKind f fd) : FnOk P w K mg base CX0 (k + 1) f fd ["thing", "kinds"] (spCheckKind K) := by
  refine F.ok scCheckKind (fun vs H Q E h => ?_) (fun cdv A outer s H vs Q E hr h => ?_)
  · obtain ⟨z, a, zs, rfl, _⟩ := h
    rfl
  obtain ⟨z, a, zs, rfl, hS, hz, q⟩ := h
  refine ⟨_, pss_one (ps_if (pt_cmpR op_notIn_seq (pv 0) (pv 1) (by rfl)) pss_never pss_nil), ?_⟩
  refine ⟨.str z, rfl, .ref a, rfl, a, zs.map V.str, rfl, .inr hS, rfl, flat_strs zs, _, rfl, ?_⟩
  rw [inV_str, decide_eq_true hz]
  exact q
end
end Rw
namespace Rw
open PySem PySem.Spec PyProof.Rows L2
/-! ### what barred tells -/
/-- the first that is told -/
theorem first_at {α β : Type} {f : α → Option β} {y : β} : ∀ {l : List α} {i : Nat} {p : α}, (∀ q ∈ l.take i, f q = none) → l[i]? = some p → f p = some y → l.findSome? f = some y
  | [], _, _, _, h, _ => by simp at h
  | a :: l, 0, p, _, h, e => by
    simp at h
    subst h
    rw [List.findSome?_cons, e]
  | a :: l, i + 1, p, h0, h, e => by
    rw [List.findSome?_cons, h0 a (by simp)]
    exact first_at (i := i) (fun q hq => h0 q (by rw [List.take_succ_cons]; exact List.mem_cons_of_mem _ hq)) (by simpa using h) e
theorem first_none {α β : Type} {f : α → Option β} {l : List α} (h : ∀ q ∈ l, f q = none) : l.findSome? f = none := List.findSome?_eq_none_iff.mpr h
theorem none_snoc {α β : Type} {f : α → Option β} {l : List α} {i : Nat} {p : α} (h0 : ∀ q ∈ l.take i, f q = none) (h : l[i]? = some p) (e : f p = none) : ∀ q ∈ l.take (i + 1), f q = none := fun q hq => by
  rw [take_snoc h] at hq
  rcases List.mem_append.mp hq with hq | hq
  · exact h0 q hq
  · rw [List.mem_singleton.mp hq]
    exact e
theorem filt_t {α : Type} {p : α → Bool} {l : List α} {i : Nat} {z : α} (hz : l[i]? = some z) (e : p z = true) : (l.take (i + 1)).filter p = (l.take i).filter p ++ [z] := by
  rw [take_snoc hz, List.filter_append]
  simp [e]
theorem filt_f {α : Type} {p : α → Bool} {l : List α} {i : Nat} {z : α} (hz : l[i]? = some z) (e : p z = false) : (l.take (i + 1)).filter p = (l.take i).filter p := by
  rw [take_snoc hz, List.filter_append]
  simp [e]
def totalS : Str := ("total" : Str)
def upwardS : Str := ("upward" : Str)
def meetS : Str := ("meet" : Str)
def anyS : Str := ("any" : Str)
def plainS : Str := ("plain" : Str)
def singleS : Str := ("single" : Str)
def meet (ns ms : W) : W := ns.filter fun z => decide (z ∈ ms)
def tops (R : List Pr) : List W := (R.filter fun p => decide (p.1 = p.2)).map (·.2)
def lows (R : List Pr) (t : W) : List W := (R.filter fun p => decide (p.2 = t)).map (·.1)
def totIn (R : List Pr) (p : Pr) : Option PyData := if (p.2, p.2) ∈ R then none else some (.tuple [.str totalS, pd p])
def upIn (R : List Pr) (p : Pr) (h : W) : Option PyData := if sub p.2 h = true ∧ (p.1, h) ∉ R then some (.tuple [.str upwardS, pd p, wd h]) else none
def meIn (R : List Pr) (p : Pr) (o : W) : Option PyData := if (meet p.1 o, p.2) ∈ R then none else some (.tuple [.str meetS, pd p, pd (o, p.2)])
def totO (R : List Pr) : Option PyData := R.findSome? (totIn R)
def upO (R : List Pr) : Option PyData := R.findSome? fun p => (tops R).findSome? (upIn R p)
def meO (R : List Pr) : Option PyData := R.findSome? fun p => (lows R p.2).findSome? (meIn R p)
def or2 (a b : Option PyData) : Option PyData := match a with | none => b | some d => some d
def whyO (R : List Pr) (z : Str) : Option PyData := or2 (or2 (totO R) (if z = anyS then none else upO R)) (if z = singleS then meO R else none)
/-- what is told, as a value -/
def Told (K : PySem.W.Frag) (H : Hp) (x : V) : Option PyData → Prop
  | none => x = .non
  | some d => (∃ a, x = .ref a) ∧ okD d = true ∧ Dp K H x d
theorem Told.stay {K : PySem.W.Frag} {H H' : Hp} {x : V} {o : Option PyData} (h : Told K H x o) (e : Stay H H') : Told K H' x o := by
  cases o with
  | none => exact h
  | some d => exact ⟨h.1, h.2.1, e.dp _ _ h.2.1 h.2.2⟩
theorem told_isN {K : PySem.W.Frag} {H : Hp} {x : V} {o : Option PyData} (h : Told K H x o) : decide (x = V.non) = o.isNone := by
  cases o with
  | none =>
    rw [show x = V.non from h]
    rfl
  | some d =>
    obtain ⟨⟨a, rfl⟩, _⟩ := h
    exact decide_eq_false (fun z => nomatch z)
/-- the list of pairs at l -/
structure PL (K : PySem.W.Frag) (H : Hp) (l : Addr) (R : List Pr) : Prop where
  ex : ∃ xs, SqL K H l xs ∧ DpAll K H xs (R.map pd)
theorem PL.same {K : PySem.W.Frag} {H H' : Hp} {l : Addr} {R : List Pr} (h : PL K H l R) (e : Same H H') : PL K H' l R := by
  obtain ⟨xs, h1, h2⟩ := h.ex
  exact ⟨xs, e.seq h1, (Stay.same e).dpAll _ _ (okDs_all fun d hd => by obtain ⟨p, _, rfl⟩ := List.mem_map.mp hd; exact ok_pd p) h2⟩
/-- the dict of the pairs at d -/
structure PD (K : PySem.W.Frag) (P : Program) (w : World) (H : Hp) (d : Addr) (R : List Pr) : Prop where
  ex : ∃ kvs, H d = some (NDO P w d kvs) ∧ KeysOk K H kvs ∧ kvs.map (·.1) = R.map pd
theorem PD.same {K : PySem.W.Frag} {P : Program} {w : World} {H H' : Hp} {d : Addr} {R : List Pr} (h : PD K P w H d R) (e : Same H H') : PD K P w H' d R := by
  obtain ⟨kvs, h1, h2, h3⟩ := h.ex
  exact ⟨kvs, e _ _ h1, h2.stay (.same e), h3⟩
theorem pd_mem {R : List Pr} {p : Pr} : pd p ∈ R.map pd ↔ p ∈ R :=
  ⟨fun h => by obtain ⟨q, hq, e⟩ := List.mem_map.mp h; rw [← pd_inj e]; exact hq, fun h => List.mem_map.mpr ⟨p, h, rfl⟩⟩
theorem mk_pd {K : PySem.W.Frag} {H H' : Hp} {u : Addr} {y z : V} {p : Pr} (e : Stay H H') (hu : H' u = some (.tup [y, z])) (hy : Dp K H y (wd p.1)) (hz : Dp K H z (wd p.2)) : Dp K H' (.ref u) (pd p) := to_pd (SqT.of hu) (e.wd hy) (e.wd hz)
abbrev sBarred : Stmt := topS 18
abbrev sAsked : Stmt := topS 19
abbrev sWhyNot : Stmt := topS 20
abbrev sTotal : Stmt := topS 21
abbrev sUpward : Stmt := topS 22
abbrev sMeeting : Stmt := topS 23
abbrev sBelow : Stmt := topS 24
abbrev sCommon : Stmt := topS 25
theorem scBarred : FnScope ["pairs", "names", "kind"] ["pairs", "names", "kind"] (defScope sBarred) := ⟨rfl, rfl, rfl, by decide +kernel, rfl, by decide +kernel, by decide +kernel⟩
theorem scAsked : FnScope ["pairs", "names", "kind", "thing"] ["pairs", "names", "kind"] (defScope sAsked) := ⟨rfl, rfl, rfl, by decide +kernel, rfl, by decide +kernel, by decide +kernel⟩
theorem scWhyNot : FnScope ["chosen", "kind", "present", "why", "pair"] ["chosen", "kind"] (defScope sWhyNot) := ⟨rfl, rfl, rfl, by decide +kernel, rfl, by decide +kernel, by decide +kernel⟩
theorem scTotal : FnScope ["chosen", "present", "here", "there"] ["chosen", "present"] (defScope sTotal) := ⟨rfl, rfl, rfl, by decide +kernel, rfl, by decide +kernel, by decide +kernel⟩
theorem scUpward : FnScope ["chosen", "present", "here", "there", "tops", "high"] ["chosen", "present"] (defScope sUpward) := ⟨rfl, rfl, rfl, by decide +kernel, rfl, by decide +kernel, by decide +kernel⟩
theorem scMeeting : FnScope ["chosen", "present", "lows", "one", "there", "other"] ["chosen", "present"] (defScope sMeeting) := ⟨rfl, rfl, rfl, by decide +kernel, rfl, by decide +kernel, by decide +kernel⟩
theorem scBelow : FnScope ["chosen", "lows", "here", "there"] ["chosen"] (defScope sBelow) := ⟨rfl, rfl, rfl, by decide +kernel, rfl, by decide +kernel, by decide +kernel⟩
theorem scCommon : FnScope ["one", "other", "name"] ["one", "other"] (defScope sCommon) := ⟨rfl, rfl, rfl, by decide +kernel, rfl, by decide +kernel, by decide +kernel⟩
section
variable {P : Program} {w : World} {K : PySem.W.Frag} {mg : Str → Option Value} {base : Heap} {f : Addr} {fd : FuncData} {k : Nat}
/-! ### _common -/
def spCommon (K : PySem.W.Frag) : Sp := fun vs H Q _ => ∃ (x y : V) (ns ms : W), vs = [x, y] ∧ Dp K H x (wd ns) ∧ Dp K H y (wd ms) ∧ ns.length ≤ 1000 ∧ ∀ H' a, Same H H' → H' a = some (.tup ((meet ns ms).map V.str)) → Q (.ref a) H'
theorem ok_common (F : Fun K "_common" "_common" sCommon f fd) (T : Bl mg) : FnOk P w K mg base CX0 (k + 1) f fd ["one", "other"] (spCommon K) := by
  refine F.ok scCommon (fun vs H Q E h => ?_) (fun cdv A outer s H vs Q E hr h => ?_)
  · obtain ⟨x, y, ns, ms, rfl, _⟩ := h
    rfl
  obtain ⟨x, y, ns, ms, rfl, hx, hy, few, q⟩ := h
  obtain ⟨a, rfl, hS⟩ := of_wd hx
  obtain ⟨b, rfl, hT⟩ := of_wd hy
  refine ⟨_, pss_one (ps_ret (pe_callTy call_tuple_of (by rfl) T.tuple (by decide +kernel) (pa_cons (pe_lc (own := [("name", 2)]) (g := gName 2) (by rfl) scCommon.nd (pi_tup (pv 0)) (blkOk_by (N := ["one", "other", "name"]) (sc := defScope sCommon) (by decide +kernel))
        (fun _ _ _ _ _ => pg_name (i := 2) scCommon.nd rfl (Or.inl rfl)) (fun _ _ _ _ _ => pts_one (pt_cmpR (r := rIn K false) op_in_seq (pv 2) (pv 1) (by rfl))) (fun _ _ _ _ _ => pv 2)) pa_nil))), ?_⟩
  refine ⟨.ref a, rfl, a, rfl, ⟨_, hS⟩, fun D hD => ?_⟩
  have s1 : Same H (upd H D (.lst [])) := same_new hD _
  refine lc_tup (xs := ns.map V.str) (fun i H1 => Same H H1 ∧ H1 D = some (.lst (((ns.take i).filter fun z => decide (z ∈ ms)).map V.str))) ⟨s1, upd_same⟩ (fun i H1 _ hI => same_tup hI.1 hS) (fun i x H1 hx hI => ?_) (fun H1 hI => ?_)
  · obtain ⟨sm, hd⟩ := hI
    obtain ⟨z, hz, rfl⟩ := map_at hx
    refine ⟨rfl, .str z, rfl, .ref b, rfl, b, ms.map V.str, rfl, .inr (same_tup sm hT), rfl, flat_strs ms, _, rfl, ?_⟩
    rw [inV_str]
    refine ite2 (fun e => ?_) (fun e => ?_)
    · refine ⟨.str z, rfl, _, hd, small_line' ?_, same_put sm hD, ?_⟩
      · rw [List.length_map]
        have := List.length_filter_le (fun z => decide (z ∈ ms)) (ns.take i)
        rw [List.length_take] at this
        omega
      · rw [upd_same, filt_t hz (show decide (z ∈ ms) = true by simpa using e), List.map_append]
        rfl
    · refine ⟨sm, ?_⟩
      rw [filt_f hz (show decide (z ∈ ms) = false by simpa using e)]
      exact hd
  · obtain ⟨sm, hd⟩ := hI
    rw [List.length_map, List.take_length] at hd
    refine ⟨D, _, rfl, .inl ⟨SqL.of hd, fun l hl => ?_⟩⟩
    exact q _ l (sm.trans (same_new hl _)) upd_same
/-! ### _not_total -/
def spTotal (K : PySem.W.Frag) (P : Program) (w : World) : Sp := fun vs H Q _ => ∃ (l d : Addr) (R : List Pr), vs = [.ref l, .ref d] ∧ PL K H l R ∧ PD K P w H d R ∧ ∀ H' x, Same H H' → Told K H' x (totO R) → Q x H'
theorem ok_total (F : Fun K "_not_total" "_not_total" sTotal f fd) : FnOk P w K mg base CX0 (k + 1) f fd ["chosen", "present"] (spTotal K P w) := by
  refine F.ok scTotal (fun vs H Q E h => ?_) (fun cdv A outer s H vs Q E hr h => ?_)
  · obtain ⟨l, d, R, rfl, _⟩ := h
    rfl
  obtain ⟨l, d, R, rfl, hl, hd, q⟩ := h
  refine ⟨_, pss_cons (ps_for PassesOwn.never rfl (pi_list (pv 0)) (pg_tup (by rfl) (pgs_cons (pg_name (i := 2) scTotal.nd rfl (.inl rfl)) (pgs_cons (pg_name (i := 3) scTotal.nd rfl (.inl rfl)) pgs_nil)))
      (pss_one (ps_if (pt_cmpR (op_notInN hr.units) (pe_tup (pa_cons (pv 3) (pa_cons (pv 3) pa_nil))) (pv 1) (by rfl)) (pss_one (ps_ret (pe_tup (pa_cons pe_str (pa_cons (pe_tup (pa_cons (pv 2) (pa_cons (pv 3) pa_nil))) pa_nil))))) pss_nil)))
    (pss_one (ps_ret pe_non)), ?_⟩
  obtain ⟨xs, hS, hx⟩ := hl.ex
  refine ⟨.ref l, rfl, l, rfl, ⟨_, hS⟩, for_list (xs := xs) (fun i σ H1 => (∃ y2 y3, σ = [some (.ref l), some (.ref d), y2, y3]) ∧ Same H H1 ∧ ∀ p ∈ R.take i, totIn R p = none) ⟨⟨none, none, rfl⟩, fun _ _ e => e, by simp⟩ (fun i σ H1 _ hI => hI.2.1.seq hS) (fun i x σ H1 hxi hI => ?_) (fun σ H1 hI => ?_)⟩
  · obtain ⟨⟨y2, y3, rfl⟩, sm, h0⟩ := hI
    obtain ⟨dd, hdd, hxd⟩ := dpAll_at' hx hxi
    obtain ⟨p, hp, rfl⟩ := map_at hdd
    obtain ⟨a, y, z, rfl, hP, hy, hz⟩ := of_pd ((Stay.same sm).pd hxd)
    refine ⟨a, [y, z], rfl, hP, rfl, y, [z], rfl, z, [], rfl, rfl, ?_⟩
    refine ⟨z, rfl, z, rfl, by show 2 ≤ sizeLine; decide, fun t ht => ?_⟩
    have st : Same H1 (upd H1 t (.tup [z, z])) := same_new ht _
    have dt : Dp K (upd H1 t (.tup [z, z])) (.ref t) (pd (p.2, p.2)) := to_pd (SqT.of upd_same) ((Stay.same st).wd hz) ((Stay.same st).wd hz)
    obtain ⟨kvs, hd1, hd2, hd3⟩ := (hd.same (sm.trans st)).ex
    refine ⟨.ref d, rfl, t, d, kvs, pd (p.2, p.2), rfl, rfl, hd1, hd2, good_pd _, dt, fun b hb => ⟨_, rfl, ?_⟩⟩
    rw [hd3, pd_mem] at hb
    refine ite2 (fun e => ?_) (fun e => ?_)
    · have nb : (p.2, p.2) ∉ R := fun h => by
        rw [hb.mpr h] at e
        exact absurd e (by decide)
      refine ⟨y, rfl, z, rfl, by show 2 ≤ sizeLine; decide, fun u hu => ⟨by show 2 ≤ sizeLine; decide, fun v hv => ?_⟩⟩
      have su := same_new hu (.tup [y, z])
      have sv := same_new hv (.tup [.str totalS, .ref u])
      refine q _ _ (sm.trans (st.trans (su.trans sv))) ?_
      have e0 : totIn R p = some (.tuple [.str totalS, pd p]) := by
        unfold totIn
        rw [if_neg nb]
      have et : totO R = some (.tuple [.str totalS, pd p]) := first_at h0 hp e0
      rw [et]
      exact ⟨⟨v, rfl⟩, by simp [okD, okDs, ok_pd], .tup (SqT.of upd_same) (.cons (.str _) (.cons (mk_pd (.same (st.trans (su.trans sv))) (sv _ _ upd_same) hy hz) .nil))⟩
    · have nb : (p.2, p.2) ∈ R := hb.mp (by simpa using e)
      refine ⟨⟨_, _, rfl⟩, sm.trans st, none_snoc h0 hp ?_⟩
      unfold totIn
      rw [if_pos nb]
  · obtain ⟨⟨y2, y3, rfl⟩, sm, h0⟩ := hI
    refine q H1 _ sm ?_
    have xl : xs.length = R.length := by rw [dpAll_len hx, List.length_map]
    rw [xl, List.take_length] at h0
    have et : totO R = none := first_none h0
    rw [et]
    exact rfl
/-! ### _not_upward -/
def spUpward (K : PySem.W.Frag) (P : Program) (w : World) : Sp := fun vs H Q _ => ∃ (l d : Addr) (R : List Pr), vs = [.ref l, .ref d] ∧ PL K H l R ∧ PD K P w H d R ∧ R.length ≤ 1000 ∧ (∀ p ∈ R, IsW p.1 ∧ IsW p.2) ∧ ∀ H' x, Same H H' → Told K H' x (upO R) → Q x H'
theorem ok_upward {f1 : Addr} {fd1 : FuncData} (F : Fun K "_not_upward" "_not_upward" sUpward f fd) (G1 : FnOk P w K mg base CX0 k f1 fd1 ["names", "wanted"] (spHasAll K)) (b1 : Binds K fd1 ["names", "wanted"] []) (k1 : PySem.W.keepIn K (.ref f1) = true) (m1 : mg "has_all" = some (.ref f1)) :
    FnOk P w K mg base CX0 (k + 1) f fd ["chosen", "present"] (spUpward K P w) := by
  refine F.ok scUpward (fun vs H Q E h => ?_) (fun cdv A outer s H vs Q E hr h => ?_)
  · obtain ⟨l, d, R, rfl, _⟩ := h
    rfl
  obtain ⟨l, d, R, rfl, hl, hd, few, hR, q⟩ := h
  refine ⟨_, pss_cons (ps_setLc (i := 4) (own := [("here", 2), ("there", 3)]) (g := gTup K 2 (gCons (gName 2) (gCons (gName 3) gNil))) (by rfl) scUpward.nd rfl rfl (sw_true rfl rfl rfl (by decide +kernel)) (pi_list (pv 0)) (blkOk_by (N := ["chosen", "present", "here", "there", "tops", "high"]) (sc := defScope sUpward) (by decide +kernel))
        (fun _ _ _ _ _ => pg_tup (by rfl) (pgs_cons (pg_name (i := 2) scUpward.nd rfl (.inl rfl)) (pgs_cons (pg_name (i := 3) scUpward.nd rfl (.inl rfl)) pgs_nil))) (fun _ _ _ _ _ => pts_one (pt_cmpR (r := rEqD K) (op_eqD hr.units) (pv 2) (pv 3) (nomark _))) (fun _ _ _ _ _ => pv 3))
    (pss_cons (ps_for PassesOwn.never rfl (pi_list (pv 0)) (pg_tup (by rfl) (pgs_cons (pg_name (i := 2) scUpward.nd rfl (.inl rfl)) (pgs_cons (pg_name (i := 3) scUpward.nd rfl (.inl rfl)) pgs_nil)))
      (pss_one (ps_for PassesOwn.never rfl (pi_list (pv 4)) (pg_name (i := 5) scUpward.nd rfl (.inl rfl))
        (pss_one (ps_if (PW.pt (pw_and (pt_val (pe_call G1 hr (by rfl) m1 k1 b1 .nil pass0 (pa_cons (pv 5) (pa_cons (pv 3) pa_nil)))) (pw_and1 (pt_cmpR (op_notInN hr.units) (pe_tup (pa_cons (pv 2) (pa_cons (pv 5) pa_nil))) (pv 1) (by rfl)))))
          (pss_one (ps_ret (pe_tup (pa_cons pe_str (pa_cons (pe_tup (pa_cons (pv 2) (pa_cons (pv 3) pa_nil))) (pa_cons (pv 5) pa_nil)))))) pss_nil)))))
    (pss_one (ps_ret pe_non))), ?_⟩
  obtain ⟨xs, hS, hx⟩ := hl.ex
  have xl : xs.length = R.length := by rw [dpAll_len hx, List.length_map]
  refine ⟨.ref l, rfl, l, rfl, ⟨_, hS⟩, fun D hD => ?_⟩
  refine lc_list (xs := xs) (fun i H1 => Same H H1 ∧ ∃ ys, H1 D = some (.lst ys) ∧ DpAll K H1 ys ((tops (R.take i)).map wd)) ⟨same_new hD _, [], upd_same, .nil⟩ (fun i H1 _ hI => hI.1.seq hS) (fun i x H1 hxi hI => ?_) (fun HB hI => ?_)
  · obtain ⟨sm, ys, hdd, hys⟩ := hI
    obtain ⟨dd, hd1, hxd⟩ := dpAll_at' hx hxi
    obtain ⟨p, hp, rfl⟩ := map_at hd1
    obtain ⟨a, y, z, rfl, hP, hy, hz⟩ := of_pd ((Stay.same sm).pd hxd)
    obtain ⟨w1, w2⟩ := hR p (List.mem_of_getElem? hp)
    have il : i < R.length := (List.getElem?_eq_some_iff.mp hp).1
    refine ⟨a, [y, z], rfl, hP, rfl, y, [z], rfl, z, [], rfl, rfl, rfl, y, rfl, z, rfl, wd p.1, wd p.2, hy, hz, shaped_wd w1, shaped_wd w2, _, rfl, ?_⟩
    rw [eqv_wd]
    refine ite2 (fun e => ?_) (fun e => ?_)
    · have st : Same H (upd H1 D (.lst (ys ++ [z]))) := same_put sm hD
      refine ⟨z, rfl, ys, hdd, small_line' ?_, st, _, upd_same, ?_⟩
      · rw [dpAll_len hys, List.length_map]
        unfold tops
        rw [List.length_map]
        have := List.length_filter_le (fun p : Pr => decide (p.1 = p.2)) (R.take i)
        rw [List.length_take] at this
        omega
      · unfold tops
        rw [filt_t hp e, List.map_append, List.map_append]
        have hm : Mut (H1 D) := by rw [hdd]; exact True.intro
        refine dpAll_app ((Stay.put hm _).dpAll _ _ (okDs_all ?_) hys) (.cons ((Stay.put hm _).wd hz) .nil)
        intro d hd
        obtain ⟨q, _, rfl⟩ := List.mem_map.mp hd
        exact ok_wd q
    · refine ⟨sm, ys, hdd, ?_⟩
      unfold tops
      rw [filt_f hp (by simpa using e)]
      exact hys
  obtain ⟨sB, ys, hDB, hys⟩ := hI
  rw [xl, List.take_length] at hys
  have yl : ys.length = (tops R).length := by rw [dpAll_len hys, List.length_map]
  have hxB : DpAll K HB xs (R.map pd) := by
    obtain ⟨xs', h1, h2⟩ := (hl.same sB).ex
    exact (Stay.same sB).dpAll _ _ (okDs_all fun d hd => by obtain ⟨p, _, rfl⟩ := List.mem_map.mp hd; exact ok_pd p) hx
  refine ⟨.ref l, rfl, l, rfl, ⟨_, sB.seq hS⟩, for_list (xs := xs) (fun i σ H1 => (∃ y2 y3 y5, σ = [some (.ref l), some (.ref d), y2, y3, some (.ref D), y5]) ∧ Same HB H1 ∧ ∀ p ∈ R.take i, (tops R).findSome? (upIn R p) = none) ⟨⟨none, none, none, rfl⟩, fun _ _ e => e, by simp⟩ (fun i σ H1 _ hI => (sB.trans hI.2.1).seq hS) (fun i x σ H1 hxi hI => ?_) (fun σ H1 hI => ?_)⟩
  · obtain ⟨⟨y2, y3, y5, rfl⟩, sm, h0⟩ := hI
    obtain ⟨dd, hdd, hxd⟩ := dpAll_at' hxB hxi
    obtain ⟨p, hp, rfl⟩ := map_at hdd
    obtain ⟨a, y, z, rfl, hP, hy, hz⟩ := of_pd hxd
    obtain ⟨w1, w2⟩ := hR p (List.mem_of_getElem? hp)
    refine ⟨a, [y, z], rfl, (Stay.same sm).seq hP, rfl, y, [z], rfl, z, [], rfl, rfl, ?_⟩
    refine ⟨.ref D, rfl, D, rfl, ⟨_, SqL.of (sm _ _ hDB)⟩, for_list (xs := ys) (fun j σ H2 => (∃ y5, σ = [some (.ref l), some (.ref d), some y, some z, some (.ref D), y5]) ∧ Same HB H2 ∧ ∀ h ∈ (tops R).take j, upIn R p h = none) ⟨⟨_, rfl⟩, sm, by simp⟩ (fun j σ H2 _ hI => SqL.of (hI.2.1 _ _ hDB)) (fun j u σ H2 hu hI => ?_) (fun σ H2 hI => ?_)⟩
    · obtain ⟨⟨y5, rfl⟩, sm2, g0⟩ := hI
      obtain ⟨du, hdu, hud⟩ := dpAll_at' hys hu
      obtain ⟨h, hh, rfl⟩ := map_at hdu
      have w2l := w2.few
      refine ⟨u, rfl, z, rfl, u, z, h, p.2, rfl, (Stay.same sm2).wd hud, (Stay.same sm2).wd hz, by omega, fun H3 s3 => ⟨_, rfl, ?_⟩⟩
      have sm3 := sm2.trans s3
      refine ite2 (fun e => ?_) (fun e => ?_)
      · refine ⟨y, rfl, u, rfl, by show 2 ≤ sizeLine; decide, fun t ht => ?_⟩
        have st := sm3.trans (same_new ht (.tup [y, u]))
        have dt : Dp K (upd H3 t (.tup [y, u])) (.ref t) (pd (p.1, h)) := to_pd (SqT.of upd_same) ((Stay.same st).wd hy) ((Stay.same st).wd hud)
        obtain ⟨kvs, hd1, hd2, hd3⟩ := (hd.same (sB.trans st)).ex
        refine ⟨.ref d, rfl, t, d, kvs, pd (p.1, h), rfl, rfl, hd1, hd2, good_pd _, dt, fun b hb => ⟨_, rfl, ?_⟩⟩
        rw [hd3, pd_mem] at hb
        refine ite2 (fun e2 => ?_) (fun e2 => ?_)
        · have nb : (p.1, h) ∉ R := fun h => by
            rw [hb.mpr h] at e2
            exact absurd e2 (by decide)
          refine ⟨y, rfl, z, rfl, by show 2 ≤ sizeLine; decide, fun c hc => ⟨u, rfl, by show 3 ≤ sizeLine; decide, fun v hv => ?_⟩⟩
          have su := same_new hc (.tup [y, z])
          have sv := same_new hv (.tup [.str upwardS, .ref c, u])
          have all := st.trans (su.trans sv)
          refine q _ _ (sB.trans all) ?_
          have e0 : upIn R p h = some (.tuple [.str upwardS, pd p, wd h]) := by
            unfold upIn
            rw [if_pos ⟨e, nb⟩]
          have et : upO R = some (.tuple [.str upwardS, pd p, wd h]) := first_at h0 hp (first_at g0 hh e0)
          rw [et]
          exact ⟨⟨v, rfl⟩, by simp [okD, okDs, ok_pd, ok_wd], .tup (SqT.of upd_same) (.cons (.str _) (.cons (mk_pd (.same all) (sv _ _ upd_same) hy hz) (.cons ((Stay.same all).wd hud) .nil)))⟩
        · have nb : (p.1, h) ∈ R := hb.mp (by simpa using e2)
          refine ⟨⟨_, rfl⟩, st, none_snoc g0 hh ?_⟩
          unfold upIn
          rw [if_neg fun z => z.2 nb]
      · refine ⟨⟨_, rfl⟩, sm3, none_snoc g0 hh ?_⟩
        unfold upIn
        rw [if_neg fun z => e z.1]
    · obtain ⟨⟨y5, rfl⟩, sm2, g0⟩ := hI
      rw [yl, List.take_length] at g0
      exact ⟨⟨_, _, _, rfl⟩, sm2, none_snoc h0 hp (first_none g0)⟩
  · obtain ⟨⟨y2, y3, y5, rfl⟩, sm, h0⟩ := hI
    refine q H1 _ (sB.trans sm) ?_
    rw [xl, List.take_length] at h0
    have et : upO R = none := first_none h0
    rw [et]
    exact rfl
end
end Rw
namespace Rw
open PySem PySem.Spec PyProof.Rows L2
/-! ### the worlds below -/
theorem lows_t {qs : List Pr} {p : Pr} : lows (qs ++ [p]) p.2 = lows qs p.2 ++ [p.1] := by
  unfold lows
  rw [List.filter_append, List.map_append]
  simp
theorem lows_f {qs : List Pr} {p : Pr} {t : W} (h : p.2 ≠ t) : lows (qs ++ [p]) t = lows qs t := by
  unfold lows
  rw [List.filter_append, List.map_append]
  simp [h]
theorem lows_none {qs : List Pr} {t : W} (h : ∀ p ∈ qs, p.2 ≠ t) : lows qs t = [] := by
  unfold lows
  rw [List.map_eq_nil_iff, List.filter_eq_nil_iff]
  intro p hp
  simpa using h p hp
abbrev LE : Type := W × Addr × Addr
def kv (e : LE) : Ent := (wd e.1, e.2.1, .ref e.2.2)
theorem okDs_wd (L : List W) : okDs (L.map wd) = true := okDs_all fun d hd => by
  obtain ⟨q, _, rfl⟩ := List.mem_map.mp hd
  exact ok_wd q
structure Lows (K : PySem.W.Frag) (P : Program) (w : World) (H0 H : Hp) (d : Addr) (qs : List Pr) (L : List LE) : Prop where
  di : H d = some (NDO P w d (L.map kv))
  ko : KeysOk K H (L.map kv)
  ls : ∀ e ∈ L, H0 e.2.2 = none ∧ ∃ ys, H e.2.2 = some (.lst ys) ∧ DpAll K H ys ((lows qs e.1).map wd)
  al : ∀ p ∈ qs, p.2 ∈ L.map (·.1)
  n1 : (L.map (·.1)).Nodup
  n2 : (L.map (·.2.2)).Nodup
  sm : Same H0 H
  dn : H0 d = none
  fe : L.length ≤ qs.length
theorem none_back {H0 H : Hp} (h : Same H0 H) {o : Addr} (n : H o = none) : H0 o = none := by
  cases e : H0 o with
  | none => rfl
  | some u =>
    rw [h _ _ e] at n
    cases n
theorem map_inj_nodup {α β : Type} {f : α → β} : ∀ {l : List α}, (l.map f).Nodup → ∀ a ∈ l, ∀ b ∈ l, f a = f b → a = b
  | [], _, a, h, _, _, _ => nomatch h
  | x :: l, hn, a, ha, b, hb, e => by
    rw [List.map_cons] at hn
    obtain ⟨h1, h2⟩ := List.nodup_cons.mp hn
    rcases List.mem_cons.mp ha with ea | ha
    · rcases List.mem_cons.mp hb with eb | hb
      · rw [ea, eb]
      · exact absurd (List.mem_map.mpr ⟨b, hb, by rw [← e, ea]⟩) h1
    · rcases List.mem_cons.mp hb with eb | hb
      · exact absurd (List.mem_map.mpr ⟨a, ha, by rw [e, eb]⟩) h1
      · exact map_inj_nodup h2 a ha b hb e
section
variable {P : Program} {w : World} {K : PySem.W.Frag} {mg : Str → Option Value} {base : Heap} {f : Addr} {fd : FuncData} {k : Nat} {H0 H : Hp} {d : Addr} {qs : List Pr} {L : List LE}
theorem Lows.old (h : Lows K P w H0 H d qs L) {p : Pr} {e : LE} (he : e ∈ L) (et : e.1 = p.2) {y : V} (hy : Dp K H y (wd p.1)) {o : Addr} (no : H o = none) :
    ∃ ys, (upd H o (.lst [])) e.2.2 = some (.lst ys) ∧ ys.length ≤ qs.length ∧ Lows K P w H0 (upd (upd H o (.lst [])) e.2.2 (.lst (ys ++ [y]))) d (qs ++ [p]) L := by
  obtain ⟨l0, ys, hl, hys⟩ := h.ls e he
  have s1 : Same H (upd H o (.lst [])) := same_new no _
  have hl1 := s1 _ _ hl
  have hm : Mut ((upd H o (.lst [])) e.2.2) := by rw [hl1]; exact True.intro
  have st : Stay H (upd (upd H o (.lst [])) e.2.2 (.lst (ys ++ [y]))) := (Stay.same s1).trans (.put hm _)
  have yl : ys.length = (lows qs e.1).length := by rw [dpAll_len hys, List.length_map]
  have dl : d ≠ e.2.2 := fun z => by
    have := h.di
    rw [z, hl] at this
    cases this
  refine ⟨ys, hl1, ?_, ?_, h.ko.stay st, fun e' he' => ?_, fun q hq => ?_, h.n1, h.n2, ?_, h.dn, ?_⟩
  · rw [yl]
    unfold lows
    rw [List.length_map]
    exact List.length_filter_le _ _
  · rw [upd_ne dl]
    exact s1 _ _ h.di
  · obtain ⟨l0', ys', hl', hys'⟩ := h.ls e' he'
    refine ⟨l0', ?_⟩
    by_cases c : e' = e
    · subst c
      rw [hl] at hl'
      cases hl'
      refine ⟨ys ++ [y], upd_same, ?_⟩
      rw [et, lows_t, List.map_append]
      rw [et] at hys
      exact dpAll_app (st.dpAll _ _ (okDs_wd _) hys) (.cons (st.wd hy) .nil)
    · have nl : e'.2.2 ≠ e.2.2 := fun z => c (map_inj_nodup h.n2 e' he' e he z)
      have nt : p.2 ≠ e'.1 := fun z => c (map_inj_nodup h.n1 e' he' e he (by rw [← z, et]))
      refine ⟨ys', ?_, ?_⟩
      · rw [upd_ne nl]
        exact s1 _ _ hl'
      · rw [lows_f nt]
        exact st.dpAll _ _ (okDs_wd _) hys'
  · rcases List.mem_append.mp hq with hq | hq
    · exact h.al q hq
    · rw [List.mem_singleton.mp hq, ← et]
      exact List.mem_map.mpr ⟨e, he, rfl⟩
  · exact same_put (h.sm.trans s1) l0
  · rw [List.length_append, List.length_singleton]
    exact Nat.le_succ_of_le h.fe
theorem Lows.new (h : Lows K P w H0 H d qs L) {p : Pr} (hn : p.2 ∉ L.map (·.1)) {y z : V} (hy : Dp K H y (wd p.1)) {a : Addr} (ha : Dp K H (.ref a) (wd p.2)) {o : Addr} (no : H o = none) :
    (upd (upd H o (.lst [])) d (NDO P w d (L.map kv ++ [kv (p.2, a, o)]))) o = some (.lst []) ∧
    Lows K P w H0 (upd (upd (upd H o (.lst [])) d (NDO P w d (L.map kv ++ [kv (p.2, a, o)]))) o (.lst ([] ++ [y]))) d (qs ++ [p]) (L ++ [(p.2, a, o)]) := by
  have s1 : Same H (upd H o (.lst [])) := same_new no _
  have hod : o ≠ d := fun z => by
    have := h.di
    rw [← z, no] at this
    cases this
  have hm1 : Mut ((upd H o (.lst [])) d) := by rw [s1 _ _ h.di]; exact True.intro
  have ho : (upd (upd H o (.lst [])) d (NDO P w d (L.map kv ++ [kv (p.2, a, o)]))) o = some (.lst []) := by
    rw [upd_ne hod, upd_same]
  have hm2 : Mut ((upd (upd H o (.lst [])) d (NDO P w d (L.map kv ++ [kv (p.2, a, o)]))) o) := by rw [ho]; exact True.intro
  have st : Stay H (upd (upd (upd H o (.lst [])) d (NDO P w d (L.map kv ++ [kv (p.2, a, o)]))) o (.lst ([] ++ [y]))) := ((Stay.same s1).trans (.put hm1 _)).trans (.put hm2 _)
  refine ⟨ho, ?_, ?_, fun e he => ?_, fun q hq => ?_, ?_, ?_, ?_, h.dn, ?_⟩
  · rw [upd_ne hod.symm, upd_same, List.map_append]
    rfl
  · intro e he
    rw [List.map_append] at he
    rcases List.mem_append.mp he with he | he
    · exact h.ko.stay st e he
    · rw [List.map_singleton, List.mem_singleton] at he
      subst he
      exact ⟨good_wd _, st.wd ha⟩
  · rcases List.mem_append.mp he with he | he
    · obtain ⟨l0, ys, hl, hys⟩ := h.ls e he
      have nt : p.2 ≠ e.1 := fun z => hn (by rw [z]; exact List.mem_map.mpr ⟨e, he, rfl⟩)
      have n1 : e.2.2 ≠ o := fun z => by
        rw [z, no] at hl
        cases hl
      have n2 : e.2.2 ≠ d := fun z => by
        rw [z, h.di] at hl
        cases hl
      refine ⟨l0, ys, ?_, ?_⟩
      · rw [upd_ne n1, upd_ne n2, upd_ne n1]
        exact hl
      · rw [lows_f nt]
        exact st.dpAll _ _ (okDs_wd _) hys
    · rw [List.mem_singleton] at he
      subst he
      refine ⟨none_back h.sm no, [] ++ [y], upd_same, ?_⟩
      have e0 : lows qs p.2 = [] := lows_none fun q hq z => hn (by rw [← z]; exact h.al q hq)
      show DpAll K _ _ ((lows (qs ++ [p]) p.2).map wd)
      rw [lows_t, e0]
      exact .cons (st.wd hy) .nil
  · rw [List.map_append]
    rcases List.mem_append.mp hq with hq | hq
    · exact List.mem_append_left _ (h.al q hq)
    · rw [List.mem_singleton.mp hq]
      exact List.mem_append_right _ (List.mem_singleton.mpr rfl)
  · rw [List.map_append]
    exact List.nodup_append.mpr ⟨h.n1, by simp, fun x hx y hy z => hn (by rw [List.map_singleton, List.mem_singleton] at hy; rw [← show y = p.2 from hy, ← z]; exact hx)⟩
  · rw [List.map_append]
    refine List.nodup_append.mpr ⟨h.n2, by simp, fun x hx y hy z => ?_⟩
    rw [List.map_singleton, List.mem_singleton] at hy
    obtain ⟨e, he, rfl⟩ := List.mem_map.mp hx
    obtain ⟨_, ys, hl, _⟩ := h.ls e he
    rw [z, show y = o from hy, no] at hl
    cases hl
  · exact same_put (same_put (h.sm.trans s1) h.dn) (none_back h.sm no)
  · rw [List.length_append, List.length_append]
    exact Nat.add_le_add_right h.fe 1
/-! ### _worlds_below -/
def spBelow (K : PySem.W.Frag) (P : Program) (w : World) : Sp := fun vs H Q _ => ∃ (l : Addr) (R : List Pr), vs = [.ref l] ∧ PL K H l R ∧ R.length ≤ 1000 ∧ ∀ H' d L, Lows K P w H H' d R L → Q (.ref d) H'
theorem ok_below (F : Fun K "_worlds_below" "_worlds_below" sBelow f fd) : FnOk P w K mg base CX0 (k + 1) f fd ["chosen"] (spBelow K P w) := by
  refine F.ok scBelow (fun vs H Q E h => ?_) (fun cdv A outer s H vs Q E hr h => ?_)
  · obtain ⟨l, R, rfl, _⟩ := h
    rfl
  obtain ⟨l, R, rfl, hl, few, q⟩ := h
  refine ⟨_, pss_cons (ps_set (i := 1) scBelow.nd rfl (.inl rfl) pe_dnewN)
    (pss_cons (ps_for PassesOwn.never rfl (pi_list (pv 0)) (pg_tup (by rfl) (pgs_cons (pg_name (i := 2) scBelow.nd rfl (.inl rfl)) (pgs_cons (pg_name (i := 3) scBelow.nd rfl (.inl rfl)) pgs_nil)))
      (pss_one (ps_expr (pe_bm PySem.F.plainAttrs_list PySem.F.slot_list_append PySem.F.type_list_append mt_append (pe_setdN hr.units (pv 1) (pv 3) (pe_lst pa_nil) ⟨rfl, rfl, rfl, rfl⟩) (pa_cons (pv 2) pa_nil)))))
    (pss_one (ps_ret (pv 1)))), ?_⟩
  obtain ⟨xs, hS, hx⟩ := hl.ex
  have xl : xs.length = R.length := by rw [dpAll_len hx, List.length_map]
  refine fun d hd => ?_
  refine ⟨.ref l, rfl, l, rfl, ⟨_, (same_new hd _).seq hS⟩, for_list (xs := xs) (fun i σ H1 => (∃ y2 y3, σ = [some (.ref l), some (.ref d), y2, y3]) ∧ ∃ L, Lows K P w H H1 d (R.take i) L) ⟨⟨none, none, rfl⟩, [], ?_⟩ (fun i σ H1 _ hI => hI.2.elim fun L z => z.sm.seq hS) (fun i x σ H1 hxi hI => ?_) (fun σ H1 hI => ?_)⟩
  · exact ⟨upd_same, (fun _ z => nomatch z), (fun _ z => nomatch z), by simp, List.nodup_nil, List.nodup_nil, same_new hd _, hd, by simp⟩
  · obtain ⟨⟨y2, y3, rfl⟩, L, hL⟩ := hI
    obtain ⟨dd, hdd, hxd⟩ := dpAll_at' hx hxi
    obtain ⟨p, hp, rfl⟩ := map_at hdd
    obtain ⟨a, y, z, rfl, hP, hy, hz⟩ := of_pd ((Stay.same hL.sm).pd hxd)
    refine ⟨a, [y, z], rfl, hP, rfl, y, [z], rfl, z, [], rfl, rfl, ?_⟩
    obtain ⟨c, rfl, hc⟩ := of_wd hz
    have il : i < R.length := (List.getElem?_eq_some_iff.mp hp).1
    refine ⟨.ref d, rfl, d, _, rfl, hL.di, .ref c, rfl, Nat.zero_le _, fun o no => ?_⟩
    have s1 : Same H1 (upd H1 o (.lst [])) := same_new no _
    have hLl := hL.fe
    rw [List.length_take] at hLl
    refine ⟨c, L.map kv, wd p.2, rfl, s1 _ _ hL.di, hL.ko.stay (.same s1), good_wd _, (Stay.same s1).wd hz, by rw [List.length_map]; omega, fun e he ek => ?_, fun hn => ?_⟩
    · obtain ⟨e0, he0, rfl⟩ := List.mem_map.mp he
      obtain ⟨ys, h1, h2, h3⟩ := hL.old (p := p) he0 (wd_inj ek) hy no
      rw [List.length_take] at h2
      refine ⟨.inl ⟨rfl, _, SqL.of h1⟩, y, rfl, e0.2.2, ys, y, rfl, rfl, h1, small_line' (by omega), ⟨_, _, rfl⟩, L, ?_⟩
      rw [take_snoc hp]
      exact h3
    · have hn' : p.2 ∉ L.map (·.1) := fun hm => by
        obtain ⟨e, he, ee⟩ := List.mem_map.mp hm
        exact hn (List.mem_map.mpr ⟨kv e, List.mem_map.mpr ⟨e, he, rfl⟩, by show wd e.1 = wd p.2; rw [ee]⟩)
      obtain ⟨h1, h3⟩ := hL.new (p := p) (z := y) hn' hy hz no
      refine ⟨.inl ⟨rfl, _, SqL.of h1⟩, y, rfl, o, [], y, rfl, rfl, h1, small_line' (Nat.zero_le _), ⟨_, _, rfl⟩, L ++ [(p.2, c, o)], ?_⟩
      rw [take_snoc hp]
      exact h3
  · obtain ⟨⟨y2, y3, rfl⟩, L, hL⟩ := hI
    rw [xl, List.take_length] at hL
    exact ⟨_, rfl, q H1 d L hL⟩
/-! ### _not_meeting -/
def spMeeting (K : PySem.W.Frag) (P : Program) (w : World) : Sp := fun vs H Q _ => ∃ (l d : Addr) (R : List Pr), vs = [.ref l, .ref d] ∧ PL K H l R ∧ PD K P w H d R ∧ R.length ≤ 1000 ∧ (∀ p ∈ R, IsW p.1 ∧ IsW p.2) ∧ ∀ H' x, Same H H' → Told K H' x (meO R) → Q x H'
theorem ok_meeting {f1 f2 : Addr} {fd1 fd2 : FuncData} (F : Fun K "_not_meeting" "_not_meeting" sMeeting f fd) (G1 : FnOk P w K mg base CX0 k f1 fd1 ["chosen"] (spBelow K P w)) (b1 : Binds K fd1 ["chosen"] []) (k1 : PySem.W.keepIn K (.ref f1) = true) (m1 : mg "_worlds_below" = some (.ref f1))
    (G2 : FnOk P w K mg base CX0 k f2 fd2 ["one", "other"] (spCommon K)) (b2 : Binds K fd2 ["one", "other"] []) (k2 : PySem.W.keepIn K (.ref f2) = true) (m2 : mg "_common" = some (.ref f2)) :
    FnOk P w K mg base CX0 (k + 1) f fd ["chosen", "present"] (spMeeting K P w) := by
  refine F.ok scMeeting (fun vs H Q E h => ?_) (fun cdv A outer s H vs Q E hr h => ?_)
  · obtain ⟨l, d, R, rfl, _⟩ := h
    rfl
  obtain ⟨l, d, R, rfl, hl, hd, few, hR, q⟩ := h
  refine ⟨_, pss_cons (ps_set (i := 2) scMeeting.nd rfl (.inl rfl) (pe_call G1 hr (by rfl) m1 k1 b1 .nil pass0 (pa_cons (pv 0) pa_nil)))
    (pss_cons (ps_for PassesOwn.never rfl (pi_list (pv 0)) (pg_tup (by rfl) (pgs_cons (pg_name (i := 3) scMeeting.nd rfl (.inl rfl)) (pgs_cons (pg_name (i := 4) scMeeting.nd rfl (.inl rfl)) pgs_nil)))
      (pss_one (ps_for PassesOwn.never rfl (pi_list (pe_getN hr.units (pv 2) (pv 4) (fun _ _ => rfl))) (pg_name (i := 5) scMeeting.nd rfl (.inl rfl))
        (pss_one (ps_if (pt_cmpR (op_notInN hr.units) (pe_tup (pa_cons (pe_call G2 hr (by rfl) m2 k2 b2 .nil pass0 (pa_cons (pv 3) (pa_cons (pv 5) pa_nil))) (pa_cons (pv 4) pa_nil))) (pv 1) (by rfl))
          (pss_one (ps_ret (pe_tup (pa_cons pe_str (pa_cons (pe_tup (pa_cons (pv 3) (pa_cons (pv 4) pa_nil))) (pa_cons (pe_tup (pa_cons (pv 5) (pa_cons (pv 4) pa_nil))) pa_nil)))))) pss_nil)))))
    (pss_one (ps_ret pe_non))), ?_⟩
  obtain ⟨xs, hS, hx⟩ := hl.ex
  have xl : xs.length = R.length := by rw [dpAll_len hx, List.length_map]
  refine ⟨.ref l, rfl, l, R, rfl, hl, few, fun HB D L hL => ?_⟩
  have sB := hL.sm
  have hxB : DpAll K HB xs (R.map pd) := (Stay.same sB).dpAll _ _ (okDs_all fun d hd => by obtain ⟨p, _, rfl⟩ := List.mem_map.mp hd; exact ok_pd p) hx
  refine ⟨.ref l, rfl, l, rfl, ⟨_, sB.seq hS⟩, for_list (xs := xs) (fun i σ H1 => (∃ y3 y4 y5, σ = [some (.ref l), some (.ref d), some (.ref D), y3, y4, y5]) ∧ Same HB H1 ∧ ∀ p ∈ R.take i, (lows R p.2).findSome? (meIn R p) = none) ⟨⟨none, none, none, rfl⟩, fun _ _ e => e, by simp⟩ (fun i σ H1 _ hI => (sB.trans hI.2.1).seq hS) (fun i x σ H1 hxi hI => ?_) (fun σ H1 hI => ?_)⟩
  · obtain ⟨⟨y3, y4, y5, rfl⟩, sm, h0⟩ := hI
    obtain ⟨dd, hdd, hxd⟩ := dpAll_at' hxB hxi
    obtain ⟨p, hp, rfl⟩ := map_at hdd
    obtain ⟨a, y, z, rfl, hP, hy, hz⟩ := of_pd hxd
    have pm := List.mem_of_getElem? hp
    obtain ⟨w1, w2⟩ := hR p pm
    refine ⟨a, [y, z], rfl, (Stay.same sm).seq hP, rfl, y, [z], rfl, z, [], rfl, rfl, ?_⟩
    obtain ⟨c, rfl, hc⟩ := of_wd hz
    refine ⟨.ref D, rfl, .ref c, rfl, c, D, L.map kv, wd p.2, rfl, rfl, sm _ _ hL.di, hL.ko.stay (.same sm), good_wd _, (Stay.same sm).wd hz, ?_, fun e he ek => ?_⟩
    · obtain ⟨e, he, ee⟩ := List.mem_map.mp (hL.al p pm)
      exact List.mem_map.mpr ⟨kv e, List.mem_map.mpr ⟨e, he, rfl⟩, by show wd e.1 = wd p.2; rw [ee]⟩
    obtain ⟨e0, he0, rfl⟩ := List.mem_map.mp he
    have et : e0.1 = p.2 := wd_inj ek
    obtain ⟨_, ys, hDB, hys⟩ := hL.ls e0 he0
    rw [et] at hys
    have yl : ys.length = (lows R p.2).length := by rw [dpAll_len hys, List.length_map]
    refine ⟨e0.2.2, rfl, ⟨_, SqL.of (sm _ _ hDB)⟩, for_list (xs := ys) (fun j σ H2 => (∃ y5, σ = [some (.ref l), some (.ref d), some (.ref D), some y, some (.ref c), y5]) ∧ Same HB H2 ∧ ∀ h ∈ (lows R p.2).take j, meIn R p h = none) ⟨⟨_, rfl⟩, sm, by simp⟩ (fun j σ H2 _ hI => SqL.of (hI.2.1 _ _ hDB)) (fun j u σ H2 hu hI => ?_) (fun σ H2 hI => ?_)⟩
    · obtain ⟨⟨y5, rfl⟩, sm2, g0⟩ := hI
      obtain ⟨du, hdu, hud⟩ := dpAll_at' hys hu
      obtain ⟨h, hh, rfl⟩ := map_at hdu
      have w1l := w1.few
      refine ⟨y, rfl, u, rfl, y, u, p.1, h, rfl, (Stay.same sm2).wd hy, (Stay.same sm2).wd hud, by omega, fun H3 m s3 hm => ⟨.ref c, rfl, by show 2 ≤ sizeLine; decide, fun t ht => ?_⟩⟩
      have sm3 := sm2.trans s3
      have s4 := same_new ht (.tup [.ref m, .ref c])
      have st := sm3.trans s4
      have dt : Dp K (upd H3 t (.tup [.ref m, .ref c])) (.ref t) (pd (meet p.1 h, p.2)) := to_pd (SqT.of upd_same) (to_wd (SqT.of (s4 _ _ hm))) ((Stay.same st).wd hz)
      obtain ⟨kvs, hd1, hd2, hd3⟩ := (hd.same (sB.trans st)).ex
      refine ⟨.ref d, rfl, t, d, kvs, pd (meet p.1 h, p.2), rfl, rfl, hd1, hd2, good_pd _, dt, fun b hb => ⟨_, rfl, ?_⟩⟩
      rw [hd3, pd_mem] at hb
      refine ite2 (fun e2 => ?_) (fun e2 => ?_)
      · have nb : (meet p.1 h, p.2) ∉ R := fun h => by
          rw [hb.mpr h] at e2
          exact absurd e2 (by decide)
        refine ⟨y, rfl, .ref c, rfl, by show 2 ≤ sizeLine; decide, fun c1 hc1 => ⟨u, rfl, .ref c, rfl, by show 2 ≤ sizeLine; decide, fun c2 hc2 => ⟨by show 3 ≤ sizeLine; decide, fun v hv => ?_⟩⟩⟩
        have su := same_new hc1 (.tup [y, .ref c])
        have su2 := same_new hc2 (.tup [u, .ref c])
        have sv := same_new hv (.tup [.str meetS, .ref c1, .ref c2])
        have all := st.trans (su.trans (su2.trans sv))
        refine q _ _ (sB.trans all) ?_
        have e0 : meIn R p h = some (.tuple [.str meetS, pd p, pd (h, p.2)]) := by
          unfold meIn
          rw [if_neg nb]
        have et : meO R = some (.tuple [.str meetS, pd p, pd (h, p.2)]) := first_at h0 hp (first_at g0 hh e0)
        rw [et]
        exact ⟨⟨v, rfl⟩, by simp [okD, okDs, ok_pd], .tup (SqT.of upd_same) (.cons (.str _) (.cons (mk_pd (.same all) ((su2.trans sv) _ _ upd_same) hy hz) (.cons (mk_pd (p := (h, p.2)) (.same all) (sv _ _ upd_same) hud hz) .nil)))⟩
      · have nb : (meet p.1 h, p.2) ∈ R := hb.mp (by simpa using e2)
        refine ⟨⟨_, rfl⟩, st, none_snoc g0 hh ?_⟩
        unfold meIn
        rw [if_pos nb]
    · obtain ⟨⟨y5, rfl⟩, sm2, g0⟩ := hI
      rw [yl, List.take_length] at g0
      exact ⟨⟨_, _, _, rfl⟩, sm2, none_snoc h0 hp (first_none g0)⟩
  · obtain ⟨⟨y3, y4, y5, rfl⟩, sm, h0⟩ := hI
    refine q H1 _ (sB.trans sm) ?_
    rw [xl, List.take_length] at h0
    have et : meO R = none := first_none h0
    rw [et]
    exact rfl
end
end Rw
namespace Rw
open PySem PySem.Spec PyProof.Rows L2
theorem sw_trueD {key val : Expr} {gs : List Comprehension} {scope : Scope} {pos py : Pos} {y : Str} {l : Nat} {env : Env} (hk : env.scope.kind = .function) (hy : env.scope.names.lookup y = some .local) (hl : (py.line == pos.line) = true)
    (ha : (scope.names.any fun (n, k) => n == y && (k == .local || k == .cell)) = false) : swapsWith (.DictComp key val gs scope pos) (some (.Name y py)) l env = pure true :=
  (show swapsWith (.DictComp key val gs scope pos) (some (.Name y py)) l env = swapsWith (.ListComp key gs scope pos) (some (.Name y py)) l env from rfl).trans (sw_true hk hy hl ha)
theorem okDs_pd (R : List Pr) : okDs (R.map pd) = true := okDs_all fun d hd => by
  obtain ⟨p, _, rfl⟩ := List.mem_map.mp hd
  exact ok_pd p
theorem all_pd : ∀ {ds : List PyData}, (∀ d ∈ ds, ∃ p, d = pd p) → ∃ R : List Pr, ds = R.map pd
  | [], _ => ⟨[], rfl⟩
  | d :: ds, h => by
    obtain ⟨p, rfl⟩ := h d List.mem_cons_self
    obtain ⟨R, rfl⟩ := all_pd fun e he => h e (List.mem_cons_of_mem _ he)
    exact ⟨p :: R, rfl⟩
theorem pd_nodup {R : List Pr} (h : R.Nodup) : (R.map pd).Nodup := by
  induction R with
  | nil => exact List.nodup_nil
  | cons p R ih =>
    obtain ⟨h1, h2⟩ := List.nodup_cons.mp h
    exact List.nodup_cons.mpr ⟨fun z => h1 (pd_mem.mp z), ih h2⟩
/-- a pair of worlds of a pool -/
structure IsP (pool : W) (p : Pr) : Prop where
  w1 : IsW p.1
  w2 : IsW p.2
  le : sub p.1 p.2 = true
  up : sub p.2 pool = true
/-- the pairs, a list or a tuple -/
def PS2 (K : PySem.W.Frag) (H : Hp) (l : Addr) (R : List Pr) : Prop := ∃ xs, (SqL K H l xs ∨ SqT K H l xs) ∧ DpAll K H xs (R.map pd)
theorem PS2.same {K : PySem.W.Frag} {H H' : Hp} {l : Addr} {R : List Pr} (h : PS2 K H l R) (e : Same H H') : PS2 K H' l R := by
  obtain ⟨xs, h1, h2⟩ := h
  exact ⟨xs, h1.elim (fun z => .inl (e.seq z)) (fun z => .inr (same_tup e z)), (Stay.same e).dpAll _ _ (okDs_pd R) h2⟩
section
variable {P : Program} {w : World} {K : PySem.W.Frag} {mg : Str → Option Value} {base : Heap} {f : Addr} {fd : FuncData} {k : Nat}
/-! ### _why_not -/
def spWhyNot (K : PySem.W.Frag) : Sp := fun vs H Q _ => ∃ (l : Addr) (z : Str) (R : List Pr), vs = [.ref l, .str z] ∧ PL K H l R ∧ R.Nodup ∧ R.length ≤ 1000 ∧ (∀ p ∈ R, IsW p.1 ∧ IsW p.2) ∧ ∀ H' x, Same H H' → Told K H' x (whyO R z) → Q x H'
theorem ok_whyNot {f1 f2 f3 : Addr} {fd1 fd2 fd3 : FuncData} (F : Fun K "_why_not" "_why_not" sWhyNot f fd) (G1 : FnOk P w K mg base CX0 k f1 fd1 ["chosen", "present"] (spTotal K P w)) (b1 : Binds K fd1 ["chosen", "present"] []) (k1 : PySem.W.keepIn K (.ref f1) = true) (m1 : mg "_not_total" = some (.ref f1))
    (G2 : FnOk P w K mg base CX0 k f2 fd2 ["chosen", "present"] (spUpward K P w)) (b2 : Binds K fd2 ["chosen", "present"] []) (k2 : PySem.W.keepIn K (.ref f2) = true) (m2 : mg "_not_upward" = some (.ref f2))
    (G3 : FnOk P w K mg base CX0 k f3 fd3 ["chosen", "present"] (spMeeting K P w)) (b3 : Binds K fd3 ["chosen", "present"] []) (k3 : PySem.W.keepIn K (.ref f3) = true) (m3 : mg "_not_meeting" = some (.ref f3)) :
    FnOk P w K mg base CX0 (k + 1) f fd ["chosen", "kind"] (spWhyNot K) := by
  refine F.ok scWhyNot (fun vs H Q E h => ?_) (fun cdv A outer s H vs Q E hr h => ?_)
  · obtain ⟨l, z, R, rfl, _⟩ := h
    rfl
  obtain ⟨l, z, R, rfl, hl, hn, few, hR, q⟩ := h
  refine ⟨_, pss_cons (ps_setDictTrue (i := 2) (own := [("pair", 4)]) (by rfl) hr.units scWhyNot.nd rfl rfl (sw_trueD rfl rfl rfl (by decide +kernel)) (pv 0) (blkOk_by (N := ["chosen", "kind", "present", "why", "pair"]) (sc := defScope sWhyNot) (by decide +kernel)) rfl rfl (by decide +kernel))
    (pss_cons (ps_set (i := 3) scWhyNot.nd rfl (.inl rfl) (pe_call G1 hr (by rfl) m1 k1 b1 .nil pass0 (pa_cons (pv 0) (pa_cons (pv 2) pa_nil))))
    (pss_cons (ps_if (PW.pt (pw_and (pt_cmpR op_isN (pv 3) pe_non (nomark _)) (pw_and1 (pt_cmpR op_ne (pv 1) pe_str (nomark _))))) (pss_one (ps_set (i := 3) scWhyNot.nd rfl (.inl rfl) (pe_call G2 hr (by rfl) m2 k2 b2 .nil pass0 (pa_cons (pv 0) (pa_cons (pv 2) pa_nil))))) pss_nil)
    (pss_cons (ps_if (PW.pt (pw_and (pt_cmpR op_isN (pv 3) pe_non (nomark _)) (pw_and1 (pt_cmpR op_eq (pv 1) pe_str (nomark _))))) (pss_one (ps_set (i := 3) scWhyNot.nd rfl (.inl rfl) (pe_call G3 hr (by rfl) m3 k3 b3 .nil pass0 (pa_cons (pv 0) (pa_cons (pv 2) pa_nil))))) pss_nil)
    (pss_one (ps_ret (pv 3)))))), ?_⟩
  obtain ⟨xs, hS, hx⟩ := hl.ex
  refine ⟨.ref l, rfl, l, xs, R.map pd, rfl, hS, hx, (fun d hd => by obtain ⟨p, _, rfl⟩ := List.mem_map.mp hd; exact good_pd p), pd_nodup hn, by rw [List.length_map]; exact few, fun D kvs hD e ko => ?_⟩
  have sD : Same H (upd H D (NDO P w D kvs)) := same_new hD _
  have hd : PD K P w (upd H D (NDO P w D kvs)) D R := ⟨kvs, upd_same, ko.stay (.same sD), e⟩
  refine ⟨.ref l, rfl, .ref D, rfl, l, D, R, rfl, hl.same sD, hd, fun H1 x s1 tx => ?_⟩
  have a1 := sD.trans s1
  refine ⟨x, rfl, rfl, _, rfl, ?_⟩
  rw [told_isN tx]
  have fin : ∀ H' x' o, Same H H' → Told K H' x' o → whyO R z = o → Q x' H' := fun H' x' o sm t e => q H' x' sm (by rw [e]; exact t)
  cases e1 : totO R with
  | some d1 =>
    rw [e1] at tx
    refine iteF ⟨x, rfl, rfl, _, rfl, ?_⟩
    rw [told_isN tx]
    refine iteF ⟨x, rfl, fin H1 x _ a1 tx ?_⟩
    unfold whyO
    rw [e1]
    rfl
  | none =>
    rw [e1] at tx
    refine iteT ⟨.str z, rfl, rfl, _, rfl, ?_⟩
    refine ite2 (fun c => ?_) (fun c => ?_)
    · have nz : z ≠ anyS := fun e => by
        rw [e] at c
        exact absurd c (by decide)
      refine ⟨.ref l, rfl, .ref D, rfl, l, D, R, rfl, hl.same a1, hd.same s1, few, hR, fun H2 x2 s2 tx2 => ?_⟩
      have a2 := a1.trans s2
      refine ⟨x2, rfl, rfl, _, rfl, ?_⟩
      rw [told_isN tx2]
      cases e2 : upO R with
      | some d2 =>
        rw [e2] at tx2
        refine iteF ⟨x2, rfl, fin H2 x2 _ a2 tx2 ?_⟩
        unfold whyO
        rw [e1, if_neg nz, e2]
        rfl
      | none =>
        rw [e2] at tx2
        refine iteT ⟨.str z, rfl, rfl, _, rfl, ?_⟩
        refine ite2 (fun c2 => ?_) (fun c2 => ?_)
        · have ez : z = singleS := V.str.inj (of_decide_eq_true c2)
          refine ⟨.ref l, rfl, .ref D, rfl, l, D, R, rfl, hl.same a2, hd.same (s1.trans s2), few, hR, fun H3 x3 s3 tx3 => ?_⟩
          refine ⟨x3, rfl, fin H3 x3 _ (a2.trans s3) tx3 ?_⟩
          unfold whyO
          rw [e1, if_neg nz, e2, if_pos ez]
          rfl
        · have ez : z ≠ singleS := fun e => c2 (by rw [e]; exact decide_eq_true rfl)
          refine ⟨x2, rfl, fin H2 x2 _ a2 tx2 ?_⟩
          unfold whyO
          rw [e1, if_neg nz, e2, if_neg ez]
          rfl
    · have ez : z = anyS := by
        have c' : decide (V.str z = V.str ("any" : Str)) = true := by simpa using c
        exact V.str.inj (of_decide_eq_true c')
      refine ⟨x, rfl, rfl, _, rfl, ?_⟩
      rw [told_isN tx]
      refine iteT ⟨.str z, rfl, rfl, _, rfl, ?_⟩
      have ns : decide (V.str z = V.str ("single" : Str)) = false := decide_eq_false fun e => by
        rw [ez] at e
        exact absurd (V.str.inj e) (by decide)
      refine ite2 (fun c2 => by rw [ns] at c2; exact absurd c2 (by decide)) (fun _ => ?_)
      refine ⟨x, rfl, fin H1 x _ a1 tx ?_⟩
      unfold whyO
      rw [e1, if_pos ez, if_neg fun e => absurd (ez.symm.trans e) (by decide)]
      rfl
/-! ### _check_asked -/
def spAsked (K : PySem.W.Frag) : Sp := fun vs H Q _ => ∃ (l : Addr) (x : V) (pool : W) (z : Str) (L : List Pr), vs = [.ref l, x, .str z] ∧ PS2 K H l L ∧ Dp K H x (wd pool) ∧ IsW pool ∧ (∀ p ∈ L, IsP pool p) ∧ z ∈ [anyS, plainS, singleS] ∧ ∀ H', Same H H' → Q .non H'
theorem ok_asked {f1 f2 f3 f4 aK : Addr} {fd1 fd2 fd3 fd4 : FuncData} (F : Fun K "_check_asked" "_check_asked" sAsked f fd) (G1 : FnOk P w K mg base CX0 k f1 fd1 ["thing"] (spCheckWorld K)) (b1 : Binds K fd1 ["thing"] []) (k1 : PySem.W.keepIn K (.ref f1) = true) (m1 : mg "check_world" = some (.ref f1))
    (G2 : FnOk P w K mg base CX0 k f2 fd2 ["thing"] (spIsPair K)) (b2 : Binds K fd2 ["thing"] []) (k2 : PySem.W.keepIn K (.ref f2) = true) (m2 : mg "is_pair" = some (.ref f2))
    (G3 : FnOk P w K mg base CX0 k f3 fd3 ["names", "wanted"] (spHasAll K)) (b3 : Binds K fd3 ["names", "wanted"] []) (k3 : PySem.W.keepIn K (.ref f3) = true) (m3 : mg "has_all" = some (.ref f3))
    (G4 : FnOk P w K mg base CX0 k f4 fd4 ["thing", "kinds"] (spCheckKind K)) (b4 : Binds K fd4 ["thing", "kinds"] []) (k4 : PySem.W.keepIn K (.ref f4) = true) (m4 : mg "check_kind" = some (.ref f4))
    (mK : mg "KINDS" = some (.ref aK)) (hK : ∀ H : Hp, SqT K H aK ([anyS, plainS, singleS].map V.str)) :
    FnOk P w K mg base CX0 (k + 1) f fd ["pairs", "names", "kind"] (spAsked K) := by
  refine F.ok scAsked (fun vs H Q E h => ?_) (fun cdv A outer s H vs Q E hr h => ?_)
  · obtain ⟨l, x, pool, z, L, rfl, _⟩ := h
    rfl
  obtain ⟨l, x, pool, z, L, rfl, ⟨xs, hS, hx⟩, hp, hw, hL, hz, q⟩ := h
  have xl : xs.length = L.length := by rw [dpAll_len hx, List.length_map]
  rcases hS with hS | hS
  · refine ⟨_, pss_cons (ps_expr (pe_call G1 hr (by rfl) m1 k1 b1 .nil pass0 (pa_cons (pv 1) pa_nil)))
      (pss_cons (ps_for PassesOwn.never rfl (pi_list (pv 0)) (pg_name (i := 3) scAsked.nd rfl (.inl rfl))
        (pss_one (ps_if (PW.pt (pw_or (pt_not (pt_val (pe_call G2 hr (by rfl) m2 k2 b2 .nil pass0 (pa_cons (pv 3) pa_nil)))) (pw_or1 (pt_not (pt_val (pe_call G3 hr (by rfl) m3 k3 b3 .nil pass0 (pa_cons (pv 1) (pa_cons (pe_ix ix_tup (pv 3) pe_int (fun _ _ => rfl)) pa_nil)))))))) pss_never pss_nil)))
      (pss_one (ps_expr (pe_call G4 hr (by rfl) m4 k4 b4 .nil pass0 (pa_cons (pv 2) (pa_cons (pe_glob (v := .ref aK) (by rfl) mK rfl) pa_nil)))))), ?_⟩
    refine ⟨x, rfl, x, pool, rfl, hp, hw, fun H1 s1 => ?_⟩
    refine ⟨.ref l, rfl, l, rfl, ⟨_, s1.seq hS⟩, for_list (xs := xs) (fun i σ H2 => (∃ y3, σ = [some (.ref l), some x, some (.str z), y3]) ∧ Same H H2) ⟨⟨none, rfl⟩, s1⟩ (fun i σ H2 _ hI => hI.2.seq hS) (fun i u σ H2 hu hI => ?_) (fun σ H2 hI => ?_)⟩
    · obtain ⟨⟨y3, rfl⟩, sm⟩ := hI
      obtain ⟨dd, hdd, hud⟩ := dpAll_at' hx hu
      obtain ⟨p, hp', rfl⟩ := map_at hdd
      have ip := hL p (List.mem_of_getElem? hp')
      refine ⟨u, rfl, u, p, rfl, (Stay.same sm).pd hud, ip.w1, ip.w2, ip.le, fun H3 s3 => ⟨true, rfl, iteF ?_⟩⟩
      have sm3 := sm.trans s3
      obtain ⟨a, y, v, rfl, hP, hy, hv⟩ := of_pd ((Stay.same sm3).pd hud)
      have w2l := ip.w2.few
      refine ⟨x, rfl, .ref a, rfl, a, [y, v], 1, v, rfl, rfl, hP, atI_nat (j := 1) rfl, x, v, pool, p.2, rfl, (Stay.same sm3).wd hp, hv, by omega, fun H4 s4 => ⟨_, rfl, ?_⟩⟩
      rw [ip.up]
      exact iteF ⟨⟨_, rfl⟩, sm3.trans s4⟩
    · obtain ⟨⟨y3, rfl⟩, sm⟩ := hI
      exact ⟨.str z, rfl, z, aK, _, rfl, hK _, hz, q H2 sm⟩
  · refine ⟨_, pss_cons (ps_expr (pe_call G1 hr (by rfl) m1 k1 b1 .nil pass0 (pa_cons (pv 1) pa_nil)))
      (pss_cons (ps_for PassesOwn.never rfl (pi_tup (pv 0)) (pg_name (i := 3) scAsked.nd rfl (.inl rfl))
        (pss_one (ps_if (PW.pt (pw_or (pt_not (pt_val (pe_call G2 hr (by rfl) m2 k2 b2 .nil pass0 (pa_cons (pv 3) pa_nil)))) (pw_or1 (pt_not (pt_val (pe_call G3 hr (by rfl) m3 k3 b3 .nil pass0 (pa_cons (pv 1) (pa_cons (pe_ix ix_tup (pv 3) pe_int (fun _ _ => rfl)) pa_nil)))))))) pss_never pss_nil)))
      (pss_one (ps_expr (pe_call G4 hr (by rfl) m4 k4 b4 .nil pass0 (pa_cons (pv 2) (pa_cons (pe_glob (v := .ref aK) (by rfl) mK rfl) pa_nil)))))), ?_⟩
    refine ⟨x, rfl, x, pool, rfl, hp, hw, fun H1 s1 => ?_⟩
    refine ⟨.ref l, rfl, l, rfl, ⟨_, same_tup s1 hS⟩, for_tup (xs := xs) (fun i σ H2 => (∃ y3, σ = [some (.ref l), some x, some (.str z), y3]) ∧ Same H H2) ⟨⟨none, rfl⟩, s1⟩ (fun i σ H2 _ hI => same_tup hI.2 hS) (fun i u σ H2 hu hI => ?_) (fun σ H2 hI => ?_)⟩
    · obtain ⟨⟨y3, rfl⟩, sm⟩ := hI
      obtain ⟨dd, hdd, hud⟩ := dpAll_at' hx hu
      obtain ⟨p, hp', rfl⟩ := map_at hdd
      have ip := hL p (List.mem_of_getElem? hp')
      refine ⟨u, rfl, u, p, rfl, (Stay.same sm).pd hud, ip.w1, ip.w2, ip.le, fun H3 s3 => ⟨true, rfl, iteF ?_⟩⟩
      have sm3 := sm.trans s3
      obtain ⟨a, y, v, rfl, hP, hy, hv⟩ := of_pd ((Stay.same sm3).pd hud)
      have w2l := ip.w2.few
      refine ⟨x, rfl, .ref a, rfl, a, [y, v], 1, v, rfl, rfl, hP, atI_nat (j := 1) rfl, x, v, pool, p.2, rfl, (Stay.same sm3).wd hp, hv, by omega, fun H4 s4 => ⟨_, rfl, ?_⟩⟩
      rw [ip.up]
      exact iteF ⟨⟨_, rfl⟩, sm3.trans s4⟩
    · obtain ⟨⟨y3, rfl⟩, sm⟩ := hI
      exact ⟨.str z, rfl, z, aK, _, rfl, hK _, hz, q H2 sm⟩
/-! ### barred -/
def spBarred (K : PySem.W.Frag) : Sp := fun vs H Q _ => ∃ (l : Addr) (x : V) (pool : W) (z : Str) (L : List Pr), vs = [.ref l, x, .str z] ∧ PS2 K H l L ∧ Dp K H x (wd pool) ∧ IsW pool ∧ (∀ p ∈ L, IsP pool p) ∧ z ∈ [anyS, plainS, singleS] ∧ L.length < 64 ∧
  ∀ H' y R, Same H H' → R.Nodup → Rising (R.map pd) → (∀ p, p ∈ R ↔ p ∈ L) → Told K H' y (whyO R z) → Q y H'
theorem ok_barred {f1 f2 : Addr} {fd1 fd2 : FuncData} (F : FunD K "barred" "barred" (defArgs sBarred) (defBody sBarred) (defScope sBarred) [.str anyS] [] f fd) (T : Bl mg) (G1 : FnOk P w K mg base CX0 k f1 fd1 ["pairs", "names", "kind"] (spAsked K)) (b1 : Binds K fd1 ["pairs", "names", "kind"] []) (k1 : PySem.W.keepIn K (.ref f1) = true) (m1 : mg "_check_asked" = some (.ref f1))
    (G2 : FnOk P w K mg base CX0 k f2 fd2 ["chosen", "kind"] (spWhyNot K)) (b2 : Binds K fd2 ["chosen", "kind"] []) (k2 : PySem.W.keepIn K (.ref f2) = true) (m2 : mg "_why_not" = some (.ref f2)) :
    FnOk P w K mg base CX0 (k + 1) f fd ["pairs", "names", "kind"] (spBarred K) := by
  refine F.ok scBarred (fun vs H Q E h => ?_) (fun cdv A outer s H vs Q E hr h => ?_)
  · obtain ⟨l, x, pool, z, L, rfl, _⟩ := h
    rfl
  obtain ⟨l, x, pool, z, L, rfl, hS, hp, hw, hL, hz, few, q⟩ := h
  refine ⟨_, PSs.nox (pss_cons (ps_expr (pe_call G1 hr (by rfl) m1 k1 b1 .nil pass0 (pa_cons (pv 0) (pa_cons (pv 1) (pa_cons (pv 2) pa_nil)))))
    (pss_one (ps_ret (pe_call G2 hr (by rfl) m2 k2 b2 .nil pass0 (pa_cons (pe_callB (cr_sortT rfl hr.units) (by rfl) T.sorted (by decide +kernel) (pa_cons (pe_callTy (cr_setT rfl hr.units) (by rfl) T.set (by decide +kernel) (pa_cons (pv 0) pa_nil)) pa_nil)) (pa_cons (pv 2) pa_nil)))))), ?_⟩
  refine ⟨.ref l, rfl, x, rfl, .str z, rfl, l, x, pool, z, L, rfl, hS, hp, hw, hL, hz, fun H1 s1 => ?_⟩
  obtain ⟨xs, hS1, hx1⟩ := hS.same s1
  refine ⟨.ref l, rfl, l, xs, L.map pd, rfl, hS1, hx1, (fun d hd => by obtain ⟨p, _, rfl⟩ := List.mem_map.mp hd; exact good_pd p), by rw [List.length_map]; exact few, fun a M ha hM hall => ?_⟩
  have s2 := s1.trans (same_new ha (TSetO w a M))
  have sa := same_new ha (TSetO w a M)
  have isP : ∀ e ∈ M, ∃ p ∈ L, e.2 = pd p := fun e he => by
    obtain ⟨p, hp, ep⟩ := List.mem_map.mp (hM e he).1
    exact ⟨p, hp, ep.symm⟩
  refine ⟨a, M, rfl, upd_same, fun e he => ?_, ?_, fun ys ds p perm nd lt ris hys hp' => ?_⟩
  · obtain ⟨p, _, ep⟩ := isP e he
    refine ⟨by rw [ep]; exact good_pd p, (Stay.same sa).dp _ _ (by rw [ep]; exact ok_pd p) (hM e he).2⟩
  · refine fun d hd d' hd' => ?_
    obtain ⟨e, he, rfl⟩ := List.mem_map.mp hd
    obtain ⟨e', he', rfl⟩ := List.mem_map.mp hd'
    obtain ⟨p, _, ep⟩ := isP e he
    obtain ⟨p', _, ep'⟩ := isP e' he'
    rw [ep, ep']
    exact alike_pd p p'
  · obtain ⟨R, rfl⟩ := all_pd (ds := ds) fun d hd => by
      obtain ⟨e, he, rfl⟩ := List.mem_map.mp (perm.mem_iff.mp hd)
      obtain ⟨p, _, ep⟩ := isP e he
      exact ⟨p, ep⟩
    have memR : ∀ p, p ∈ R ↔ p ∈ L := fun p => by
      rw [← pd_mem, perm.mem_iff]
      constructor
      · intro hm
        obtain ⟨e, he, ee⟩ := List.mem_map.mp hm
        obtain ⟨p', hp', ep⟩ := isP e he
        rw [← pd_inj (ep.symm.trans ee)]
        exact hp'
      · intro hm
        exact hall _ (pd_mem.mpr hm)
    have nR : R.Nodup := nodup_of_map nd
    have sp := same_new hp' (.lst ys)
    have s3 := s2.trans sp
    rw [List.length_map] at lt
    refine ⟨.str z, rfl, p, z, R, rfl, ⟨ys, SqL.of upd_same, (Stay.same sp).dpAll _ _ (okDs_pd R) hys⟩, nR, by omega, fun p hp => ?_, fun H' y s4 t => q H' y R (s3.trans s4) nR ris memR t⟩
    have := hL p ((memR p).mp hp)
    exact ⟨this.w1, this.w2⟩
end
end Rw
namespace Rw
open PySem PySem.Spec PyProof.Rows L2
/-! ### the law's own defs: numbers -/
abbrev sLawAt : Stmt := topS 27
abbrev sLawMixed : Stmt := topS 28
abbrev sLawPurse : Stmt := topS 29
abbrev sLawDraw : Stmt := topS 30
theorem scLawAt : FnScope ["script", "k"] ["script", "k"] (defScope sLawAt) := ⟨rfl, rfl, rfl, by decide +kernel, rfl, by decide +kernel, by decide +kernel⟩
theorem scLawMixed : FnScope ["cell", "k", "number"] ["cell", "k"] (defScope sLawMixed) := ⟨rfl, rfl, rfl, by decide +kernel, rfl, by decide +kernel, by decide +kernel⟩
theorem scLawPurse : FnScope ["script", "at", "cell"] ["script", "at"] (defScope sLawPurse) := ⟨rfl, rfl, rfl, by decide +kernel, rfl, by decide +kernel, by decide +kernel⟩
theorem scLawDraw : FnScope ["purse", "out_of", "drawn"] ["purse", "out_of"] (defScope sLawDraw) := ⟨rfl, rfl, rfl, by decide +kernel, rfl, by decide +kernel, by decide +kernel⟩
theorem op_powB {X : Cx} : OpR X (binaryOp .Pow) (rI (fun i j => 0 ≤ j ∧ (Builtin.Int.intBits i : Int) * j ≤ 2 ^ 27) fun i j => .int (i ^ j.toNat)) := opI fun _ _ _ _ _ _ _ hc q => pow_int hc.1 hc.2 q
theorem b64 {i : Int} (h0 : 0 ≤ i) (h1 : i < 2147483647) : -(2 ^ 64) < i ∧ i < 2 ^ 64 := ⟨by omega, by omega⟩
/-- a purse: three numbers -/
def Pur (H : Hp) (p : Addr) (c : Int) : Prop := ∃ a b e : Int, H p = some (.lst [.int a, .int b, .int e]) ∧ 0 ≤ a ∧ 0 ≤ b ∧ b < 2147483647 ∧ 0 ≤ e ∧ e ≤ c
section
variable {P : Program} {w : World} {K : PySem.W.Frag} {mg : Str → Option Value} {base : Heap} {f : Addr} {fd : FuncData} {k : Nat}
def spLawAt (K : PySem.W.Frag) : Sp := fun vs H Q _ => ∃ (a : Addr) (ns : List Int) (j : Nat), vs = [.ref a, .int j] ∧ SqL K H a (ns.map V.int) ∧ ns.length ≤ 63 ∧ ∀ r, Q (.int r) H
theorem ok_lawAt (F : Fun K "_law_at" "_law_at" sLawAt f fd) (T : Bl mg) : FnOk P w K mg base CX0 (k + 1) f fd ["script", "k"] (spLawAt K) := by
  refine F.ok scLawAt (fun vs H Q E h => ?_) (fun cdv A outer s H vs Q E hr h => ?_)
  · obtain ⟨a, ns, j, rfl, _⟩ := h
    rfl
  obtain ⟨a, ns, j, rfl, hS, hl, q⟩ := h
  refine ⟨_, pss_cons (ps_if (pt_cmpR op_lt (pv 1) (pe_callB call_len_seq (by rfl) T.len PySem.boot_len (pa_cons (pv 0) pa_nil)) (nomark _)) (pss_one (ps_ret (pe_ix ix_list (pv 0) (pv 1) (fun _ _ => rfl)))) pss_nil) (pss_one (ps_ret pe_int)), ?_⟩
  refine ⟨.int j, rfl, .ref a, rfl, a, _, rfl, .inl hS, j, _, rfl, rfl, _, rfl, ite2 (fun e => ?_) (fun _ => ?_)⟩
  · have hlt : j < (ns.map V.int).length := by
      have := of_decide_eq_true e
      omega
    have hlt' : j < ns.length := by rwa [List.length_map] at hlt
    refine ⟨.ref a, rfl, .int j, rfl, a, _, j, .int ns[j], rfl, rfl, hS, atI_nat (j := j) ?_, q _⟩
    rw [List.getElem?_map, List.getElem?_eq_getElem hlt']
    rfl
  · exact q _
def spLawMixed : Sp := fun vs H Q _ => ∃ c k : Int, vs = [.int c, .int k] ∧ 0 ≤ c ∧ c < 2147483647 ∧ 0 ≤ k ∧ k ≤ 2000000 ∧ ∀ r, 0 ≤ r → Q (.int r) H
theorem ok_lawMixed (F : Fun K "_law_mixed" "_law_mixed" sLawMixed f fd) (T : Bl mg) : FnOk P w K mg base CX0 (k + 1) f fd ["cell", "k"] spLawMixed := by
  refine F.ok scLawMixed (fun vs H Q E h => ?_) (fun cdv A outer s H vs Q E hr h => ?_)
  · obtain ⟨c, k, rfl, _⟩ := h
    rfl
  obtain ⟨c, k, rfl, c0, c1, k0, k1, q⟩ := h
  refine ⟨_, pss_cons (ps_set (i := 2) scLawMixed.nd rfl (.inl rfl) (pe_op op_mod (pe_callTy call_int1 (by rfl) T.int (by decide +kernel) (pa_cons (pe_op op_add (pe_op op_add (pe_op op_add (pe_op op_mul (pv 0) pe_int) (pe_op op_mul (pe_op op_mul pe_int (pv 1)) (pv 1))) (pv 1)) pe_int) pa_nil)) pe_int))
    (pss_cons (ps_set (i := 2) scLawMixed.nd rfl (.inl rfl) (pe_op op_mod (pe_callTy call_int1 (by rfl) T.int (by decide +kernel) (pa_cons (pe_op op_add (pe_op op_mul (pv 2) (pv 2)) pe_int) pa_nil)) pe_int))
    (pss_one (ps_ret (pe_op op_mod (pe_callTy call_int1 (by rfl) T.int (by decide +kernel) (pa_cons (pe_op op_mul (pv 2) pe_int) pa_nil)) pe_int)))), ?_⟩
  refine ⟨.int c, rfl, c, _, rfl, rfl, .inl ⟨by omega, by omega⟩, .int k, rfl, _, k, rfl, rfl, .inl ⟨by decide, by decide⟩, .int k, rfl, _, k, rfl, rfl, .inl ⟨by omega, by omega⟩, ?_⟩
  refine ⟨_, _, rfl, rfl, .int k, rfl, _, k, rfl, rfl, _, _, rfl, rfl, .inl ⟨_, rfl, _, _, rfl, rfl, by show (0 : Int) < 2147483647; decide, ?_⟩⟩
  refine ⟨_, rfl, _, rfl, _, _, rfl, rfl, .inl (b64 (Int.emod_nonneg _ (by decide)) (Int.emod_lt_of_pos _ (by decide))), _, _, rfl, rfl, .inl ⟨_, rfl, _, _, rfl, rfl, by show (0 : Int) < 2147483629; decide, ?_⟩⟩
  refine ⟨_, rfl, _, _, rfl, rfl, .inl (b64 (Int.emod_nonneg _ (by decide)) (Int.lt_trans (Int.emod_lt_of_pos _ (by decide)) (by decide))), .inl ⟨_, rfl, _, _, rfl, rfl, by show (0 : Int) < 2147483587; decide, q _ (Int.emod_nonneg _ (by decide))⟩⟩
def spLawPurse (K : PySem.W.Frag) : Sp := fun vs H Q _ => ∃ (a : Addr) (ns : List Int) (j : Nat), vs = [.ref a, .int j] ∧ SqL K H a (ns.map V.int) ∧ ns.length ≤ 63 ∧ j ≤ 100 ∧ ∀ H' p, Same H H' → H p = none → Pur H' p 100000 → Q (.ref p) H'
theorem ok_lawPurse {f1 : Addr} {fd1 : FuncData} (F : Fun K "_law_purse" "_law_purse" sLawPurse f fd) (T : Bl mg) (G1 : FnOk P w K mg base CX0 k f1 fd1 ["script", "k"] (spLawAt K)) (b1 : Binds K fd1 ["script", "k"] []) (k1 : PySem.W.keepIn K (.ref f1) = true) (m1 : mg "_law_at" = some (.ref f1)) :
    FnOk P w K mg base CX0 (k + 1) f fd ["script", "at"] (spLawPurse K) := by
  refine F.ok scLawPurse (fun vs H Q E h => ?_) (fun cdv A outer s H vs Q E hr h => ?_)
  · obtain ⟨a, ns, j, rfl, _⟩ := h
    rfl
  obtain ⟨a, ns, j, rfl, hS, hl, hj, q⟩ := h
  refine ⟨_, pss_cons (ps_set (i := 2) scLawPurse.nd rfl (.inl rfl) (pe_call G1 hr (by rfl) m1 k1 b1 .nil pass0 (pa_cons (pv 0) (pa_cons (pv 1) pa_nil))))
    (pss_one (ps_ret (pe_lst (pa_cons (pe_op op_mod (pe_callTy call_int1 (by rfl) T.int (by decide +kernel) (pa_cons (pe_callB (call_max2 rfl) (by rfl) T.max (by decide +kernel) (pa_cons (pe_op op_sub (pv 2) (pe_op op_pow pe_int pe_int)) (pa_cons pe_int pa_nil))) pa_nil)) (pe_op op_powB (pe_op op_pow pe_int pe_int) pe_int))
      (pa_cons (pe_op op_mod (pe_callTy call_int1 (by rfl) T.int (by decide +kernel) (pa_cons (pv 2) pa_nil)) pe_int) (pa_cons (pe_op op_mul pe_int (pv 1)) pa_nil)))))), ?_⟩
  refine ⟨.ref a, rfl, .int j, rfl, a, ns, j, rfl, hS, hl, fun c => ?_⟩
  refine ⟨.int c, rfl, _, _, rfl, rfl, ⟨by decide, by decide, by decide⟩, _, _, rfl, rfl, _, _, rfl, .inl ⟨_, rfl, _, _, rfl, rfl, ⟨by decide, by decide, by decide⟩, _, _, rfl, rfl, ⟨by decide, by decide +kernel⟩, _, _, rfl, rfl, by show (0 : Int) < (10 ^ Int.toNat 60) ^ Int.toNat 10; decide +kernel, ?_⟩⟩
  refine ⟨.int c, rfl, .inl ⟨_, rfl, _, _, rfl, rfl, by show (0 : Int) < 2147483647; decide, .int j, rfl, _, _, rfl, rfl, .inl ⟨by decide, by decide⟩, by show 3 ≤ sizeLine; decide, fun p hp => ?_⟩⟩
  refine q _ p (same_new hp _) hp ⟨_, _, _, upd_same, Int.emod_nonneg _ (by decide +kernel), Int.emod_nonneg _ (by decide), Int.emod_lt_of_pos _ (by decide), ?_, ?_⟩
  · show (0 : Int) ≤ 1000 * (j : Int)
    omega
  · show 1000 * (j : Int) ≤ 100000
    omega
def spLawDraw : Sp := fun vs H Q _ => ∃ (p : Addr) (n c : Int), vs = [.ref p, .int n] ∧ Pur H p c ∧ c ≤ 1000000 ∧ 1 ≤ n ∧ n ≤ 1000 ∧ ∀ r us, 0 ≤ r → r < n → Pur (upd H p (.lst us)) p (c + 1) → Q (.int r) (upd H p (.lst us))
theorem ok_lawDraw {f1 : Addr} {fd1 : FuncData} (F : Fun K "_law_draw" "_law_draw" sLawDraw f fd) (T : Bl mg) (G1 : FnOk P w K mg base CX0 k f1 fd1 ["cell", "k"] spLawMixed) (b1 : Binds K fd1 ["cell", "k"] []) (k1 : PySem.W.keepIn K (.ref f1) = true) (m1 : mg "_law_mixed" = some (.ref f1)) :
    FnOk P w K mg base CX0 (k + 1) f fd ["purse", "out_of"] spLawDraw := by
  refine F.ok scLawDraw (fun vs H Q E h => ?_) (fun cdv A outer s H vs Q E hr h => ?_)
  · obtain ⟨p, n, c, rfl, _⟩ := h
    rfl
  obtain ⟨p, n, c, rfl, ⟨a, b, e, hp, a0, b0, b1', e0, e1⟩, c1, n0, n1, q⟩ := h
  refine ⟨_, pss_cons (ps_if (pt_cmpR op_gt (pe_ix ix_list (pv 0) pe_int (fun _ _ => rfl)) pe_int (nomark _))
      (pss_cons (ps_set (i := 2) scLawDraw.nd rfl (.inl rfl) (pe_op op_mod (pe_callTy call_int1 (by rfl) T.int (by decide +kernel) (pa_cons (pe_ix ix_list (pv 0) pe_int (fun _ _ => rfl)) pa_nil)) (pv 1)))
      (pss_cons (ps_asg (pe_op op_fdiv (pe_ix ix_list (pv 0) pe_int (fun _ _ => rfl)) (pv 1)) (pg_sub (pv 0) pe_int set_list)) (pss_one (ps_ret (pv 2))))) pss_nil)
    (pss_cons (ps_asg (pe_op op_add (pe_ix ix_list (pv 0) pe_int (fun _ _ => rfl)) pe_int) (pg_sub (pv 0) pe_int set_list))
    (pss_one (ps_ret (pe_op op_mod (pe_callTy call_int1 (by rfl) T.int (by decide +kernel) (pa_cons (pe_call G1 hr (by rfl) m1 k1 b1 .nil pass0 (pa_cons (pe_ix ix_list (pv 0) pe_int (fun _ _ => rfl)) (pa_cons (pe_ix ix_list (pv 0) pe_int (fun _ _ => rfl)) pa_nil))) pa_nil)) (pv 1))))), ?_⟩
  have hS : SqL K H p [.int a, .int b, .int e] := SqL.of hp
  refine ⟨.ref p, rfl, p, _, 0, .int a, rfl, rfl, hS, atI_nat (j := 0) rfl, _, _, rfl, rfl, _, rfl, ite2 (fun g => ?_) (fun _ => ?_)⟩
  · refine ⟨.ref p, rfl, p, _, 0, .int a, rfl, rfl, hS, atI_nat (j := 0) rfl, .inl ⟨_, rfl, .int n, rfl, _, _, rfl, rfl, by show 0 < n; omega, ?_⟩⟩
    refine ⟨.ref p, rfl, p, _, 0, .int a, rfl, rfl, hS, atI_nat (j := 0) rfl, .int n, rfl, _, _, rfl, rfl, ⟨by omega, by omega⟩, .ref p, rfl, p, _, 0, 0, rfl, rfl, hp, rfl, ?_⟩
    refine ⟨.int (a % n), rfl, q _ _ (Int.emod_nonneg _ (by omega)) (Int.emod_lt_of_pos _ (by omega)) ⟨a / n, b, e, upd_same, Int.ediv_nonneg a0 (by omega), b0, b1', e0, by omega⟩⟩
  · refine ⟨.ref p, rfl, p, _, 2, .int e, rfl, rfl, hS, atI_nat (j := 2) rfl, _, _, rfl, rfl, .ref p, rfl, p, _, 2, 2, rfl, rfl, hp, rfl, ?_⟩
    have hS2 : SqL K (upd H p (.lst [.int a, .int b, .int (e + 1)])) p [.int a, .int b, .int (e + 1)] := SqL.of upd_same
    refine ⟨.ref p, rfl, p, _, 1, .int b, rfl, rfl, hS2, atI_nat (j := 1) rfl, .ref p, rfl, p, _, 2, .int (e + 1), rfl, rfl, hS2, atI_nat (j := 2) rfl, b, e + 1, rfl, b0, b1', by omega, by omega, fun r r0 => ?_⟩
    refine .inl ⟨r, rfl, .int n, rfl, _, _, rfl, rfl, by show 0 < n; omega, ?_⟩
    exact q _ _ (Int.emod_nonneg _ (by omega)) (Int.emod_lt_of_pos _ (by omega)) ⟨a, b, e + 1, upd_same, a0, b0, b1', by omega, by omega⟩
end
end Rw
namespace Rw
open PySem PySem.Spec PyProof.Rows L2
/-! ### all parts of a world -/
def subsR : W → List W
  | [] => [[]]
  | x :: r => subsR r ++ (subsR r).map fun t => t ++ [x]
def subs (ns : W) : List W := subsR ns.reverse
theorem mem_subsR : ∀ {r t : W}, t ∈ subsR r ↔ t.Sublist r.reverse
  | [], t => by
    rw [subsR, List.mem_singleton, List.reverse_nil, List.sublist_nil]
  | x :: r, t => by
    rw [subsR, List.mem_append, List.mem_map, List.reverse_cons, List.sublist_append_iff]
    constructor
    · rintro (h | ⟨s, hs, rfl⟩)
      · exact ⟨t, [], by simp, mem_subsR.mp h, by simp⟩
      · exact ⟨s, [x], rfl, mem_subsR.mp hs, List.Sublist.refl _⟩
    · rintro ⟨a, b, rfl, ha, hb⟩
      cases hb with
      | cons _ h =>
        left
        rw [List.sublist_nil.mp h, List.append_nil]
        exact mem_subsR.mpr ha
      | cons_cons _ h =>
        right
        exact ⟨a, mem_subsR.mpr ha, by rw [List.sublist_nil.mp h]⟩
theorem mem_subs {ns t : W} : t ∈ subs ns ↔ t.Sublist ns := by
  unfold subs
  rw [mem_subsR, List.reverse_reverse]
theorem subsR_nodup : ∀ {r : W}, r.Nodup → (subsR r).Nodup
  | [], _ => by simp [subsR]
  | x :: r, h => by
    obtain ⟨h1, h2⟩ := List.nodup_cons.mp h
    have ih := subsR_nodup h2
    rw [subsR]
    refine List.nodup_append.mpr ⟨ih, ?_, fun a ha b hb e => ?_⟩
    · exact List.Pairwise.map _ (fun a b (hab : a ≠ b) (e : a ++ [x] = b ++ [x]) => hab (List.append_cancel_right e)) ih
    · subst e
      obtain ⟨s, hs, rfl⟩ := List.mem_map.mp hb
      have z := (mem_subsR.mp ha).subset (List.mem_append_right s (List.mem_singleton.mpr rfl))
      exact h1 (List.mem_reverse.mp z)
theorem subs_nodup {ns : W} (h : ns.Nodup) : (subs ns).Nodup := subsR_nodup (List.pairwise_reverse.mpr (h.imp fun hne e => hne e.symm))
theorem subsR_len : ∀ r : W, (subsR r).length = 2 ^ r.length
  | [] => rfl
  | x :: r => by
    rw [subsR, List.length_append, List.length_map, subsR_len r, List.length_cons, Nat.pow_succ]
    omega
theorem subs_len (ns : W) : (subs ns).length = 2 ^ ns.length := by
  unfold subs
  rw [subsR_len, List.length_reverse]
theorem subs_snoc (ns : W) (x : Str) : subs (ns ++ [x]) = subs ns ++ (subs ns).map fun t => t ++ [x] := by
  unfold subs
  rw [List.reverse_append, List.reverse_singleton]
  rfl
theorem sub_mem {a b : W} (h : sub a b = true) : ∀ x ∈ a, x ∈ b := fun x hx => by
  unfold sub at h
  exact of_decide_eq_true (List.all_eq_true.mp h x hx)
theorem sub_of {a b : W} (h : ∀ x ∈ a, x ∈ b) : sub a b = true := by
  unfold sub
  exact List.all_eq_true.mpr fun x hx => decide_eq_true (h x hx)
/-- the parts of a world are the worlds within it -/
theorem parts_iff {ns t : W} (h : IsW ns) : t ∈ subs ns ↔ IsW t ∧ sub t ns = true := by
  rw [mem_subs]
  constructor
  · intro s
    exact ⟨⟨fun x hx => h.names x (s.subset hx), h.up.sublist s, Nat.le_trans s.length_le h.few⟩, sub_of fun x hx => s.subset hx⟩
  · rintro ⟨hw, hs⟩
    have e : ns.filter (fun x => decide (x ∈ t)) = t := upX_one (h.up.sublist List.filter_sublist) hw.up fun a => by
      rw [List.mem_filter, decide_eq_true_iff]
      exact ⟨fun z => z.2, fun z => ⟨sub_mem hs a z, z⟩⟩
    rw [← e]
    exact List.filter_sublist
/-- the list of worlds at l -/
def WL (K : PySem.W.Frag) (H : Hp) (l : Addr) (S : List W) : Prop := ∃ ys, H l = some (.lst ys) ∧ DpAll K H ys (S.map wd)
theorem WL.same {K : PySem.W.Frag} {H H' : Hp} {l : Addr} {R : List W} (h : WL K H l R) (e : Same H H') : WL K H' l R := by
  obtain ⟨xs, h1, h2⟩ := h
  exact ⟨xs, e _ _ h1, (Stay.same e).dpAll _ _ (okDs_wd R) h2⟩
theorem all_wd : ∀ {ds : List PyData}, (∀ d ∈ ds, ∃ p, d = wd p) → ∃ R : List W, ds = R.map wd
  | [], _ => ⟨[], rfl⟩
  | d :: ds, h => by
    obtain ⟨p, rfl⟩ := h d List.mem_cons_self
    obtain ⟨R, rfl⟩ := all_wd fun e he => h e (List.mem_cons_of_mem _ he)
    exact ⟨p :: R, rfl⟩
theorem perm_of_map {α β : Type} {f : α → β} (inj : ∀ a b, f a = f b → a = b) : ∀ {l m : List α}, (l.map f).Perm (m.map f) → l.Perm m := by
  intro l m h
  classical
  refine List.perm_iff_count.mpr fun a => ?_
  have z := List.perm_iff_count.mp h (f a)
  have c : ∀ k : List α, List.count (f a) (k.map f) = List.count a k := fun k => by
    induction k with
    | nil => rfl
    | cons x k ih =>
      rw [List.map_cons, List.count_cons, List.count_cons, ih]
      by_cases e : x = a
      · subst e
        simp
      · have e' : f x ≠ f a := fun z => e (inj _ _ z)
        simp [e, e']
  rw [c, c] at z
  exact z
abbrev sLawParts : Stmt := topS 31
abbrev sLawIn : Stmt := topS 32
abbrev sLawMeet : Stmt := topS 33
theorem scLawParts : FnScope ["pool", "found", "x", "part"] ["pool"] (defScope sLawParts) := ⟨rfl, rfl, rfl, by decide +kernel, rfl, by decide +kernel, by decide +kernel⟩
theorem scLawIn : FnScope ["one", "other", "x"] ["one", "other"] (defScope sLawIn) := ⟨rfl, rfl, rfl, by decide +kernel, rfl, by decide +kernel, by decide +kernel⟩
theorem scLawMeet : FnScope ["one", "other", "x"] ["one", "other"] (defScope sLawMeet) := ⟨rfl, rfl, rfl, by decide +kernel, rfl, by decide +kernel, by decide +kernel⟩
section
variable {P : Program} {w : World} {K : PySem.W.Frag} {mg : Str → Option Value} {base : Heap} {f : Addr} {fd : FuncData} {k : Nat}
/-! ### _law_parts -/
def spLawParts (K : PySem.W.Frag) : Sp := fun vs H Q _ => ∃ (x : V) (ns : W), vs = [x] ∧ Dp K H x (wd ns) ∧ ns.length ≤ 4 ∧ ∀ H' p S, Same H H' → H p = none → WL K H' p S → S.Perm (subs ns) → Rising (S.map wd) → Q (.ref p) H'
theorem ok_lawParts (F : Fun K "_law_parts" "_law_parts" sLawParts f fd) (T : Bl mg) : FnOk P w K mg base CX0 (k + 1) f fd ["pool"] (spLawParts K) := by
  refine F.ok scLawParts (fun vs H Q E h => ?_) (fun cdv A outer s H vs Q E hr h => ?_)
  · obtain ⟨x, ns, rfl, _⟩ := h
    rfl
  obtain ⟨x, ns, rfl, hx, few, q⟩ := h
  obtain ⟨a, rfl, hS⟩ := of_wd hx
  refine ⟨_, pss_cons (ps_set (i := 1) scLawParts.nd rfl (.inl rfl) (pe_lst (pa_cons (pe_tup pa_nil) pa_nil)))
    (pss_cons (ps_for PassesOwn.never rfl (pi_tup (pv 0)) (pg_name (i := 2) scLawParts.nd rfl (.inr rfl))
      (pss_one (ps_set (i := 1) scLawParts.nd rfl (.inl rfl) (pe_op op_cat (pv 1) (pe_lc (own := [("part", 3)]) (g := gName 3) (te := tOp (rCatA K) (tVar 3) (tTup (tCons (tVar 2) tNil))) (by rfl) scLawParts.nd (pi_list (pv 1)) (blkOk_by (N := ["pool", "found", "x", "part"]) (sc := defScope sLawParts) (by decide +kernel))
        (fun _ _ _ _ _ => pg_name (i := 3) scLawParts.nd rfl (Or.inl rfl)) (fun _ _ _ _ _ => pts_nil) (fun _ _ _ _ _ => pe_op op_catA (pv 3) (pe_tup (pa_cons (pv 2) pa_nil))))))))
    (pss_one (ps_ret (pe_callB (cr_sortL hr.units) (by rfl) T.sorted (by decide +kernel) (pa_cons (pv 1) pa_nil))))), ?_⟩
  refine ⟨by show 0 ≤ sizeLine; decide, fun t0 ht0 => ⟨by show 1 ≤ sizeLine; decide, fun l0 hl0 => ?_⟩⟩
  have s0 : Same H (upd (upd H t0 (.tup [])) l0 (.lst [.ref t0])) := (same_new ht0 _).trans (same_new hl0 _)
  refine ⟨.ref a, rfl, a, rfl, ⟨_, same_tup s0 hS⟩, for_tup (xs := ns.map V.str) (fun i σ H1 => ∃ l y2 y3, σ = [some (.ref a), some (.ref l), y2, y3] ∧ Same H H1 ∧ ∃ ys, H1 l = some (.lst ys) ∧ DpAll K H1 ys ((subs (ns.take i)).map wd))
    ⟨l0, none, none, rfl, s0, _, upd_same, ?_⟩ (fun i σ H1 _ hI => by obtain ⟨_, _, _, _, sm, _⟩ := hI; exact same_tup sm hS) (fun i x σ H1 hxi hI => ?_) (fun σ H1 hI => ?_)⟩
  · refine .cons (.tup (SqT.of (xs := []) ?_) .nil) .nil
    exact (same_new hl0 _) _ _ upd_same
  · obtain ⟨l, y2, y3, rfl, sm, ys, hl, hys⟩ := hI
    obtain ⟨z, hz, rfl⟩ := map_at hxi
    have il : i < ns.length := (List.getElem?_eq_some_iff.mp hz).1
    have yl : ys.length = (subs (ns.take i)).length := by rw [dpAll_len hys, List.length_map]
    have yl' : ys.length ≤ 16 := by
      rw [yl, subs_len, List.length_take]
      exact Nat.le_trans (Nat.pow_le_pow_right (by decide) (show min i ns.length ≤ 4 by omega)) (by decide)
    refine ⟨.ref l, rfl, .ref l, rfl, l, rfl, ⟨_, SqL.of hl⟩, fun D hD => ?_⟩
    refine lc_list (xs := ys) (fun j H2 => Same H1 H2 ∧ ∃ zs, H2 D = some (.lst zs) ∧ DpAll K H2 zs ((((subs (ns.take i)).take j).map fun t => t ++ [z]).map wd)) ⟨same_new hD _, [], upd_same, by rw [List.take_zero]; exact .nil⟩ (fun j H2 _ hI => SqL.of (hI.1 _ _ hl)) (fun j u H2 hu hI => ?_) (fun H2 hI => ?_)
    · obtain ⟨sm2, zs, hdz, hzs⟩ := hI
      obtain ⟨du, hdu, hud⟩ := dpAll_at' hys hu
      obtain ⟨t, ht, rfl⟩ := map_at hdu
      obtain ⟨c, rfl, hc⟩ := of_wd ((Stay.same sm2).wd hud)
      have jl : j < (subs (ns.take i)).length := (List.getElem?_eq_some_iff.mp ht).1
      have fin : ∀ v H4, Same H2 H4 → SqT K H4 v ((t ++ [z]).map V.str) → ∃ acc, H4 D = some (.lst acc) ∧ acc.length < sizeLine ∧ (Same H1 (upd H4 D (.lst (acc ++ [.ref v]))) ∧ ∃ zs, (upd H4 D (.lst (acc ++ [.ref v]))) D = some (.lst zs) ∧ DpAll K (upd H4 D (.lst (acc ++ [.ref v]))) zs ((((subs (ns.take i)).take (j + 1)).map fun t => t ++ [z]).map wd)) := by
        intro v H4 s4 hv
        have hd4 := s4 _ _ hdz
        have st : Stay H4 (upd H4 D (.lst (zs ++ [.ref v]))) := .put (by rw [hd4]; exact True.intro) _
        refine ⟨zs, hd4, small_line' ?_, same_put (sm2.trans s4) hD, _, upd_same, ?_⟩
        · rw [dpAll_len hzs, List.length_map, List.length_map, List.length_take]
          omega
        · rw [take_snoc ht, List.map_append, List.map_append]
          exact dpAll_app (((Stay.same s4).trans st).dpAll _ _ (okDs_wd _) hzs) (.cons (st.wd (to_wd hv)) .nil)
      refine ⟨rfl, .ref c, rfl, .str z, rfl, by show 1 ≤ sizeLine; decide, fun e he => ?_⟩
      have se := same_new he (.tup [.str z])
      refine ⟨c, e, t.map V.str, [.str z], rfl, rfl, same_tup se hc, SqT.of upd_same, ?_, fun e0 => ?_, fun _ e1 => (nomatch e1), fun _ _ p hp => ?_⟩
      · have tl : t.length ≤ 4 := Nat.le_trans (mem_subs.mp (List.mem_of_getElem? ht)).length_le (by rw [List.length_take]; omega)
        rw [List.length_map]
        exact small_line (by show t.length + 1 ≤ 10000; omega)
      · have t0 : t = [] := List.map_eq_nil_iff.mp e0
        subst t0
        exact fin e _ se (SqT.of upd_same)
      · refine fin p _ (se.trans (same_new hp _)) (SqT.of ?_)
        rw [List.map_append]
        exact upd_same
    · obtain ⟨sm2, zs, hdz, hzs⟩ := hI
      rw [yl, List.take_length] at hzs
      have hl2 := sm2 _ _ hl
      have zl : zs.length = (subs (ns.take i)).length := by rw [dpAll_len hzs, List.length_map, List.length_map]
      refine ⟨l, D, ys, zs, rfl, rfl, hl2, hdz, small_line (by omega), fun p hp => ?_⟩
      have sp := same_new hp (.lst (ys ++ zs))
      refine ⟨p, _, _, rfl, sm.trans (sm2.trans sp), _, upd_same, ?_⟩
      rw [take_snoc hz, subs_snoc, List.map_append]
      exact dpAll_app ((Stay.same (sm2.trans sp)).dpAll _ _ (okDs_wd _) hys) ((Stay.same sp).dpAll _ _ (okDs_wd _) hzs)
  · obtain ⟨l, y2, y3, rfl, sm, ys, hl, hys⟩ := hI
    rw [List.length_map, List.take_length] at hys
    refine ⟨.ref l, rfl, l, ys, (subs ns).map wd, rfl, SqL.of hl, hys, (fun d hd => by obtain ⟨t, _, rfl⟩ := List.mem_map.mp hd; exact good_wd t), ?_, fun zs es p perm ris hzs hp => ?_⟩
    · intro d hd d' hd'
      obtain ⟨t, _, rfl⟩ := List.mem_map.mp hd
      obtain ⟨t', _, rfl⟩ := List.mem_map.mp hd'
      exact alike_wd t t'
    · obtain ⟨S, rfl⟩ := all_wd (ds := es) fun d hd => by
        obtain ⟨t, _, rfl⟩ := List.mem_map.mp (perm.mem_iff.mp hd)
        exact ⟨t, rfl⟩
      have sp := same_new hp (.lst zs)
      exact q _ p S (sm.trans sp) (none_back sm hp) ⟨zs, upd_same, (Stay.same sp).dpAll _ _ (okDs_wd _) hzs⟩ (perm_of_map (fun _ _ e => wd_inj e) perm) ris
/-! ### _law_in, _law_meet -/
theorem shaped_strs {ns : W} (h : ∀ x ∈ ns, nameB x = true) : SeqAt.shaped (.list (ns.map .str)) = true := by
  unfold SeqAt.shaped
  rw [PyData.canLay0, lay_strs h, PyData.depth, depth_str]
  rfl
def spLawIn (K : PySem.W.Frag) : Sp := fun vs H Q _ => ∃ (x y : V) (ns ms : W), vs = [x, y] ∧ Dp K H x (wd ns) ∧ Dp K H y (wd ms) ∧ IsW ns ∧ ∀ H', Same H H' → Q (.bl (sub ns ms)) H'
theorem ok_lawIn (F : Fun K "_law_in" "_law_in" sLawIn f fd) : FnOk P w K mg base CX0 (k + 1) f fd ["one", "other"] (spLawIn K) := by
  refine F.ok scLawIn (fun vs H Q E h => ?_) (fun cdv A outer s H vs Q E hr h => ?_)
  · obtain ⟨x, y, ns, ms, rfl, _⟩ := h
    rfl
  obtain ⟨x, y, ns, ms, rfl, hx, hy, hw, q⟩ := h
  obtain ⟨a, rfl, hS⟩ := of_wd hx
  obtain ⟨b, rfl, hT⟩ := of_wd hy
  have few := hw.few
  refine ⟨_, pss_one (ps_ret (pe_cmpR (op_eqD hr.units) (pe_lc (own := [("x", 2)]) (g := gName 2) (by rfl) scLawIn.nd (pi_tup (pv 0)) (blkOk_by (N := ["one", "other", "x"]) (sc := defScope sLawIn) (by decide +kernel))
        (fun _ _ _ _ _ => pg_name (i := 2) scLawIn.nd rfl (Or.inl rfl)) (fun _ _ _ _ _ => pts_one (pt_cmpR (r := rIn K true) op_notIn_seq (pv 2) (pv 1) (by rfl))) (fun _ _ _ _ _ => pv 2)) (pe_lst pa_nil) (nomark _))), ?_⟩
  refine ⟨.ref a, rfl, a, rfl, ⟨_, hS⟩, fun D hD => ?_⟩
  have s1 : Same H (upd H D (.lst [])) := same_new hD _
  refine lc_tup (xs := ns.map V.str) (fun i H1 => Same H H1 ∧ H1 D = some (.lst (((ns.take i).filter fun z => !decide (z ∈ ms)).map V.str))) ⟨s1, upd_same⟩ (fun i H1 _ hI => same_tup hI.1 hS) (fun i x H1 hx hI => ?_) (fun H1 hI => ?_)
  · obtain ⟨sm, hd⟩ := hI
    obtain ⟨z, hz, rfl⟩ := map_at hx
    refine ⟨rfl, .str z, rfl, .ref b, rfl, b, ms.map V.str, rfl, .inr (same_tup sm hT), rfl, flat_strs ms, _, rfl, ?_⟩
    rw [inV_str]
    refine ite2 (fun e => ?_) (fun e => ?_)
    · refine ⟨.str z, rfl, _, hd, small_line' ?_, same_put sm hD, ?_⟩
      · rw [List.length_map]
        have := List.length_filter_le (fun z => !decide (z ∈ ms)) (ns.take i)
        rw [List.length_take] at this
        omega
      · rw [upd_same, filt_t hz (show (!decide (z ∈ ms)) = true by simpa using e), List.map_append]
        rfl
    · refine ⟨sm, ?_⟩
      rw [filt_f hz (show (!decide (z ∈ ms)) = false by simpa using e)]
      exact hd
  · obtain ⟨sm, hd⟩ := hI
    rw [List.length_map, List.take_length] at hd
    refine ⟨by show 0 ≤ sizeLine; decide, fun e he => ?_⟩
    have se := same_new he (.lst [])
    refine ⟨.list ((ns.filter fun z => !decide (z ∈ ms)).map .str), .list [], .lst (SqL.of (se _ _ hd)) (dps_strs _), .lst (SqL.of (xs := []) upd_same) .nil, shaped_strs fun x hx => hw.names x (List.mem_filter.mp hx).1, by decide, ?_⟩
    have ev : PyData.eqv (.list ((ns.filter fun z => !decide (z ∈ ms)).map .str)) (.list []) = sub ns ms := by
      rw [PyData.eqv]
      have z := eqv_strs (ns.filter fun z => !decide (z ∈ ms)) []
      rw [List.map_nil] at z
      rw [z]
      cases c : sub ns ms with
      | true =>
        refine decide_eq_true (List.filter_eq_nil_iff.mpr fun x hx => ?_)
        have := sub_mem c x hx
        simpa using this
      | false =>
        refine decide_eq_false fun z => ?_
        have y : sub ns ms = true := sub_of fun x hx => by
          have := List.filter_eq_nil_iff.mp z x hx
          simpa using this
        rw [c] at y
        exact nomatch y
    rw [ev]
    exact q _ (sm.trans se)
theorem ok_lawMeet (F : Fun K "_law_meet" "_law_meet" sLawMeet f fd) (T : Bl mg) : FnOk P w K mg base CX0 (k + 1) f fd ["one", "other"] (spCommon K) := by
  refine F.ok scLawMeet (fun vs H Q E h => ?_) (fun cdv A outer s H vs Q E hr h => ?_)
  · obtain ⟨x, y, ns, ms, rfl, _⟩ := h
    rfl
  obtain ⟨x, y, ns, ms, rfl, hx, hy, few, q⟩ := h
  obtain ⟨a, rfl, hS⟩ := of_wd hx
  obtain ⟨b, rfl, hT⟩ := of_wd hy
  refine ⟨_, pss_one (ps_ret (pe_callTy call_tuple_of (by rfl) T.tuple (by decide +kernel) (pa_cons (pe_lc (own := [("x", 2)]) (g := gName 2) (by rfl) scLawMeet.nd (pi_tup (pv 0)) (blkOk_by (N := ["one", "other", "x"]) (sc := defScope sLawMeet) (by decide +kernel))
        (fun _ _ _ _ _ => pg_name (i := 2) scLawMeet.nd rfl (Or.inl rfl)) (fun _ _ _ _ _ => pts_one (pt_cmpR (r := rIn K false) op_in_seq (pv 2) (pv 1) (by rfl))) (fun _ _ _ _ _ => pv 2)) pa_nil))), ?_⟩
  refine ⟨.ref a, rfl, a, rfl, ⟨_, hS⟩, fun D hD => ?_⟩
  have s1 : Same H (upd H D (.lst [])) := same_new hD _
  refine lc_tup (xs := ns.map V.str) (fun i H1 => Same H H1 ∧ H1 D = some (.lst (((ns.take i).filter fun z => decide (z ∈ ms)).map V.str))) ⟨s1, upd_same⟩ (fun i H1 _ hI => same_tup hI.1 hS) (fun i x H1 hx hI => ?_) (fun H1 hI => ?_)
  · obtain ⟨sm, hd⟩ := hI
    obtain ⟨z, hz, rfl⟩ := map_at hx
    refine ⟨rfl, .str z, rfl, .ref b, rfl, b, ms.map V.str, rfl, .inr (same_tup sm hT), rfl, flat_strs ms, _, rfl, ?_⟩
    rw [inV_str]
    refine ite2 (fun e => ?_) (fun e => ?_)
    · refine ⟨.str z, rfl, _, hd, small_line' ?_, same_put sm hD, ?_⟩
      · rw [List.length_map]
        have := List.length_filter_le (fun z => decide (z ∈ ms)) (ns.take i)
        rw [List.length_take] at this
        omega
      · rw [upd_same, filt_t hz (show decide (z ∈ ms) = true by simpa using e), List.map_append]
        rfl
    · refine ⟨sm, ?_⟩
      rw [filt_f hz (show decide (z ∈ ms) = false by simpa using e)]
      exact hd
  · obtain ⟨sm, hd⟩ := hI
    rw [List.length_map, List.take_length] at hd
    refine ⟨D, _, rfl, .inl ⟨SqL.of hd, fun l hl => ?_⟩⟩
    exact q _ l (sm.trans (same_new hl _)) upd_same
end
end Rw
namespace Rw
open PySem PySem.Spec PyProof.Rows L2
/-! ### the law tells what barred tells -/
theorem first_map {α β γ : Type} {f : β → Option γ} {g : α → β} : ∀ {l : List α}, (l.map g).findSome? f = l.findSome? fun a => f (g a)
  | [] => rfl
  | a :: l => by
    rw [List.map_cons, List.findSome?_cons, List.findSome?_cons, first_map (l := l)]
theorem first_filter {α γ : Type} {f : α → Option γ} {p : α → Bool} : ∀ {l : List α}, (l.filter p).findSome? f = l.findSome? fun a => if p a = true then f a else none
  | [] => rfl
  | a :: l => by
    rw [List.findSome?_cons, ← first_filter (l := l)]
    by_cases h : p a = true
    · rw [List.filter_cons_of_pos h, List.findSome?_cons, if_pos h]
    · rw [List.filter_cons_of_neg h, if_neg h]
theorem first_congr {α γ : Type} {f g : α → Option γ} {l : List α} (h : ∀ a ∈ l, f a = g a) : l.findSome? f = l.findSome? g := by
  induction l with
  | nil => rfl
  | cons a l ih =>
    rw [List.findSome?_cons, List.findSome?_cons, h a List.mem_cons_self, ih fun b hb => h b (List.mem_cons_of_mem _ hb)]
theorem lt_pd {a b : W} (h : PySem.W.dataLt (wd b) (wd a) = true) : PySem.W.dataLt (pd (b, b)) (pd (a, a)) = true := by
  have ne : PyData.eqv (wd b) (wd a) = false := by
    cases e : PyData.eqv (wd b) (wd a) with
    | false => rfl
    | true =>
      have z := (PySem.W.toks_eqv _ _ (alike_wd b a)).1 e
      unfold PySem.W.dataLt at h
      rw [z, lex_irrefl] at h
      exact nomatch h
  have z := (PySem.W.toks_eqv _ _ (alike_wd b a)).2 ne
  unfold PySem.W.dataLt at h ⊢
  unfold pd
  simp only [PySem.W.keyToks, PySem.W.keyToksAll]
  exact (PySem.W.lex_pre [Sum.inl 1] _ _).trans ((z _ _).trans h)
/-- the worlds of the law's first tuple -/
def pool4 : W := [("a" : Str), ("ab" : Str), ("b" : Str), ("c" : Str)]
theorem isW_pool4 : IsW pool4 := ⟨by decide +kernel, by unfold UpX pool4; decide +kernel, by decide⟩
theorem any_pd {R : List Pr} {p : Pr} : ((R.map pd).any fun z => PyData.eqv z (pd p)) = decide (p ∈ R) := by
  rw [List.any_map]
  cases e : decide (p ∈ R) with
  | true =>
    refine List.any_eq_true.mpr ⟨p, of_decide_eq_true e, ?_⟩
    show PyData.eqv (pd p) (pd p) = true
    rw [eqv_pd]
    exact decide_eq_true rfl
  | false =>
    refine List.any_eq_false.mpr fun q hq => ?_
    show ¬ PyData.eqv (pd q) (pd p) = true
    rw [eqv_pd]
    intro c
    have := of_decide_eq_true c
    subst this
    exact absurd hq (of_decide_eq_false e)
theorem tops_mem {R : List Pr} {h : W} : h ∈ tops R ↔ (h, h) ∈ R := by
  unfold tops
  rw [List.mem_map]
  constructor
  · rintro ⟨⟨a, b⟩, hp, rfl⟩
    obtain ⟨h1, h2⟩ := List.mem_filter.mp hp
    have e : a = b := of_decide_eq_true h2
    subst e
    exact h1
  · intro hm
    exact ⟨(h, h), List.mem_filter.mpr ⟨hm, decide_eq_true rfl⟩, rfl⟩
theorem tops_nodup {R : List Pr} (n : R.Nodup) : (tops R).Nodup := by
  unfold tops
  have nf := n.sublist (List.filter_sublist (p := fun p : Pr => decide (p.1 = p.2)))
  refine List.Pairwise.map _ (R := fun p q : Pr => p.1 = p.2 ∧ q.1 = q.2 ∧ p ≠ q) (fun p q ⟨h1, h2, h3⟩ e => h3 ?_) ?_
  · exact Prod.ext (by rw [h1, h2]; exact e) e
  · refine List.Pairwise.imp_of_mem (fun {p q} hp hq ne => ?_) nf
    exact ⟨of_decide_eq_true (List.mem_filter.mp hp).2, of_decide_eq_true (List.mem_filter.mp hq).2, ne⟩
theorem tops_rising {R : List Pr} (r : Rising (R.map pd)) : Rising ((tops R).map wd) := by
  have r' : R.Pairwise fun p q => PySem.W.dataLe false id (pd p) (pd q) = true := List.pairwise_map.mp r
  unfold tops
  refine List.pairwise_map.mpr (List.pairwise_map.mpr ?_)
  refine List.Pairwise.imp_of_mem (fun {p q} hp hq le => ?_) (r'.sublist (List.filter_sublist (p := fun p : Pr => decide (p.1 = p.2))))
  obtain ⟨a, b⟩ := p
  obtain ⟨c, d⟩ := q
  have e1 : a = b := of_decide_eq_true (List.mem_filter.mp hp).2
  have e2 : c = d := of_decide_eq_true (List.mem_filter.mp hq).2
  subst e1
  subst e2
  show (!PySem.W.dataLt (wd c) (wd a)) = true
  have le' : (!PySem.W.dataLt (pd (c, c)) (pd (a, a))) = true := le
  cases h : PySem.W.dataLt (wd c) (wd a) with
  | false => rfl
  | true =>
    rw [lt_pd h] at le'
    exact nomatch le'
/-- a rising list of the parts, as far as they stand with themselves -/
theorem parts_tops {R : List Pr} {S : List W} (n : R.Nodup) (r : Rising (R.map pd)) (hR : ∀ p ∈ R, IsW p.2 ∧ sub p.2 pool4 = true) (perm : S.Perm (subs pool4)) (ris : Rising (S.map wd)) : S.filter (fun h => decide ((h, h) ∈ R)) = tops R := by
  refine worlds_one ?_ (tops_rising r) ((perm.nodup_iff.mpr (subs_nodup (upX_nodup isW_pool4.up))).sublist List.filter_sublist) (tops_nodup n) fun h => ?_
  · exact List.pairwise_map.mpr ((List.pairwise_map.mp ris).sublist List.filter_sublist)
  · rw [List.mem_filter, decide_eq_true_iff, tops_mem]
    exact ⟨fun z => z.2, fun z => ⟨perm.mem_iff.mpr ((parts_iff isW_pool4).mpr (hR _ z)), z⟩⟩
def up2 (R : List Pr) (z : Str) (p : Pr) : Option PyData := if z = anyS then none else (tops R).findSome? (upIn R p)
def me2 (R : List Pr) (z : Str) (p : Pr) : Option PyData := if z = singleS then (lows R p.2).findSome? (meIn R p) else none
theorem whyO_eq (R : List Pr) (z : Str) : whyO R z = or2 (or2 (totO R) (R.findSome? (up2 R z))) (R.findSome? (me2 R z)) := by
  unfold whyO
  have e1 : R.findSome? (up2 R z) = if z = anyS then none else upO R := by
    by_cases h : z = anyS
    · rw [if_pos h]
      exact first_none fun p _ => by unfold up2; rw [if_pos h]
    · rw [if_neg h]
      exact first_congr fun p _ => by unfold up2; rw [if_neg h]
  have e2 : R.findSome? (me2 R z) = if z = singleS then meO R else none := by
    by_cases h : z = singleS
    · rw [if_pos h]
      exact first_congr fun p _ => by unfold me2; rw [if_pos h]
    · rw [if_neg h]
      exact first_none fun p _ => by unfold me2; rw [if_neg h]
  rw [e1, e2]
/-- the law's innermost questions -/
def g2 (R : List Pr) (z : Str) (p : Pr) (h : W) : Option PyData := if z ≠ anyS ∧ (h, h) ∈ R ∧ sub p.2 h = true ∧ (p.1, h) ∉ R then some (.tuple [.str upwardS, pd p, wd h]) else none
def g3 (R : List Pr) (z : Str) (p q : Pr) : Option PyData := if z = singleS ∧ p.2 = q.2 ∧ (meet p.1 q.1, p.2) ∉ R then some (.tuple [.str meetS, pd p, pd q]) else none
theorem g2_all {R : List Pr} {S : List W} {z : Str} (n : R.Nodup) (r : Rising (R.map pd)) (hR : ∀ p ∈ R, IsW p.2 ∧ sub p.2 pool4 = true) (perm : S.Perm (subs pool4)) (ris : Rising (S.map wd)) (p : Pr) : S.findSome? (g2 R z p) = up2 R z p := by
  unfold up2
  by_cases h : z = anyS
  · rw [if_pos h]
    exact first_none fun q _ => by unfold g2; rw [if_neg fun c => c.1 h]
  · rw [if_neg h, ← parts_tops n r hR perm ris, first_filter]
    refine first_congr fun q _ => ?_
    unfold g2 upIn
    by_cases c : (q, q) ∈ R
    · rw [if_pos (decide_eq_true c)]
      by_cases c2 : sub p.2 q = true ∧ (p.1, q) ∉ R
      · rw [if_pos c2, if_pos ⟨h, c, c2⟩]
      · rw [if_neg c2, if_neg fun d => c2 d.2.2]
    · rw [if_neg fun d => c d.2.1, if_neg (by simpa using c)]
theorem g3_all {R : List Pr} {z : Str} (p : Pr) : R.findSome? (g3 R z p) = me2 R z p := by
  unfold me2
  by_cases h : z = singleS
  · rw [if_pos h]
    unfold lows
    rw [first_map, first_filter]
    refine first_congr fun q _ => ?_
    unfold g3 meIn
    by_cases c : q.2 = p.2
    · rw [if_pos (decide_eq_true c)]
      have eq : (q.1, p.2) = q := Prod.ext rfl c.symm
      rw [eq]
      by_cases c2 : (meet p.1 q.1, p.2) ∈ R
      · rw [if_pos c2, if_neg fun d => d.2.2 c2]
      · rw [if_neg c2, if_pos ⟨h, c.symm, c2⟩]
    · rw [if_neg fun d => c d.2.1.symm, if_neg (by simpa using c)]
  · rw [if_neg h]
    exact first_none fun q _ => by unfold g3; rw [if_neg fun c => h c.1]
end Rw
namespace Rw
open PySem PySem.Spec PyProof.Rows L2
theorem lay_pds : ∀ {R : List Pr}, (∀ p ∈ R, IsW p.1 ∧ IsW p.2) → PyData.canLayAll0 (R.map pd) = true
  | [], _ => by simp [PyData.canLayAll0]
  | p :: R, h => by
    rw [List.map_cons, PyData.canLayAll0, lay_pds fun y hy => h y (List.mem_cons_of_mem _ hy), lay_pd (h p List.mem_cons_self).1 (h p List.mem_cons_self).2]
    rfl
theorem depth_pds : ∀ R : List Pr, PyData.depthAll (R.map pd) ≤ 2
  | [] => by simp [PyData.depthAll]
  | p :: R => by
    have := depth_pds R
    rw [List.map_cons, PyData.depthAll, depth_pd]
    omega
theorem shaped_pds {R : List Pr} (h : ∀ p ∈ R, IsW p.1 ∧ IsW p.2) : SeqAt.shaped (.list (R.map pd)) = true := by
  unfold SeqAt.shaped
  have := depth_pds R
  rw [PyData.canLay0, lay_pds h, PyData.depth, decide_eq_true (by omega)]
  rfl
theorem PL.data {K : PySem.W.Frag} {H : Hp} {l : Addr} {R : List Pr} (h : PL K H l R) : Dp K H (.ref l) (.list (R.map pd)) := by
  obtain ⟨xs, h1, h2⟩ := h.ex
  exact .lst h1 h2
theorem sub_self (t : W) : sub t t = true := sub_of fun _ h => h
theorem sub_trans {a b c : W} (h : sub a b = true) (h2 : sub b c = true) : sub a c = true := sub_of fun x hx => sub_mem h2 x (sub_mem h x hx)
abbrev sLawWhy : Stmt := topS 34
theorem scLawWhy : FnScope ["rows", "sort", "here", "there", "high", "one", "other"] ["rows", "sort"] (defScope sLawWhy) := ⟨rfl, rfl, rfl, by decide +kernel, rfl, by decide +kernel, by decide +kernel⟩
theorem room65 {k : Nat} {A : Around} (hr : Room k A) : A.units + 65 < cLine := by
  have := hr.un
  omega
section
variable {P : Program} {w : World} {K : PySem.W.Frag} {mg : Str → Option Value} {base : Heap} {f : Addr} {fd : FuncData} {k : Nat}
def spLawWhy (K : PySem.W.Frag) : Sp := fun vs H Q _ => ∃ (l : Addr) (z : Str) (L : List Pr), vs = [.ref l, .str z] ∧ PL K H l L ∧ L.length < 64 ∧ (∀ p ∈ L, IsP pool4 p) ∧
  ∀ H' y R, Same H H' → R.Nodup → Rising (R.map pd) → (∀ p, p ∈ R ↔ p ∈ L) → Told K H' y (whyO R z) → Q y H'
theorem ok_lawWhy {f1 f2 f3 : Addr} {fd1 fd2 fd3 : FuncData} (F : Fun K "_law_why" "_law_why" sLawWhy f fd) (T : Bl mg) (G1 : FnOk P w K mg base CX0 k f1 fd1 ["pool"] (spLawParts K)) (b1 : Binds K fd1 ["pool"] []) (k1 : PySem.W.keepIn K (.ref f1) = true) (m1 : mg "_law_parts" = some (.ref f1))
    (G2 : FnOk P w K mg base CX0 k f2 fd2 ["one", "other"] (spLawIn K)) (b2 : Binds K fd2 ["one", "other"] []) (k2 : PySem.W.keepIn K (.ref f2) = true) (m2 : mg "_law_in" = some (.ref f2))
    (G3 : FnOk P w K mg base CX0 k f3 fd3 ["one", "other"] (spCommon K)) (b3 : Binds K fd3 ["one", "other"] []) (k3 : PySem.W.keepIn K (.ref f3) = true) (m3 : mg "_law_meet" = some (.ref f3)) :
    FnOk P w K mg base CX0 (k + 1) f fd ["rows", "sort"] (spLawWhy K) := by
  refine F.ok scLawWhy (fun vs H Q E h => ?_) (fun cdv A outer s H vs Q E hr h => ?_)
  · obtain ⟨l, z, L, rfl, _⟩ := h
    rfl
  obtain ⟨l, z, L, rfl, hl, few, hL, q⟩ := h
  refine ⟨_, pss_cons (ps_set (i := 0) scLawWhy.nd rfl (.inl rfl) (pe_callB (cr_sortT rfl hr.units) (by rfl) T.sorted (by decide +kernel) (pa_cons (pe_callTy (cr_setT rfl hr.units) (by rfl) T.set (by decide +kernel) (pa_cons (pv 0) pa_nil)) pa_nil)))
    (pss_cons (ps_for PassesOwn.never rfl (pi_list (pv 0)) (pg_tup (by rfl) (pgs_cons (pg_name (i := 2) scLawWhy.nd rfl (.inl rfl)) (pgs_cons (pg_name (i := 3) scLawWhy.nd rfl (.inl rfl)) pgs_nil)))
      (pss_one (ps_if (pt_cmpR (op_notInD (room65 hr)) (pe_tup (pa_cons (pv 3) (pa_cons (pv 3) pa_nil))) (pv 0) (by rfl)) (pss_one (ps_ret (pe_tup (pa_cons pe_str (pa_cons (pe_tup (pa_cons (pv 2) (pa_cons (pv 3) pa_nil))) pa_nil))))) pss_nil)))
    (pss_cons (ps_for PassesOwn.never rfl (pi_list (pv 0)) (pg_tup (by rfl) (pgs_cons (pg_name (i := 2) scLawWhy.nd rfl (.inl rfl)) (pgs_cons (pg_name (i := 3) scLawWhy.nd rfl (.inl rfl)) pgs_nil)))
      (pss_one (ps_for PassesOwn.never rfl (pi_list (pe_call G1 hr (by rfl) m1 k1 b1 .nil pass0 (pa_cons (pe_tup (pa_cons pe_str (pa_cons pe_str (pa_cons pe_str (pa_cons pe_str pa_nil))))) pa_nil))) (pg_name (i := 4) scLawWhy.nd rfl (.inl rfl))
        (pss_one (ps_if (PW.pt (pw_and (pt_cmpR op_ne (pv 1) pe_str (nomark _)) (pw_and (pt_cmpR (op_inD (room65 hr)) (pe_tup (pa_cons (pv 4) (pa_cons (pv 4) pa_nil))) (pv 0) (by rfl)) (pw_and (pt_val (pe_call G2 hr (by rfl) m2 k2 b2 .nil pass0 (pa_cons (pv 3) (pa_cons (pv 4) pa_nil)))) (pw_and1 (pt_cmpR (op_notInD (room65 hr)) (pe_tup (pa_cons (pv 2) (pa_cons (pv 4) pa_nil))) (pv 0) (by rfl)))))))
          (pss_one (ps_ret (pe_tup (pa_cons pe_str (pa_cons (pe_tup (pa_cons (pv 2) (pa_cons (pv 3) pa_nil))) (pa_cons (pv 4) pa_nil)))))) pss_nil)))))
    (pss_cons (ps_for PassesOwn.never rfl (pi_list (pv 0)) (pg_name (i := 5) scLawWhy.nd rfl (.inl rfl))
      (pss_one (ps_for PassesOwn.never rfl (pi_list (pv 0)) (pg_name (i := 6) scLawWhy.nd rfl (.inl rfl))
        (pss_one (ps_if (PW.pt (pw_and (pt_cmpR op_eq (pv 1) pe_str (nomark _)) (pw_and (pt_cmpR (op_eqD hr.units) (pe_ix ix_tup (pv 5) pe_int (fun _ _ => rfl)) (pe_ix ix_tup (pv 6) pe_int (fun _ _ => rfl)) (nomark _)) (pw_and1 (pt_cmpR (op_notInD (room65 hr)) (pe_tup (pa_cons (pe_call G3 hr (by rfl) m3 k3 b3 .nil pass0 (pa_cons (pe_ix ix_tup (pv 5) pe_int (fun _ _ => rfl)) (pa_cons (pe_ix ix_tup (pv 6) pe_int (fun _ _ => rfl)) pa_nil))) (pa_cons (pe_ix ix_tup (pv 5) pe_int (fun _ _ => rfl)) pa_nil))) (pv 0) (by rfl))))))
          (pss_one (ps_ret (pe_tup (pa_cons pe_str (pa_cons (pv 5) (pa_cons (pv 6) pa_nil)))))) pss_nil)))))
    (pss_one (ps_ret pe_non))))), ?_⟩
  -- rows = sorted(set(rows))
  obtain ⟨xs, hS, hx⟩ := hl.ex
  refine ⟨.ref l, rfl, l, xs, L.map pd, rfl, .inl hS, hx, (fun d hd => by obtain ⟨p, _, rfl⟩ := List.mem_map.mp hd; exact good_pd p), by rw [List.length_map]; exact few, fun a M ha hM hall => ?_⟩
  have sa := same_new ha (TSetO w a M)
  have isP : ∀ e ∈ M, ∃ p ∈ L, e.2 = pd p := fun e he => by
    obtain ⟨p, hp, ep⟩ := List.mem_map.mp (hM e he).1
    exact ⟨p, hp, ep.symm⟩
  refine ⟨a, M, rfl, upd_same, fun e he => ?_, ?_, fun ys ds l' perm nd lt ris hys hp' => ?_⟩
  · obtain ⟨p, _, ep⟩ := isP e he
    refine ⟨by rw [ep]; exact good_pd p, (Stay.same sa).dp _ _ (by rw [ep]; exact ok_pd p) (hM e he).2⟩
  · refine fun d hd d' hd' => ?_
    obtain ⟨e, he, rfl⟩ := List.mem_map.mp hd
    obtain ⟨e', he', rfl⟩ := List.mem_map.mp hd'
    obtain ⟨p, _, ep⟩ := isP e he
    obtain ⟨p', _, ep'⟩ := isP e' he'
    rw [ep, ep']
    exact alike_pd p p'
  obtain ⟨R, rfl⟩ := all_pd (ds := ds) fun d hd => by
    obtain ⟨e, he, rfl⟩ := List.mem_map.mp (perm.mem_iff.mp hd)
    obtain ⟨p, _, ep⟩ := isP e he
    exact ⟨p, ep⟩
  have memR : ∀ p, p ∈ R ↔ p ∈ L := fun p => by
    rw [← pd_mem, perm.mem_iff]
    constructor
    · intro hm
      obtain ⟨e, he, ee⟩ := List.mem_map.mp hm
      obtain ⟨p', hp', ep⟩ := isP e he
      rw [← pd_inj (ep.symm.trans ee)]
      exact hp'
    · intro hm
      exact hall _ (pd_mem.mpr hm)
  have nR : R.Nodup := nodup_of_map nd
  have sp := same_new hp' (.lst ys)
  let HB : Hp := upd (upd H a (TSetO w a M)) l' (.lst ys)
  have sB : Same H HB := sa.trans sp
  have hB : PL K HB l' R := ⟨ys, SqL.of upd_same, (Stay.same sp).dpAll _ _ (okDs_pd R) hys⟩
  clear hM hall isP perm nd
  have hR : ∀ p ∈ R, IsP pool4 p := fun p hp => hL p ((memR p).mp hp)
  have hRw : ∀ p ∈ R, IsW p.1 ∧ IsW p.2 := fun p hp => ⟨(hR p hp).w1, (hR p hp).w2⟩
  have hR4 : ∀ p ∈ R, IsW p.2 ∧ sub p.2 pool4 = true := fun p hp => ⟨(hR p hp).w2, (hR p hp).up⟩
  have shR := shaped_pds hRw
  have q' : ∀ H' y o, Same HB H' → whyO R z = o → Told K H' y o → Q y H' := fun H' y o sm e t => q H' y R (sB.trans sm) nR ris memR (by rw [e]; exact t)
  obtain ⟨xs, hSB, hxB⟩ := hB.ex
  have xl : xs.length = R.length := by rw [dpAll_len hxB, List.length_map]
  -- the first loop
  refine ⟨.ref l', rfl, l', rfl, ⟨_, hSB⟩, for_list (xs := xs) (fun i σ H1 => (∃ y2 y3, σ = [some (.ref l'), some (.str z), y2, y3, none, none, none]) ∧ Same HB H1 ∧ ∀ p ∈ R.take i, totIn R p = none) ⟨⟨none, none, rfl⟩, fun _ _ e => e, by simp⟩ (fun i σ H1 _ hI => hI.2.1.seq hSB) (fun i x σ H1 hxi hI => ?_) (fun σ H1 hI => ?_)⟩
  · obtain ⟨⟨y2, y3, rfl⟩, sm, h0⟩ := hI
    obtain ⟨dd, hdd, hxd⟩ := dpAll_at' hxB hxi
    obtain ⟨p, hp, rfl⟩ := map_at hdd
    obtain ⟨c, y, v, rfl, hP, hy, hv⟩ := of_pd ((Stay.same sm).pd hxd)
    have ip := hR p (List.mem_of_getElem? hp)
    refine ⟨c, [y, v], rfl, hP, rfl, y, [v], rfl, v, [], rfl, rfl, ?_⟩
    refine ⟨v, rfl, v, rfl, by show 2 ≤ sizeLine; decide, fun t ht => ?_⟩
    have st := same_new ht (.tup [v, v])
    have dt : Dp K (upd H1 t (.tup [v, v])) (.ref t) (pd (p.2, p.2)) := to_pd (SqT.of upd_same) ((Stay.same st).wd hv) ((Stay.same st).wd hv)
    refine ⟨.ref l', rfl, pd (p.2, p.2), R.map pd, dt, (hB.same (sm.trans st)).data, shaped_pd ip.w2 ip.w2, shR, _, rfl, ?_⟩
    rw [any_pd]
    refine ite2 (fun e => ?_) (fun e => ?_)
    · have nb : (p.2, p.2) ∉ R := by simpa using e
      refine ⟨y, rfl, v, rfl, by show 2 ≤ sizeLine; decide, fun u hu => ⟨by show 2 ≤ sizeLine; decide, fun x hx => ?_⟩⟩
      have su := same_new hu (.tup [y, v])
      have sv := same_new hx (.tup [.str totalS, .ref u])
      have e0 : totIn R p = some (.tuple [.str totalS, pd p]) := by
        unfold totIn
        rw [if_neg nb]
      have et : totO R = some (.tuple [.str totalS, pd p]) := first_at h0 hp e0
      refine q' _ _ _ (sm.trans (st.trans (su.trans sv))) (by rw [whyO_eq, et]; try rfl) ?_
      exact ⟨⟨x, rfl⟩, by simp [okD, okDs, ok_pd], .tup (SqT.of upd_same) (.cons (.str _) (.cons (mk_pd (.same (st.trans (su.trans sv))) (sv _ _ upd_same) hy hv) .nil))⟩
    · have nb : (p.2, p.2) ∈ R := by simpa using e
      refine ⟨⟨_, _, rfl⟩, sm.trans st, none_snoc h0 hp ?_⟩
      unfold totIn
      rw [if_pos nb]
  obtain ⟨⟨y2, y3, rfl⟩, smA, h0⟩ := hI
  rw [xl, List.take_length] at h0
  have e1 : totO R = none := first_none h0
  clear h0
  -- the second loop
  refine ⟨.ref l', rfl, l', rfl, ⟨_, smA.seq hSB⟩, for_list (xs := xs) (fun i σ H1 => (∃ y2 y3 y4, σ = [some (.ref l'), some (.str z), y2, y3, y4, none, none]) ∧ Same HB H1 ∧ ∀ p ∈ R.take i, up2 R z p = none) ⟨⟨_, _, none, rfl⟩, smA, by simp⟩ (fun i σ H1 _ hI => hI.2.1.seq hSB) (fun i x σ H1 hxi hI => ?_) (fun σ H1 hI => ?_)⟩
  · obtain ⟨⟨y2, y3, y4, rfl⟩, sm, h0⟩ := hI
    obtain ⟨dd, hdd, hxd⟩ := dpAll_at' hxB hxi
    obtain ⟨p, hp, rfl⟩ := map_at hdd
    obtain ⟨c, y, v, rfl, hP, hy, hv⟩ := of_pd hxd
    have ip := hR p (List.mem_of_getElem? hp)
    refine ⟨c, [y, v], rfl, (Stay.same sm).seq hP, rfl, y, [v], rfl, v, [], rfl, rfl, ?_⟩
    refine ⟨by show 4 ≤ sizeLine; decide, fun t ht => ?_⟩
    have st := sm.trans (same_new ht (.tup [.str "a", .str "ab", .str "b", .str "c"]))
    refine ⟨.ref t, pool4, rfl, to_wd (SqT.of upd_same), by decide, fun H2 l2 S s2 _ hW perm2 ris2 => ?_⟩
    have sm2 := st.trans s2
    obtain ⟨ys, hSS0, hys⟩ := hW
    have hSS : SqL K H2 l2 ys := SqL.of hSS0
    have yl : ys.length = S.length := by rw [dpAll_len hys, List.length_map]
    have key := g2_all (z := z) nR ris hR4 perm2 ris2 p
    refine ⟨l2, rfl, ⟨_, hSS⟩, for_list (xs := ys) (fun j σ H3 => (∃ y4, σ = [some (.ref l'), some (.str z), some y, some v, y4, none, none]) ∧ Same H2 H3 ∧ ∀ h ∈ S.take j, g2 R z p h = none) ⟨⟨_, rfl⟩, fun _ _ e => e, by simp⟩ (fun j σ H3 _ hI => hI.2.1.seq hSS) (fun j u σ H3 hu hI => ?_) (fun σ H3 hI => ?_)⟩
    · obtain ⟨⟨y4, rfl⟩, sm3, g0⟩ := hI
      obtain ⟨du, hdu, hud⟩ := dpAll_at' hys hu
      obtain ⟨h, hh, rfl⟩ := map_at hdu
      have ih : IsW h := ((parts_iff isW_pool4).mp (perm2.mem_iff.mp (List.mem_of_getElem? hh))).1
      have sm4 := sm2.trans sm3
      refine ⟨.str z, rfl, rfl, _, rfl, ite2 (fun c1 => ?_) (fun c1 => ?_)⟩
      · have nz : z ≠ anyS := fun e => by
          rw [e] at c1
          exact absurd c1 (by decide)
        refine ⟨u, rfl, u, rfl, by show 2 ≤ sizeLine; decide, fun t1 ht1 => ?_⟩
        have st1 := same_new ht1 (.tup [u, u])
        have hu1 := (Stay.same (sm3.trans st1)).wd hud
        refine ⟨.ref l', rfl, pd (h, h), R.map pd, to_pd (SqT.of upd_same) hu1 hu1, (hB.same (sm4.trans st1)).data, shaped_pd ih ih, shR, _, rfl, ?_⟩
        rw [any_pd]
        refine ite2 (fun c2 => ?_) (fun c2 => ?_)
        · have m2 : (h, h) ∈ R := by simpa using c2
          refine ⟨v, rfl, u, rfl, v, u, p.2, h, rfl, (Stay.same (sm4.trans st1)).wd hv, hu1, ip.w2, fun H4 s4 => ⟨_, rfl, ite2 (fun c3 => ?_) (fun c3 => ?_)⟩⟩
          · have sm5 := sm4.trans (st1.trans s4)
            have hu5 := (Stay.same (sm3.trans (st1.trans s4))).wd hud
            refine ⟨y, rfl, u, rfl, by show 2 ≤ sizeLine; decide, fun t2 ht2 => ?_⟩
            have st2 := same_new ht2 (.tup [y, u])
            have sm6 := sm5.trans st2
            have hu6 := (Stay.same st2).wd hu5
            refine ⟨.ref l', rfl, pd (p.1, h), R.map pd, to_pd (SqT.of upd_same) ((Stay.same sm6).wd hy) hu6, (hB.same sm6).data, shaped_pd ip.w1 ih, shR, _, rfl, ?_⟩
            rw [any_pd]
            refine ite2 (fun c4 => ?_) (fun c4 => ?_)
            · have m4 : (p.1, h) ∉ R := by simpa using c4
              refine ⟨y, rfl, v, rfl, by show 2 ≤ sizeLine; decide, fun d1 hd1 => ⟨u, rfl, by show 3 ≤ sizeLine; decide, fun d2 hd2 => ?_⟩⟩
              have su := same_new hd1 (.tup [y, v])
              have sv := same_new hd2 (.tup [.str upwardS, .ref d1, u])
              have all := sm6.trans (su.trans sv)
              have e0 : g2 R z p h = some (.tuple [.str upwardS, pd p, wd h]) := by
                unfold g2
                rw [if_pos ⟨nz, m2, c3, m4⟩]
              have e2 : R.findSome? (up2 R z) = some (.tuple [.str upwardS, pd p, wd h]) := first_at h0 hp (key.symm.trans (first_at g0 hh e0))
              refine q' _ _ _ all (by rw [whyO_eq, e1, e2]; try rfl) ?_
              exact ⟨⟨d2, rfl⟩, by simp [okD, okDs, ok_pd, ok_wd], .tup (SqT.of upd_same) (.cons (.str _) (.cons (mk_pd (.same all) (sv _ _ upd_same) hy hv) (.cons ((Stay.same (su.trans sv)).wd hu6) .nil)))⟩
            · have m4 : (p.1, h) ∈ R := by simpa using c4
              exact ⟨⟨_, rfl⟩, sm3.trans (st1.trans (s4.trans st2)), none_snoc g0 hh (by unfold g2; rw [if_neg fun d => d.2.2.2 m4])⟩
          · exact ⟨⟨_, rfl⟩, sm3.trans (st1.trans s4), none_snoc g0 hh (by unfold g2; rw [if_neg fun d => c3 d.2.2.1])⟩
        · have m2 : (h, h) ∉ R := by simpa using c2
          exact ⟨⟨_, rfl⟩, sm3.trans st1, none_snoc g0 hh (by unfold g2; rw [if_neg fun d => m2 d.2.1])⟩
      · have nz : z = anyS := by
          have c' : decide (V.str z = V.str ("any" : Str)) = true := by simpa using c1
          exact V.str.inj (of_decide_eq_true c')
        exact ⟨⟨_, rfl⟩, sm3, none_snoc g0 hh (by unfold g2; rw [if_neg fun d => d.1 nz])⟩
    · obtain ⟨⟨y4, rfl⟩, sm3, g0⟩ := hI
      rw [yl, List.take_length] at g0
      exact ⟨⟨_, _, _, rfl⟩, sm2.trans sm3, none_snoc h0 hp (key.symm.trans (first_none g0))⟩
  obtain ⟨⟨y2, y3, y4, rfl⟩, smB, h0⟩ := hI
  rw [xl, List.take_length] at h0
  have e2 : R.findSome? (up2 R z) = none := first_none h0
  clear h0
  -- the third loop
  refine ⟨.ref l', rfl, l', rfl, ⟨_, smB.seq hSB⟩, for_list (xs := xs) (fun i σ H1 => (∃ y5 y6, σ = [some (.ref l'), some (.str z), y2, y3, y4, y5, y6]) ∧ Same HB H1 ∧ ∀ p ∈ R.take i, me2 R z p = none) ⟨⟨none, none, rfl⟩, smB, by simp⟩ (fun i σ H1 _ hI => hI.2.1.seq hSB) (fun i x σ H1 hxi hI => ?_) (fun σ H1 hI => ?_)⟩
  · obtain ⟨⟨y5, y6, rfl⟩, sm, h0⟩ := hI
    obtain ⟨dd, hdd, hxd⟩ := dpAll_at' hxB hxi
    obtain ⟨p, hp, rfl⟩ := map_at hdd
    obtain ⟨c, y, v, rfl, hP, hy, hv⟩ := of_pd hxd
    have ip := hR p (List.mem_of_getElem? hp)
    have key := g3_all (R := R) (z := z) p
    refine ⟨.ref l', rfl, l', rfl, ⟨_, sm.seq hSB⟩, for_list (xs := xs) (fun j σ H3 => (∃ y6, σ = [some (.ref l'), some (.str z), y2, y3, y4, some (.ref c), y6]) ∧ Same HB H3 ∧ ∀ h ∈ R.take j, g3 R z p h = none) ⟨⟨_, rfl⟩, sm, by simp⟩ (fun j σ H3 _ hI => hI.2.1.seq hSB) (fun j u σ H3 hu hI => ?_) (fun σ H3 hI => ?_)⟩
    · obtain ⟨⟨y6, rfl⟩, sm3, g0⟩ := hI
      obtain ⟨du, hdu, hud⟩ := dpAll_at' hxB hu
      obtain ⟨o, ho, rfl⟩ := map_at hdu
      have io := hR o (List.mem_of_getElem? ho)
      obtain ⟨c2, y', v', rfl, hP', hy', hv'⟩ := of_pd hud
      have t3 := Stay.same sm3
      refine ⟨.str z, rfl, rfl, _, rfl, ite2 (fun c1 => ?_) (fun c1 => ?_)⟩
      · have ez : z = singleS := V.str.inj (of_decide_eq_true c1)
        refine ⟨.ref c, rfl, c, [y, v], 1, v, rfl, rfl, t3.seq hP, atI_nat (j := 1) rfl, .ref c2, rfl, c2, [y', v'], 1, v', rfl, rfl, t3.seq hP', atI_nat (j := 1) rfl, wd p.2, wd o.2, t3.wd hv, t3.wd hv', shaped_wd ip.w2, shaped_wd io.w2, _, rfl, ?_⟩
        rw [eqv_wd]
        refine ite2 (fun c5 => ?_) (fun c5 => ?_)
        · have m5 : p.2 = o.2 := of_decide_eq_true c5
          have w1l := ip.w1.few
          refine ⟨.ref c, rfl, c, [y, v], 0, y, rfl, rfl, t3.seq hP, atI_nat (j := 0) rfl, .ref c2, rfl, c2, [y', v'], 0, y', rfl, rfl, t3.seq hP', atI_nat (j := 0) rfl, y, y', p.1, o.1, rfl, t3.wd hy, t3.wd hy', by omega, fun H4 m s4 hm => ?_⟩
          have t4 := t3.trans (.same s4)
          refine ⟨.ref c, rfl, c, [y, v], 1, v, rfl, rfl, t4.seq hP, atI_nat (j := 1) rfl, by show 2 ≤ sizeLine; decide, fun t2 ht2 => ?_⟩
          have st2 := same_new ht2 (.tup [.ref m, v])
          have sm6 := sm3.trans (s4.trans st2)
          have wm : IsW (meet p.1 o.1) := ⟨fun x hx => ip.w1.names x (List.mem_filter.mp hx).1, ip.w1.up.sublist List.filter_sublist, Nat.le_trans (List.length_filter_le _ _) ip.w1.few⟩
          refine ⟨.ref l', rfl, pd (meet p.1 o.1, p.2), R.map pd, to_pd (SqT.of upd_same) (to_wd (SqT.of (st2 _ _ hm))) ((Stay.same sm6).wd hv), (hB.same sm6).data, shaped_pd wm ip.w2, shR, _, rfl, ?_⟩
          rw [any_pd]
          refine ite2 (fun c4 => ?_) (fun c4 => ?_)
          · have m4 : (meet p.1 o.1, p.2) ∉ R := by simpa using c4
            refine ⟨.ref c, rfl, .ref c2, rfl, by show 3 ≤ sizeLine; decide, fun d2 hd2 => ?_⟩
            have sv := same_new hd2 (.tup [.str meetS, .ref c, .ref c2])
            have all := sm6.trans sv
            have e0 : g3 R z p o = some (.tuple [.str meetS, pd p, pd o]) := by
              unfold g3
              rw [if_pos ⟨ez, m5, m4⟩]
            have e3 : R.findSome? (me2 R z) = some (.tuple [.str meetS, pd p, pd o]) := first_at h0 hp (key.symm.trans (first_at g0 ho e0))
            refine q' _ _ _ all (by rw [whyO_eq, e1, e2, e3]; try rfl) ?_
            exact ⟨⟨d2, rfl⟩, by simp [okD, okDs, ok_pd], .tup (SqT.of upd_same) (.cons (.str _) (.cons ((Stay.same all).pd hxd) (.cons ((Stay.same all).pd hud) .nil)))⟩
          · have m4 : (meet p.1 o.1, p.2) ∈ R := by simpa using c4
            exact ⟨⟨_, rfl⟩, sm6, none_snoc g0 ho (by unfold g3; rw [if_neg fun d => d.2.2 m4])⟩
        · have m5 : p.2 ≠ o.2 := fun e => c5 (decide_eq_true e)
          exact ⟨⟨_, rfl⟩, sm3, none_snoc g0 ho (by unfold g3; rw [if_neg fun d => m5 d.2.1])⟩
      · have ez : z ≠ singleS := fun e => c1 (by rw [e]; exact decide_eq_true rfl)
        exact ⟨⟨_, rfl⟩, sm3, none_snoc g0 ho (by unfold g3; rw [if_neg fun d => ez d.1])⟩
    · obtain ⟨⟨y6, rfl⟩, sm3, g0⟩ := hI
      rw [xl, List.take_length] at g0
      exact ⟨⟨_, _, rfl⟩, sm3, none_snoc h0 hp (key.symm.trans (first_none g0))⟩
  obtain ⟨⟨y5, y6, rfl⟩, smC, h0⟩ := hI
  rw [xl, List.take_length] at h0
  have e3 : R.findSome? (me2 R z) = none := first_none h0
  exact q' H1 _ none smC (by rw [whyO_eq, e1, e2, e3]; try rfl) rfl
end
end Rw
namespace Rw
open PySem PySem.Spec PyProof.Rows L2
/-! ### how many pairs there are -/
theorem len_le {α : Type} [DecidableEq α] : ∀ {l m : List α}, l.Nodup → (∀ z ∈ l, z ∈ m) → l.length ≤ m.length
  | [], _, _, _ => Nat.zero_le _
  | x :: l, m, hn, hs => by
    obtain ⟨h1, h2⟩ := List.nodup_cons.mp hn
    have hx : x ∈ m := hs x List.mem_cons_self
    have ih := len_le (l := l) (m := m.erase x) h2 fun y hy => (List.mem_erase_of_ne (show y ≠ x from fun e => h1 (by rw [← e]; exact hy))).2 (hs y (List.mem_cons_of_mem _ hy))
    rw [List.length_erase_of_mem hx] at ih
    have := List.length_pos_of_mem hx
    rw [List.length_cons]
    omega
theorem prod_len {α β : Type} (m : List β) : ∀ l : List α, (l.flatMap fun a => m.map fun b => (a, b)).length = l.length * m.length
  | [] => by simp
  | a :: l => by
    rw [List.flatMap_cons, List.length_append, prod_len m l, List.length_map, List.length_cons, Nat.succ_mul]
    omega
theorem prod_mem {α β : Type} {l : List α} {m : List β} {a : α} {b : β} (ha : a ∈ l) (hb : b ∈ m) : (a, b) ∈ l.flatMap fun a => m.map fun b => (a, b) :=
  List.mem_flatMap.mpr ⟨a, ha, List.mem_map.mpr ⟨b, hb, rfl⟩⟩
/-- a pool of the law -/
structure IsPool (pool : W) : Prop where
  w : IsW pool
  few : pool.length ≤ 3
  le : sub pool pool4 = true
theorem IsP.to4 {pool : W} {p : Pr} (h : IsP pool p) (hp : IsPool pool) : IsP pool4 p := ⟨h.w1, h.w2, h.le, sub_trans h.up hp.le⟩
theorem pairs_few {pool : W} (hp : IsPool pool) {L : List Pr} (n : L.Nodup) (h : ∀ p ∈ L, IsP pool p) : L.length ≤ 62 := by
  have inb : ∀ p ∈ L, p ∈ (subs pool).flatMap fun a => (subs pool).map fun b => (a, b) := fun p hp' => by
    have ip := h p hp'
    exact prod_mem (a := p.1) (b := p.2) ((parts_iff hp.w).mpr ⟨ip.w1, sub_trans ip.le ip.up⟩) ((parts_iff hp.w).mpr ⟨ip.w2, ip.up⟩)
  have few := hp.few
  by_cases c : pool.length ≤ 2
  · have z := len_le n inb
    rw [prod_len, subs_len] at z
    have : 2 ^ pool.length ≤ 4 := Nat.le_trans (Nat.pow_le_pow_right (by decide) c) (by decide)
    have := Nat.mul_le_mul this this
    omega
  · have e : pool.length = 3 := by omega
    have nin : (pool, ([] : W)) ∉ L := fun hm => by
      have z := (h _ hm).le
      have y : pool = [] := by
        cases hpool : pool with
        | nil => rfl
        | cons x r =>
          rw [hpool] at z
          exact absurd (sub_mem z x List.mem_cons_self) List.not_mem_nil
      rw [y] at e
      exact absurd e (by decide)
    obtain ⟨x, r, hpool⟩ : ∃ x r, pool = x :: r := by
      cases hpool : pool with
      | nil =>
        rw [hpool] at e
        exact absurd e (by decide)
      | cons x r => exact ⟨x, r, rfl⟩
    have nin2 : ([x], ([] : W)) ∉ L := fun hm => absurd (sub_mem (h _ hm).le x (List.mem_singleton.mpr rfl)) List.not_mem_nil
    have ne2 : (pool, ([] : W)) ≠ ([x], ([] : W)) := fun z => by
      have y : pool = [x] := congrArg Prod.fst z
      rw [y] at e
      simp at e
    have z := len_le (l := (pool, ([] : W)) :: ([x], ([] : W)) :: L) (m := (subs pool).flatMap fun a => (subs pool).map fun b => (a, b)) (List.nodup_cons.mpr ⟨fun hm => (List.mem_cons.mp hm).elim ne2 nin, List.nodup_cons.mpr ⟨nin2, n⟩⟩) fun p hp' => by
      rcases List.mem_cons.mp hp' with e | hp'
      · rw [e]
        exact prod_mem (mem_subs.mpr (List.Sublist.refl _)) (mem_subs.mpr (List.nil_sublist _))
      · rcases List.mem_cons.mp hp' with e | hp'
        · rw [e]
          exact prod_mem (mem_subs.mpr (by rw [hpool]; exact (List.nil_sublist _).cons_cons x)) (mem_subs.mpr (List.nil_sublist _))
        · exact inb p hp'
    rw [prod_len, subs_len, e, List.length_cons, List.length_cons] at z
    omega
theorem lows_mem {R : List Pr} {t o : W} (h : o ∈ lows R t) : (o, t) ∈ R := by
  unfold lows at h
  obtain ⟨⟨a, b⟩, hp, rfl⟩ := List.mem_map.mp h
  obtain ⟨h1, h2⟩ := List.mem_filter.mp hp
  have e : b = t := of_decide_eq_true h2
  subst e
  exact h1
theorem why_cases {R : List Pr} {z : Str} {d : PyData} (h : whyO R z = some d) :
    (∃ p ∈ R, (p.2, p.2) ∉ R ∧ d = .tuple [.str totalS, pd p]) ∨ (∃ p ∈ R, ∃ h, (h, h) ∈ R ∧ sub p.2 h = true ∧ (p.1, h) ∉ R ∧ d = .tuple [.str upwardS, pd p, wd h]) ∨
    (∃ p ∈ R, ∃ o, (o, p.2) ∈ R ∧ (meet p.1 o, p.2) ∉ R ∧ d = .tuple [.str meetS, pd p, pd (o, p.2)]) := by
  unfold whyO at h
  cases e1 : totO R with
  | some d1 =>
    rw [e1] at h
    obtain ⟨p, hp, e⟩ := List.exists_of_findSome?_eq_some e1
    have ed : d1 = d := Option.some.inj h
    subst ed
    left
    unfold totIn at e
    by_cases c : (p.2, p.2) ∈ R
    · rw [if_pos c] at e
      exact nomatch e
    · rw [if_neg c] at e
      exact ⟨p, hp, c, (Option.some.inj e).symm⟩
  | none =>
    rw [e1] at h
    cases e2 : (if z = anyS then none else upO R) with
    | some d2 =>
      rw [e2] at h
      have ed : d2 = d := Option.some.inj h
      subst ed
      have e2' : upO R = some d2 := by
        by_cases c : z = anyS
        · rw [if_pos c] at e2
          exact nomatch e2
        · rw [if_neg c] at e2
          exact e2
      obtain ⟨p, hp, e⟩ := List.exists_of_findSome?_eq_some e2'
      obtain ⟨o, ho, e⟩ := List.exists_of_findSome?_eq_some e
      unfold upIn at e
      by_cases c : sub p.2 o = true ∧ (p.1, o) ∉ R
      · rw [if_pos c] at e
        exact .inr (.inl ⟨p, hp, o, tops_mem.mp ho, c.1, c.2, (Option.some.inj e).symm⟩)
      · rw [if_neg c] at e
        exact nomatch e
    | none =>
      rw [e2] at h
      have e3' : meO R = some d := by
        by_cases c : z = singleS
        · rw [if_pos c] at h
          exact h
        · rw [if_neg c] at h
          exact nomatch h
      obtain ⟨p, hp, e⟩ := List.exists_of_findSome?_eq_some e3'
      obtain ⟨o, ho, e⟩ := List.exists_of_findSome?_eq_some e
      unfold meIn at e
      by_cases c : (meet p.1 o, p.2) ∈ R
      · rw [if_pos c] at e
        exact nomatch e
      · rw [if_neg c] at e
        exact .inr (.inr ⟨p, hp, o, lows_mem ho, c, (Option.some.inj e).symm⟩)
theorem isW_meet {a b : W} (h : IsW a) : IsW (meet a b) := ⟨fun x hx => h.names x (List.mem_filter.mp hx).1, h.up.sublist List.filter_sublist, Nat.le_trans (List.length_filter_le _ _) h.few⟩
/-- rows of the law: an own list of pairs -/
def Own (K : PySem.W.Frag) (H : Hp) (l : Addr) (L : List Pr) : Prop := ∃ xs, H l = some (.lst xs) ∧ DpAll K H xs (L.map pd)
theorem Own.pl {K : PySem.W.Frag} {H : Hp} {l : Addr} {L : List Pr} (h : Own K H l L) : PL K H l L := by
  obtain ⟨xs, h1, h2⟩ := h
  exact ⟨xs, SqL.of h1, h2⟩
theorem Own.same {K : PySem.W.Frag} {H H' : Hp} {l : Addr} {L : List Pr} (h : Own K H l L) (e : Same H H') : Own K H' l L := by
  obtain ⟨xs, h1, h2⟩ := h
  exact ⟨xs, e _ _ h1, (Stay.same e).dpAll _ _ (okDs_pd _) h2⟩
/-- one pair more -/
theorem Own.more {K : PySem.W.Frag} {H : Hp} {l : Addr} {L : List Pr} {xs : List V} (h1 : H l = some (.lst xs)) (h2 : DpAll K H xs (L.map pd)) {t : V} {p : Pr} (ht : Dp K H t (pd p)) : Own K (upd H l (.lst (xs ++ [t]))) l (L ++ [p]) := by
  have st : Stay H (upd H l (.lst (xs ++ [t]))) := .put (by rw [h1]; exact True.intro) _
  refine ⟨_, upd_same, ?_⟩
  rw [List.map_append]
  exact dpAll_app (st.dpAll _ _ (okDs_pd _) h2) (.cons (st.pd ht) .nil)
theorem nodup_snoc {α : Type} {L : List α} {p : α} (n : L.Nodup) (h : p ∉ L) : (L ++ [p]).Nodup := List.nodup_append.mpr ⟨n, by simp, fun a ha b hb e => by
  rw [List.mem_singleton] at hb
  subst hb
  exact h (e ▸ ha)⟩
abbrev sLawClosed : Stmt := topS 35
abbrev sLawDrawn : Stmt := topS 36
theorem scLawClosed : FnScope ["rows", "sort", "turn", "why"] ["rows", "sort"] (defScope sLawClosed) := ⟨rfl, rfl, rfl, by decide +kernel, rfl, by decide +kernel, by decide +kernel⟩
theorem scLawDrawn : FnScope ["purse", "pool", "found", "few", "there", "here"] ["purse", "pool"] (defScope sLawDrawn) := ⟨rfl, rfl, rfl, by decide +kernel, rfl, by decide +kernel, by decide +kernel⟩
section
variable {P : Program} {w : World} {K : PySem.W.Frag} {mg : Str → Option Value} {base : Heap} {f : Addr} {fd : FuncData} {k : Nat}
def spLawClosed (K : PySem.W.Frag) : Sp := fun vs H Q _ => ∃ (l : Addr) (z : Str) (pool : W) (L : List Pr), vs = [.ref l, .str z] ∧ Own K H l L ∧ L.Nodup ∧ (∀ p ∈ L, IsP pool p) ∧ IsPool pool ∧
  ∀ H' l' L', Same H H' → H l' = none → Own K H' l' L' → L'.Nodup → (∀ p ∈ L', IsP pool p) → Q (.ref l') H'
theorem ok_lawClosed {f1 f2 : Addr} {fd1 fd2 : FuncData} (F : Fun K "_law_closed" "_law_closed" sLawClosed f fd) (T : Bl mg) (G1 : FnOk P w K mg base CX0 k f1 fd1 ["rows", "sort"] (spLawWhy K)) (b1 : Binds K fd1 ["rows", "sort"] []) (k1 : PySem.W.keepIn K (.ref f1) = true) (m1 : mg "_law_why" = some (.ref f1))
    (G2 : FnOk P w K mg base CX0 k f2 fd2 ["one", "other"] (spCommon K)) (b2 : Binds K fd2 ["one", "other"] []) (k2 : PySem.W.keepIn K (.ref f2) = true) (m2 : mg "_law_meet" = some (.ref f2)) :
    FnOk P w K mg base CX0 (k + 1) f fd ["rows", "sort"] (spLawClosed K) := by
  refine F.ok scLawClosed (fun vs H Q E h => ?_) (fun cdv A outer s H vs Q E hr h => ?_)
  · obtain ⟨l, z, pool, L, rfl, _⟩ := h
    rfl
  obtain ⟨l, z, pool, L, rfl, ⟨xs0, hl, hx0⟩, hn, hL, hp, q⟩ := h
  refine ⟨_, pss_cons (ps_set (i := 0) scLawClosed.nd rfl (.inl rfl) (pe_callTy call_list_of (by rfl) T.list (by decide +kernel) (pa_cons (pv 0) pa_nil)))
    (pss_cons (ps_for PassesOwn.never rfl (pi_range1 rfl T.range (pa_cons pe_int pa_nil)) (pg_name (i := 2) scLawClosed.nd rfl (.inl rfl))
      (pss_cons (ps_set (i := 3) scLawClosed.nd rfl (.inl rfl) (pe_call G1 hr (by rfl) m1 k1 b1 .nil pass0 (pa_cons (pv 0) (pa_cons (pv 1) pa_nil))))
      (pss_cons (ps_if (pt_cmpR op_isN (pv 3) pe_non (nomark _)) (pss_one (ps_ret (pv 0))) pss_nil)
      (pss_one (ps_if (pt_cmpR op_eq (pe_ix ix_tup (pv 3) pe_int (fun _ _ => rfl)) pe_str (nomark _))
        (pss_one (ps_expr (pe_bm PySem.F.plainAttrs_list PySem.F.slot_list_append PySem.F.type_list_append mt_append (pv 0) (pa_cons (pe_tup (pa_cons (pe_ix ix_tup (pe_ix ix_tup (pv 3) pe_int (fun _ _ => rfl)) pe_int (fun _ _ => rfl)) (pa_cons (pe_ix ix_tup (pe_ix ix_tup (pv 3) pe_int (fun _ _ => rfl)) pe_int (fun _ _ => rfl)) pa_nil))) pa_nil))))
        (pss_one (ps_if (pt_cmpR op_eq (pe_ix ix_tup (pv 3) pe_int (fun _ _ => rfl)) pe_str (nomark _))
          (pss_one (ps_expr (pe_bm PySem.F.plainAttrs_list PySem.F.slot_list_append PySem.F.type_list_append mt_append (pv 0) (pa_cons (pe_tup (pa_cons (pe_ix ix_tup (pe_ix ix_tup (pv 3) pe_int (fun _ _ => rfl)) pe_int (fun _ _ => rfl)) (pa_cons (pe_ix ix_tup (pv 3) pe_int (fun _ _ => rfl)) pa_nil))) pa_nil))))
          (pss_one (ps_expr (pe_bm PySem.F.plainAttrs_list PySem.F.slot_list_append PySem.F.type_list_append mt_append (pv 0) (pa_cons (pe_tup (pa_cons (pe_call G2 hr (by rfl) m2 k2 b2 .nil pass0 (pa_cons (pe_ix ix_tup (pe_ix ix_tup (pv 3) pe_int (fun _ _ => rfl)) pe_int (fun _ _ => rfl)) (pa_cons (pe_ix ix_tup (pe_ix ix_tup (pv 3) pe_int (fun _ _ => rfl)) pe_int (fun _ _ => rfl)) pa_nil))) (pa_cons (pe_ix ix_tup (pe_ix ix_tup (pv 3) pe_int (fun _ _ => rfl)) pe_int (fun _ _ => rfl)) pa_nil))) pa_nil)))))))))))
    (pss_one (ps_ret (pv 0)))), ?_⟩
  refine ⟨.ref l, rfl, l, xs0, rfl, .inl (SqL.of hl), fun l' hl' => ?_⟩
  have s0 := same_new hl' (.lst xs0)
  have hx1 : DpAll K (upd H l' (.lst xs0)) xs0 (L.map pd) := (Stay.same s0).dpAll _ _ (okDs_pd _) hx0
  refine ⟨200, rfl, by decide, by decide, for_range (n := 200) (fun i σ H1 => ∃ L' y2 y3, σ = [some (.ref l'), some (.str z), y2, y3] ∧ Same H H1 ∧ Own K H1 l' L' ∧ L'.Nodup ∧ ∀ p ∈ L', IsP pool p) ⟨L, none, none, rfl, s0, ⟨xs0, upd_same, hx1⟩, hn, hL⟩ (fun i σ H1 hi hI => ?_) (fun σ H1 hI => ?_)⟩
  · obtain ⟨L', y2, y3, rfl, sm, ⟨xs, hlx, hxs⟩, nL, iL⟩ := hI
    have fewL := pairs_few hp nL iL
    refine ⟨.ref l', rfl, .str z, rfl, l', z, L', rfl, Own.pl ⟨xs, hlx, hxs⟩, by omega, fun p hp' => (iL p hp').to4 hp, fun H2 x R s2 nR ris memR tx => ?_⟩
    have hl2 := s2 _ _ hlx
    have hx2 := (Stay.same s2).dpAll _ _ (okDs_pd _) hxs
    have sm2 := sm.trans s2
    have small : xs.length < sizeLine := small_line' (by rw [dpAll_len hxs, List.length_map]; omega)
    refine ⟨x, rfl, rfl, _, rfl, ?_⟩
    rw [told_isN tx]
    cases eo : whyO R z with
    | none => exact iteT ⟨.ref l', rfl, q H2 l' L' sm2 hl' ⟨xs, hl2, hx2⟩ nL iL⟩
    | some d =>
      rw [eo] at tx
      obtain ⟨⟨a, rfl⟩, _, hd⟩ := tx
      refine iteF ?_
      have iR : ∀ p ∈ R, IsP pool p := fun p hp' => iL p ((memR p).mp hp')
      have fin : ∀ (H3 : Hp) (t : V) (p : Pr), Same H2 H3 → Dp K H3 t (pd p) → p ∉ R → IsP pool p → ∃ L' y2 y3, ([some (.ref l'), some (.str z), some (.int (0 + (i : Int))), some (.ref a)] : L2.St) = [some (.ref l'), some (.str z), y2, y3] ∧ Same H (upd H3 l' (.lst (xs ++ [t]))) ∧ Own K (upd H3 l' (.lst (xs ++ [t]))) l' L' ∧ L'.Nodup ∧ ∀ p ∈ L', IsP pool p := by
        intro H3 t p s3 ht hn3 ip
        refine ⟨L' ++ [p], _, _, rfl, same_put (sm2.trans s3) hl', Own.more (s3 _ _ hl2) ((Stay.same s3).dpAll _ _ (okDs_pd _) hx2) ht, nodup_snoc nL fun hm => hn3 ((memR p).mpr hm), fun p' hp' => ?_⟩
        rcases List.mem_append.mp hp' with hp' | hp'
        · exact iL p' hp'
        · rw [List.mem_singleton.mp hp']
          exact ip
      rcases why_cases eo with ⟨p, hp', np, rfl⟩ | ⟨p, hp', h, hh, hs, np, rfl⟩ | ⟨p, hp', o, _, np, rfl⟩
      · have ip := iR p hp'
        cases hd with
        | tup g1 g2 =>
          cases g2 with
          | cons g3 g4 =>
            cases g3
            cases g4 with
            | cons g5 g6 =>
              cases g6
              obtain ⟨b, y, v, rfl, hP, hy, hv⟩ := of_pd g5
              refine ⟨.ref a, rfl, a, _, 0, .str totalS, rfl, rfl, g1, atI_nat (j := 0) rfl, rfl, _, rfl, iteT ?_⟩
              refine ⟨.ref l', rfl, .inl ⟨rfl, _, SqL.of hl2⟩, ?_⟩
              have rd : ∀ (j : Nat), True := fun _ => trivial
              refine ⟨.ref a, rfl, a, _, 1, .ref b, rfl, rfl, g1, atI_nat (j := 1) rfl, b, _, 1, v, rfl, rfl, hP, atI_nat (j := 1) rfl, .ref a, rfl, a, _, 1, .ref b, rfl, rfl, g1, atI_nat (j := 1) rfl, b, _, 1, v, rfl, rfl, hP, atI_nat (j := 1) rfl, by show 2 ≤ sizeLine; decide, fun t ht => ?_⟩
              have st := same_new ht (.tup [v, v])
              refine ⟨l', xs, .ref t, rfl, rfl, st _ _ hl2, small, ?_⟩
              exact fin _ _ (p.2, p.2) st (to_pd (SqT.of upd_same) ((Stay.same st).wd hv) ((Stay.same st).wd hv)) np ⟨ip.w2, ip.w2, sub_self _, ip.up⟩
      · have ip := iR p hp'
        have ih := iR _ hh
        cases hd with
        | tup g1 g2 =>
          cases g2 with
          | cons g3 g4 =>
            cases g3
            cases g4 with
            | cons g5 g6 =>
              cases g6 with
              | cons g7 g8 =>
                cases g8
                obtain ⟨b, y, v, rfl, hP, hy, hv⟩ := of_pd g5
                obtain ⟨g, rfl, _⟩ := of_wd g7
                refine ⟨.ref a, rfl, a, _, 0, .str upwardS, rfl, rfl, g1, atI_nat (j := 0) rfl, rfl, _, rfl, ite2 (fun e => absurd (V.str.inj (of_decide_eq_true e)) (by decide)) (fun _ => ?_)⟩
                refine ⟨.ref a, rfl, a, _, 0, .str upwardS, rfl, rfl, g1, atI_nat (j := 0) rfl, rfl, _, rfl, iteT ?_⟩
                refine ⟨.ref l', rfl, .inl ⟨rfl, _, SqL.of hl2⟩, ?_⟩
                refine ⟨.ref a, rfl, a, _, 1, .ref b, rfl, rfl, g1, atI_nat (j := 1) rfl, b, _, 0, y, rfl, rfl, hP, atI_nat (j := 0) rfl, .ref a, rfl, a, _, 2, _, rfl, rfl, g1, atI_nat (j := 2) rfl, by show 2 ≤ sizeLine; decide, fun t ht => ?_⟩
                have st := same_new ht (.tup [y, .ref g])
                refine ⟨l', xs, .ref t, rfl, rfl, st _ _ hl2, small, ?_⟩
                exact fin _ _ (p.1, h) st (to_pd (SqT.of upd_same) ((Stay.same st).wd hy) ((Stay.same st).wd g7)) np ⟨ip.w1, ih.w2, sub_trans ip.le hs, ih.up⟩
      · have ip := iR p hp'
        cases hd with
        | tup g1 g2 =>
          cases g2 with
          | cons g3 g4 =>
            cases g3
            cases g4 with
            | cons g5 g6 =>
              cases g6 with
              | cons g7 g8 =>
                cases g8
                obtain ⟨b, y, v, rfl, hP, hy, hv⟩ := of_pd g5
                obtain ⟨b', y', v', rfl, hP', hy', hv'⟩ := of_pd g7
                have w1l := ip.w1.few
                refine ⟨.ref a, rfl, a, _, 0, .str meetS, rfl, rfl, g1, atI_nat (j := 0) rfl, rfl, _, rfl, ite2 (fun e => absurd (V.str.inj (of_decide_eq_true e)) (by decide)) (fun _ => ?_)⟩
                refine ⟨.ref a, rfl, a, _, 0, .str meetS, rfl, rfl, g1, atI_nat (j := 0) rfl, rfl, _, rfl, ite2 (fun e => absurd (V.str.inj (of_decide_eq_true e)) (by decide)) (fun _ => ?_)⟩
                refine ⟨.ref l', rfl, .inl ⟨rfl, _, SqL.of hl2⟩, ?_⟩
                refine ⟨.ref a, rfl, a, _, 1, .ref b, rfl, rfl, g1, atI_nat (j := 1) rfl, b, _, 0, y, rfl, rfl, hP, atI_nat (j := 0) rfl, .ref a, rfl, a, _, 2, .ref b', rfl, rfl, g1, atI_nat (j := 2) rfl, b', _, 0, y', rfl, rfl, hP', atI_nat (j := 0) rfl, ?_⟩
                refine ⟨y, y', p.1, o, rfl, hy, hy', by omega, fun H3 m s3 hm => ?_⟩
                have t3 := Stay.same s3
                refine ⟨.ref a, rfl, a, _, 1, .ref b, rfl, rfl, t3.seq g1, atI_nat (j := 1) rfl, b, _, 1, v, rfl, rfl, t3.seq hP, atI_nat (j := 1) rfl, by show 2 ≤ sizeLine; decide, fun t ht => ?_⟩
                have st := same_new ht (.tup [.ref m, v])
                have s4 := s3.trans st
                refine ⟨l', xs, .ref t, rfl, rfl, s4 _ _ hl2, small, ?_⟩
                exact fin _ _ (meet p.1 o, p.2) s4 (to_pd (SqT.of upd_same) (to_wd (SqT.of (st _ _ hm))) ((Stay.same s4).wd hv)) np ⟨isW_meet ip.w1, ip.w2, sub_of fun x hx => sub_mem ip.le x (List.mem_filter.mp hx).1, ip.up⟩
  · obtain ⟨L', y2, y3, rfl, sm, ho, nL, iL⟩ := hI
    exact ⟨.ref l', rfl, q H1 l' L' sm hl' ho nL iL⟩
end
end Rw
namespace Rw
open PySem PySem.Spec PyProof.Rows L2
/-! ### what stays while a purse is drawn from -/
def Bar (p : Addr) (H H' : Hp) : Prop := ∀ b u, b ≠ p → H b = some u → H' b = some u
theorem Bar.same {p : Addr} {H H' : Hp} (h : Same H H') : Bar p H H' := fun b u _ e => h b u e
theorem Bar.trans {p : Addr} {H H1 H2 : Hp} (a : Bar p H H1) (b : Bar p H1 H2) : Bar p H H2 := fun c u n e => b c u n (a c u n e)
theorem Bar.draw {p : Addr} {H : Hp} {o : HO} : Bar p H (upd H p o) := fun b u n e => by
  rw [upd_ne n]
  exact e
theorem Bar.put {p l : Addr} {H H' : Hp} (h : Bar p H H') (n : H l = none) {o : HO} : Bar p H (upd H' l o) := fun b u nb e => by
  rw [upd_ne (ne_of_none e n)]
  exact h b u nb e
theorem Pur.mut {H : Hp} {p : Addr} {c : Int} (h : Pur H p c) : Mut (H p) := by
  obtain ⟨a, b, e, h, _⟩ := h
  rw [h]
  exact True.intro
theorem Pur.some {H : Hp} {p : Addr} {c : Int} (h : Pur H p c) {q : Addr} (n : H q = none) : q ≠ p := fun e => by
  obtain ⟨a, b, e', h, _⟩ := h
  rw [e, h] at n
  cases n
theorem Pur.same {H H' : Hp} {p : Addr} {c : Int} (h : Pur H p c) (e : Same H H') : Pur H' p c := by
  obtain ⟨a, b, e', h, g⟩ := h
  exact ⟨a, b, e', e _ _ h, g⟩
theorem Pur.put {H : Hp} {p l : Addr} {c : Int} (h : Pur H p c) (n : l ≠ p) {o : HO} : Pur (upd H l o) p c := by
  obtain ⟨a, b, e', h, g⟩ := h
  refine ⟨a, b, e', ?_, g⟩
  rw [upd_ne n.symm]
  exact h
theorem Pur.le {H : Hp} {p : Addr} {c d : Int} (h : Pur H p c) (l : c ≤ d) : Pur H p d := by
  obtain ⟨a, b, e', h, g1, g2, g3, g4, g5⟩ := h
  exact ⟨a, b, e', h, g1, g2, g3, g4, Int.le_trans g5 l⟩
theorem Bar.stay {p : Addr} {H H' : Hp} (h : Bar p H H') (m : Mut (H p)) : Stay H H' := fun b xs r => by
  have ne : b ≠ p := fun z => by
    subst z
    rcases r with r | ⟨u, r⟩
    · rw [r] at m; exact m
    · rw [r] at m; exact m
  rcases r with r | ⟨o, r⟩
  · exact .inl (h _ _ ne r)
  · exact .inr ⟨o, h _ _ ne r⟩
theorem idx_new' {α : Type} {ds : List α} (hn : ds.Nodup) {i : Nat} {d : α} (h : ds[i]? = some d) : d ∉ ds.take i := fun hm => by
  have z := take_snoc h
  have nd : (ds.take (i + 1)).Nodup := List.Nodup.sublist (List.take_sublist _ _) hn
  rw [z] at nd
  obtain ⟨_, _, h3⟩ := List.nodup_append.mp nd
  exact h3 d hm d (List.mem_singleton.mpr rfl) rfl
section
variable {P : Program} {w : World} {K : PySem.W.Frag} {mg : Str → Option Value} {base : Heap} {f : Addr} {fd : FuncData} {k : Nat}
def spLawDrawn (K : PySem.W.Frag) : Sp := fun vs H Q _ => ∃ (p : Addr) (x : V) (pool : W) (c : Int), vs = [.ref p, x] ∧ Pur H p c ∧ c ≤ 500000 ∧ Dp K H x (wd pool) ∧ IsPool pool ∧
  ∀ H' l L, Bar p H H' → H l = none → Pur H' p (c + 1000) → Own K H' l L → L.Nodup → (∀ q ∈ L, IsP pool q) → Q (.ref l) H'
theorem ok_lawDrawn {f1 f2 : Addr} {fd1 fd2 : FuncData} (F : Fun K "_law_drawn" "_law_drawn" sLawDrawn f fd) (T : Bl mg) (G1 : FnOk P w K mg base CX0 k f1 fd1 ["purse", "out_of"] spLawDraw) (b1 : Binds K fd1 ["purse", "out_of"] []) (k1 : PySem.W.keepIn K (.ref f1) = true) (m1 : mg "_law_draw" = some (.ref f1))
    (G2 : FnOk P w K mg base CX0 k f2 fd2 ["pool"] (spLawParts K)) (b2 : Binds K fd2 ["pool"] []) (k2 : PySem.W.keepIn K (.ref f2) = true) (m2 : mg "_law_parts" = some (.ref f2)) :
    FnOk P w K mg base CX0 (k + 1) f fd ["purse", "pool"] (spLawDrawn K) := by
  refine F.ok scLawDrawn (fun vs H Q E h => ?_) (fun cdv A outer s H vs Q E hr h => ?_)
  · obtain ⟨p, x, pool, c, rfl, _⟩ := h
    rfl
  obtain ⟨p, x, pool, c, rfl, hP, hc, hx, hpl, q⟩ := h
  refine ⟨_, pss_cons (ps_set (i := 2) scLawDrawn.nd rfl (.inl rfl) (pe_lst pa_nil))
    (pss_cons (ps_set (i := 3) scLawDrawn.nd rfl (.inl rfl) (pe_op op_add pe_int (pe_call G1 hr (by rfl) m1 k1 b1 .nil pass0 (pa_cons (pv 0) (pa_cons pe_int pa_nil)))))
    (pss_cons (ps_for PassesOwn.never rfl (pi_list (pe_call G2 hr (by rfl) m2 k2 b2 .nil pass0 (pa_cons (pv 1) pa_nil))) (pg_name (i := 4) scLawDrawn.nd rfl (.inl rfl))
      (pss_one (ps_for PassesOwn.never rfl (pi_list (pe_call G2 hr (by rfl) m2 k2 b2 .nil pass0 (pa_cons (pv 4) pa_nil))) (pg_name (i := 5) scLawDrawn.nd rfl (.inl rfl))
        (pss_one (ps_if (pt_cmpR op_lt (pe_call G1 hr (by rfl) m1 k1 b1 .nil pass0 (pa_cons (pv 0) (pa_cons pe_int pa_nil))) (pe_op op_sub (pe_op op_sub (pv 3) pe_int) (pe_callTy call_int1 (by rfl) T.int (by decide +kernel) (pa_cons (pe_cmpR (op_neD hr.units) (pv 5) (pv 4) (nomark _)) pa_nil))) (nomark _))
          (pss_one (ps_expr (pe_bm PySem.F.plainAttrs_list PySem.F.slot_list_append PySem.F.type_list_append mt_append (pv 2) (pa_cons (pe_tup (pa_cons (pv 5) (pa_cons (pv 4) pa_nil))) pa_nil)))) pss_nil)))))
    (pss_one (ps_ret (pv 2))))), ?_⟩
  refine ⟨Nat.zero_le _, fun l hl => ?_⟩
  have s0 := same_new hl (.lst [])
  have nlp := hP.some hl
  refine ⟨.ref p, rfl, p, 6, c, rfl, hP.same s0, by omega, by decide, by decide, fun r us r0 r1 hP1 => ?_⟩
  refine ⟨_, _, rfl, rfl, ?_⟩
  have bar1 : Bar p H (upd (upd H l (.lst [])) p (.lst us)) := (Bar.same s0).trans .draw
  have hl1 : (upd (upd H l (.lst [])) p (.lst us)) l = some (.lst []) := by
    rw [upd_ne nlp, upd_same]
  refine ⟨x, rfl, x, pool, rfl, (bar1.stay hP.mut).wd hx, Nat.le_trans hpl.few (by decide), fun HS l2 S s2 nl2 hW perm ris => ?_⟩
  obtain ⟨ys, hl2, hys⟩ := hW
  have yl : ys.length = S.length := by rw [dpAll_len hys, List.length_map]
  have nl2p : l2 ≠ p := hP1.some nl2
  have nl2l : l2 ≠ l := fun e => by
    rw [e, hl1] at nl2
    cases nl2
  have nS : S.Nodup := perm.nodup_iff.mpr (subs_nodup (upX_nodup hpl.w.up))
  have lS : S.length ≤ 8 := by
    rw [perm.length_eq, subs_len]
    exact Nat.le_trans (Nat.pow_le_pow_right (by decide) hpl.few) (by decide)
  refine ⟨l2, rfl, ⟨_, SqL.of hl2⟩, for_list (xs := ys) (fun i σ H1 => ∃ y4 y5, σ = [some (.ref p), some x, some (.ref l), some (.int (1 + r)), y4, y5] ∧ Bar p H H1 ∧ Stay HS H1 ∧ Pur H1 p (c + 1 + 16 * i) ∧ H1 l2 = some (.lst ys) ∧ ∃ L, Own K H1 l L ∧ L.Nodup ∧ ∀ q ∈ L, IsP pool q ∧ q.2 ∈ S.take i)
    ⟨none, none, rfl, bar1.trans (.same s2), .refl _, (hP1.same s2).le (by omega), hl2, [], ⟨[], s2 _ _ hl1, .nil⟩, List.nodup_nil, fun _ z => nomatch z⟩ (fun i σ H1 _ hI => by obtain ⟨_, _, _, _, _, _, h, _⟩ := hI; exact SqL.of h) (fun i u σ H1 hu hI => ?_) (fun σ H1 hI => ?_)⟩
  · obtain ⟨y4, y5, rfl, bar, sty, pu, hl2', L, ho, nL, iL⟩ := hI
    obtain ⟨du, hdu, hud⟩ := dpAll_at' hys hu
    obtain ⟨t, ht, rfl⟩ := map_at hdu
    obtain ⟨wt, lt⟩ := (parts_iff hpl.w).mp (perm.mem_iff.mp (List.mem_of_getElem? ht))
    have tl : t.length ≤ 3 := Nat.le_trans (mem_subs.mp (perm.mem_iff.mp (List.mem_of_getElem? ht))).length_le hpl.few
    have il : i < S.length := (List.getElem?_eq_some_iff.mp ht).1
    refine ⟨u, rfl, u, t, rfl, sty.wd hud, by omega, fun HT l3 S' s3 nl3 hW3 perm3 ris3 => ?_⟩
    obtain ⟨ys3, hl3, hys3⟩ := hW3
    have yl3 : ys3.length = S'.length := by rw [dpAll_len hys3, List.length_map]
    have nl3p : l3 ≠ p := pu.some nl3
    have nl3l2 : l3 ≠ l2 := fun e => by
      rw [e, hl2'] at nl3
      cases nl3
    have nl3l : l3 ≠ l := fun e => by
      obtain ⟨xs, ho, _⟩ := ho
      rw [e, ho] at nl3
      cases nl3
    have nS3 : S'.Nodup := perm3.nodup_iff.mpr (subs_nodup (upX_nodup wt.up))
    have lS3 : S'.length ≤ 8 := by
      rw [perm3.length_eq, subs_len]
      exact Nat.le_trans (Nat.pow_le_pow_right (by decide) tl) (by decide)
    refine ⟨l3, rfl, ⟨_, SqL.of hl3⟩, for_list (xs := ys3) (fun j σ H3 => ∃ y5, σ = [some (.ref p), some x, some (.ref l), some (.int (1 + r)), some u, y5] ∧ Bar p H H3 ∧ Stay HS H3 ∧ Stay HT H3 ∧ Pur H3 p (c + 1 + 16 * i + j) ∧ H3 l2 = some (.lst ys) ∧ H3 l3 = some (.lst ys3) ∧
        ∃ L, Own K H3 l L ∧ L.Nodup ∧ ∀ q ∈ L, IsP pool q ∧ (q.2 ∈ S.take i ∨ (q.2 = t ∧ q.1 ∈ S'.take j)))
      ⟨_, rfl, bar.trans (.same s3), sty.trans (.same s3), .refl _, (pu.same s3).le (by omega), s3 _ _ hl2', hl3, L, ho.same s3, nL, fun q hq => ⟨(iL q hq).1, .inl (iL q hq).2⟩⟩ (fun j σ H3 _ hI => by obtain ⟨_, _, _, _, _, _, _, h, _⟩ := hI; exact SqL.of h) (fun j v σ H3 hv hI => ?_) (fun σ H3 hI => ?_)⟩
    · obtain ⟨y5, rfl, bar3, st3, stT, pu3, h32, h33, L3, ⟨xs3, ho3, hx3⟩, nL3, iL3⟩ := hI
      obtain ⟨dv, hdv, hvd⟩ := dpAll_at' hys3 hv
      obtain ⟨h, hh, rfl⟩ := map_at hdv
      obtain ⟨wh, lh⟩ := (parts_iff wt).mp (perm3.mem_iff.mp (List.mem_of_getElem? hh))
      have jl : j < S'.length := (List.getElem?_eq_some_iff.mp hh).1
      refine ⟨.ref p, rfl, p, 6, _, rfl, pu3, by omega, by decide, by decide, fun r' us' r0' r1' pu4 => ?_⟩
      have st4 : Stay H3 (upd H3 p (.lst us')) := .put pu3.mut _
      have bar4 : Bar p H (upd H3 p (.lst us')) := bar3.trans .draw
      have hv4 := (stT.trans st4).wd hvd
      have hu4 := (st3.trans st4).wd hud
      have ho4 : (upd H3 p (.lst us')) l = some (.lst xs3) := by
        rw [upd_ne nlp]
        exact ho3
      have h42 : (upd H3 p (.lst us')) l2 = some (.lst ys) := by
        rw [upd_ne nl2p]
        exact h32
      have h43 : (upd H3 p (.lst us')) l3 = some (.lst ys3) := by
        rw [upd_ne nl3p]
        exact h33
      have hx4 := st4.dpAll _ _ (okDs_pd _) hx3
      refine ⟨_, rfl, _, _, rfl, rfl, v, rfl, u, rfl, wd h, wd t, hv4, hu4, shaped_wd wh, shaped_wd wt, .inr ⟨_, rfl, _, _, rfl, rfl, _, _, rfl, rfl, _, rfl, ite2 (fun _ => ?_) (fun _ => ?_)⟩⟩
      · refine ⟨.ref l, rfl, .inl ⟨rfl, _, SqL.of ho4⟩, v, rfl, u, rfl, by show 2 ≤ sizeLine; decide, fun b hb => ?_⟩
        have sb := same_new hb (.tup [v, u])
        have fewL := pairs_few hpl nL3 fun q hq => (iL3 q hq).1
        have nbl : b ≠ l := fun e => by
          rw [e, ho4] at hb
          cases hb
        have ho5 := sb _ _ ho4
        refine ⟨l, xs3, .ref b, rfl, rfl, ho5, small_line' (by rw [dpAll_len hx3, List.length_map]; omega), ?_⟩
        have st5 : Stay (upd H3 p (.lst us')) (upd (upd (upd H3 p (.lst us')) b (.tup [v, u])) l (.lst (xs3 ++ [.ref b]))) := (Stay.same sb).trans (.put (by rw [ho5]; exact True.intro) _)
        refine ⟨_, rfl, (bar4.trans (.same sb)).put hl, st3.trans (st4.trans st5), stT.trans (st4.trans st5), ((pu4.same sb).put nlp).le (by omega), ?_, ?_, L3 ++ [(h, t)], ?_, nodup_snoc nL3 fun hm => ?_, fun q hq => ?_⟩
        · rw [upd_ne nl2l]
          exact sb _ _ h42
        · rw [upd_ne nl3l]
          exact sb _ _ h43
        · exact Own.more ho5 ((Stay.same sb).dpAll _ _ (okDs_pd _) hx4) (to_pd (p := (h, t)) (SqT.of upd_same) ((Stay.same sb).wd hv4) ((Stay.same sb).wd hu4))
        · rcases (iL3 _ hm).2 with z | ⟨_, z⟩
          · exact idx_new' nS ht z
          · exact idx_new' nS3 hh z
        · rcases List.mem_append.mp hq with hq | hq
          · obtain ⟨z1, z2⟩ := iL3 q hq
            refine ⟨z1, z2.elim .inl fun ⟨e, m⟩ => .inr ⟨e, ?_⟩⟩
            rw [take_snoc hh]
            exact List.mem_append_left _ m
          · rw [List.mem_singleton.mp hq]
            refine ⟨⟨wh, wt, lh, lt⟩, .inr ⟨rfl, ?_⟩⟩
            rw [take_snoc hh]
            exact List.mem_append_right _ (List.mem_singleton.mpr rfl)
      · refine ⟨_, rfl, bar4, st3.trans st4, stT.trans st4, pu4.le (by omega), h42, h43, L3, ⟨xs3, ho4, hx4⟩, nL3, fun q hq => ?_⟩
        obtain ⟨z1, z2⟩ := iL3 q hq
        refine ⟨z1, z2.elim .inl fun ⟨e, m⟩ => .inr ⟨e, ?_⟩⟩
        rw [take_snoc hh]
        exact List.mem_append_left _ m
    · obtain ⟨y5, rfl, bar3, st3, stT, pu3, h32, h33, L3, ho3, nL3, iL3⟩ := hI
      refine ⟨_, _, rfl, bar3, st3, pu3.le (by rw [yl3]; omega), h32, L3, ho3, nL3, fun q hq => ?_⟩
      obtain ⟨z1, z2⟩ := iL3 q hq
      refine ⟨z1, ?_⟩
      rw [take_snoc ht]
      rcases z2 with z2 | ⟨e, _⟩
      · exact List.mem_append_left _ z2
      · exact List.mem_append_right _ (List.mem_singleton.mpr e)
  · obtain ⟨y4, y5, rfl, bar, sty, pu, hl2', L, ho, nL, iL⟩ := hI
    exact ⟨.ref l, rfl, q H1 l L bar hl (pu.le (by rw [yl]; omega)) ho nL fun q hq => (iL q hq).1⟩
end
end Rw
namespace Rw
open PySem PySem.Spec PyProof.Rows L2
/-! ### a call by the arguments' names alone; a block cut in two -/
theorem evalArgs_kw0 {M : Model} {A : Around} {E : Value → Shared → Prop} {s : Shared} {f : Value} {kwl : List (Option Str × Sem Value)} {Q : Args → Shared → Prop} (hall : (kwl.all fun x => x.1.isSome) = true)
    (h : wpAny M A (evalAll (kwl.map fun x => x.2)) (fun ks s₂ => Q { pos := [], kw := (kwl.filterMap fun x => x.1).zip ks } s₂) E s) : wpAny M A (evalArgs f true [] kwl) Q E s := by
  unfold evalArgs
  refine wpAny_bind (Calls.spliced_nil ?_)
  refine wpAny_bind (wpAny_pure ?_)
  refine wpAny_holding ?_
  rw [if_pos hall]
  refine wpAny_bind (wpAny_mono h (fun ks s2 q => ?_) fun _ _ e => e)
  exact wpAny_bind (wpAny_pure (wpAny_pure q))
theorem pe_callK0 {X : Cx} {CX : CXT} {k : Nat} {f : Addr} {fd : FuncData} {ps ks : List Str} {sp : Sp} {E : XK} {x : Str} {p pos : Pos} {kws : List Keyword} {tk : TA} {g : List Value → List Value → List Value} {gV : List V → List V → List V}
    (F : FnOk X.prog X.w X.K X.mg X.base CX k f fd ps sp) (hr : Room k X.A) (hg : Gl X x) (hm : X.mg x = some (.ref f)) (hk : PySem.W.keepIn X.K (.ref f) = true) (hb : KBn X.K fd ps 0 ks g gV) (hx : Passes CX X E) (hkw : PK X kws tk)
    (hall : ((backToKw pos (keywordEach kws X.env)).all fun x => x.1.isSome) = true) (hks : (backToKw pos (keywordEach kws X.env)).filterMap (fun x => x.1) = ks) (hdb : (x == ("__debug__" : Str)) = false)
    (hpl : ((([] : List (Bool × Sem Value)).any fun x => x.1) || (backToKw pos (keywordEach kws X.env)).any fun x => x.1.isNone) = false) (hst : backTo pos (starEach [] X.env) = []) :
    PE X (.Call (.Name x p) [] kws pos) (fun σ H Q => tk σ H fun zs H1 => zs.length = ks.length ∧ sp (gV [] zs) H1 Q E) := by
  refine ⟨fun pins s σ H Q I h => wpAny_Call_Name_kw (ld_glob I hg hm ?_ hdb)⟩
  rw [hst]
  refine PySem.W.callWith_of hpl (PySem.W.keeps_K hk) (evalArgs_kw0 hall (thn (hkw.run pos pins s σ H (fun zs H1 => zs.length = ks.length ∧ sp (gV [] zs) H1 Q E) I h) fun ws s2 ⟨zs, H2, I2, rz, l2, q2⟩ => ⟨Inv.kIn I2, ?_⟩))
  rw [hks]
  exact run_fnN F hr hb hx I2 .nil rz rfl l2 q2
def tMid (t u : TS) : TS := fun D σ H => ∃ I : L2.St → Hp → Prop, t { nx := I, rt := D.rt, bk := D.bk, ct := D.ct } σ H ∧ ∀ σ' H', I σ' H' → u D σ' H'
/-- the first statement up to a mark of one's own, then the rest from it -/
theorem pss_mid {X : Cx} {st : Stmt} {rest : List Stmt} {t u : TS} (h1 : PS X st t) (h2 : PSs X rest u) : PSs X (st :: rest) (tMid t u) := by
  refine ⟨fun pins s σ H D I ⟨J, a, b⟩ => ?_⟩
  refine wpAny_execs_cons (thn (h1.run pins s σ H _ I a) fun f s1 q => ?_)
  cases f with
  | next =>
    obtain ⟨σ', H', I', q⟩ := q
    exact h2.run pins s1 σ' H' D I' (b σ' H' q)
  | brk => exact q
  | cont => exact q
  | ret v => exact q
/-- a def with defaults, called by names -/
theorem kbn_def {K : PySem.W.Frag} {x qual : Str} {params : Arguments} {body : List Stmt} {scope : Scope} {dvs : List V} {kws : List (Str × V)} {f : Addr} {fd : FuncData} {ps : List Str} (F : FunD K x qual params body scope dvs kws f fd) (hd : dvs ≠ []) (n : Nat) (ks : List Str) (g : List Value → List Value → List Value → List Value) (gV : List V → List V → List V)
    (h : ∀ (T : Addr) (kV doc pm : Value) (an : Option Addr) (cdv ct : Value) (us its ws : List Value), us.length = n → its.length = dvs.length → ws.length = ks.length → ∃ k, bindArgs (PySem.W.fnOf x qual params body scope (.ref T) kV doc pm an cdv ct) { pos := us, kw := ks.zip ws } = seqItems? (.ref T) >>= k ∧ k (some its.toArray) = pure (ps.zip (g us its ws)))
    (rel : ∀ {vs : List V} {us its : List Value} {zs : List V} {ws : List Value}, Vals vs us → Vals dvs its → Vals zs ws → Vals (gV vs zs) (g us its ws)) : ∃ its, Vals dvs its ∧ KBn K fd ps n ks (fun us ws => g us its ws) gV := by
  obtain ⟨oc, od, dV, kV, doc, pm, an, cdv, ct, osl, rfl, lk, hcd, hD, hK⟩ := F.ex
  rcases hD with ⟨e, _⟩ | ⟨_, T, o, its, m, rfl, lT, oT, rT⟩
  · exact absurd e hd
  · refine ⟨its, rT, ⟨fun s us ws X l1 l2 => ?_, fun a b => rel a rT b⟩⟩
    intro M A E Q q
    obtain ⟨k, e1, e2⟩ := h T kV doc pm an cdv ct us its ws l1 rT.length.symm l2
    rw [e1]
    refine wpAny_bind (wpAny_seqItems (X T o lT) oT ?_)
    rw [e2]
    exact wpAny_pure q
end Rw
namespace Rw
open PySem PySem.Spec PyProof.Rows L2
abbrev sLaw : Stmt := topS 37
theorem scLaw : FnScope ["script", "at", "purse", "turn", "pool", "rows", "way", "held", "sort", "due"] ["script"] (defScope sLaw) := ⟨rfl, rfl, rfl, by decide +kernel, rfl, by decide +kernel, by decide +kernel⟩
/-- what is told, as data -/
abbrev dat (o : Option PyData) : PyData := o.getD .none
theorem told_dp {K : PySem.W.Frag} {H : Hp} {x : V} {o : Option PyData} (h : Told K H x o) : Dp K H x (dat o) := by
  cases o with
  | none =>
    rw [show x = V.non from h]
    exact .non
  | some d => exact h.2.2
theorem shaped_of {d : PyData} (h : d.canLay0 = true) (n : d.depth ≤ 64) : SeqAt.shaped d = true := by
  unfold SeqAt.shaped
  rw [h, decide_eq_true n]
  rfl
theorem shaped_why {R : List Pr} (z : Str) (h : ∀ p ∈ R, IsW p.1 ∧ IsW p.2) : SeqAt.shaped (dat (whyO R z)) = true := by
  cases e : whyO R z with
  | none => decide
  | some d =>
    show SeqAt.shaped d = true
    rcases why_cases e with ⟨p, hp, _, rfl⟩ | ⟨p, hp, o, ho, _, _, rfl⟩ | ⟨p, hp, o, ho, _, rfl⟩
    · have l1 := lay_pd (h p hp).1 (h p hp).2
      have l0 : (PyData.str totalS).canLay0 = true := by decide +kernel
      refine shaped_of ?_ ?_
      · simp only [PyData.canLay0, PyData.canLayAll0] at l0 ⊢
        simp only [l0, l1]
        rfl
      · simp [PyData.depth, PyData.depthAll, depth_pd]
    · have l1 := lay_pd (h p hp).1 (h p hp).2
      have l2 := lay_wd (h _ ho).2.names
      have l0 : (PyData.str upwardS).canLay0 = true := by decide +kernel
      refine shaped_of ?_ ?_
      · simp only [PyData.canLay0, PyData.canLayAll0] at l0 ⊢
        simp only [l0, l1, l2]
        rfl
      · simp [PyData.depth, PyData.depthAll, depth_pd, depth_wd]
    · have l1 := lay_pd (h p hp).1 (h p hp).2
      have l2 := lay_pd (p := (o, p.2)) (h _ ho).1 (h _ ho).2
      have l0 : (PyData.str meetS).canLay0 = true := by decide +kernel
      refine shaped_of ?_ ?_
      · simp only [PyData.canLay0, PyData.canLayAll0] at l0 ⊢
        simp only [l0, l1, l2]
        rfl
      · simp [PyData.depth, PyData.depthAll, depth_pd]
theorem eqv_self {d : PyData} (h : SeqAt.shaped d = true) : PyData.eqv d d = true := by
  unfold SeqAt.shaped at h
  rw [Bool.and_eq_true] at h
  exact SeqAt.eqv_refl d h.1
theorem dpAll_drop {K : PySem.W.Frag} {H : Hp} : ∀ {xs : List V} {ds : List PyData} (n : Nat), DpAll K H xs ds → DpAll K H (xs.drop n) (ds.drop n)
  | _, _, 0, h => h
  | _, _, _ + 1, .nil => .nil
  | _, _, n + 1, .cons _ t => dpAll_drop n t
theorem dpAll_take {K : PySem.W.Frag} {H : Hp} : ∀ {xs : List V} {ds : List PyData} (n : Nat), DpAll K H xs ds → DpAll K H (xs.take n) (ds.take n)
  | _, _, 0, _ => by
    rw [List.take_zero, List.take_zero]
    exact .nil
  | _, _, _ + 1, .nil => .nil
  | _, _, n + 1, .cons h t => .cons h (dpAll_take n t)
theorem dpAll_rev {K : PySem.W.Frag} {H : Hp} : ∀ {xs : List V} {ds : List PyData}, DpAll K H xs ds → DpAll K H xs.reverse ds.reverse
  | _, _, .nil => .nil
  | _, _, .cons h t => by
    rw [List.reverse_cons, List.reverse_cons]
    exact dpAll_app (dpAll_rev t) (.cons h .nil)
theorem dpAll_erase {K : PySem.W.Frag} {H : Hp} : ∀ {xs : List V} {ds : List PyData} (n : Nat), DpAll K H xs ds → DpAll K H (xs.eraseIdx n) (ds.eraseIdx n)
  | _, _, 0, .cons _ t => t
  | _, _, _ + 1, .cons h t => .cons h (dpAll_erase _ t)
  | _, _, _, .nil => .nil
theorem map_erase {α β : Type} (f : α → β) : ∀ (l : List α) (n : Nat), (l.map f).eraseIdx n = (l.eraseIdx n).map f
  | [], _ => rfl
  | _ :: _, 0 => rfl
  | a :: l, n + 1 => congrArg (f a :: ·) (map_erase f l n)
theorem Own.draw {K : PySem.W.Frag} {H : Hp} {p l : Addr} {L : List Pr} {o : HO} (h : Own K H l L) (n : l ≠ p) (m : Mut (H p)) : Own K (upd H p o) l L := by
  obtain ⟨xs, h1, h2⟩ := h
  refine ⟨xs, ?_, (Stay.put m o).dpAll _ _ (okDs_pd _) h2⟩
  rw [upd_ne n]
  exact h1
theorem Own.ps {K : PySem.W.Frag} {H : Hp} {l : Addr} {L : List Pr} (h : Own K H l L) : PS2 K H l L := by
  obtain ⟨xs, h1, h2⟩ := h
  exact ⟨xs, .inl (SqL.of h1), h2⟩
theorem none_bar {p l : Addr} {H H' : Hp} {c : Int} (b : Bar p H H') (pu : Pur H' p c) (n : H' l = none) : H l = none := by
  have ne := pu.some n
  cases e : H l with
  | none => rfl
  | some u =>
    rw [b l u ne e] at n
    cases n
theorem pools (j : Nat) (h : j < 5) : ∃ pool : W, ([[], [("a" : Str)], [("a" : Str), ("ab" : Str)], [("a" : Str), ("ab" : Str), ("b" : Str)], [("a" : Str), ("ab" : Str), ("b" : Str)]] : List W)[j]? = some pool ∧ IsPool pool := by
  have all : ∀ t : W, t.Sublist [("a" : Str), ("ab" : Str), ("b" : Str)] → IsPool t := fun t s => by
    have s4 : t.Sublist pool4 := s.trans (by unfold pool4; exact (List.Sublist.refl _).cons_cons _ |>.trans (by decide))
    have z := (parts_iff isW_pool4).mp (mem_subs.mpr s4)
    exact ⟨z.1, s.length_le, z.2⟩
  match j, h with
  | 0, _ => exact ⟨_, rfl, all _ (List.nil_sublist _)⟩
  | 1, _ => exact ⟨_, rfl, all _ (by decide)⟩
  | 2, _ => exact ⟨_, rfl, all _ (by decide)⟩
  | 3, _ => exact ⟨_, rfl, all _ (List.Sublist.refl _)⟩
  | 4, _ => exact ⟨_, rfl, all _ (List.Sublist.refl _)⟩
section
variable {P : Program} {w : World} {K : PySem.W.Frag} {mg : Str → Option Value} {base : Heap} {f : Addr} {fd : FuncData} {k : Nat}
def spLaw (K : PySem.W.Frag) : Sp := fun vs H Q _ => ∃ (a : Addr) (ns : List Int), vs = [.ref a] ∧ SqL K H a (ns.map V.int) ∧ ns.length ≤ 63 ∧ ∀ H', Q (.bl true) H'
theorem ok_law {f1 f2 f3 f4 f5 f6 : Addr} {fd1 fd2 fd3 fd4 fd5 fd6 : FuncData} {dv dv' : Value} (F : Fun K "law" "law" sLaw f fd) (T : Bl mg)
    (G1 : FnOk P w K mg base CX0 k f1 fd1 ["script", "at"] (spLawPurse K)) (b1 : Binds K fd1 ["script", "at"] []) (k1 : PySem.W.keepIn K (.ref f1) = true) (m1 : mg "_law_purse" = some (.ref f1))
    (G2 : FnOk P w K mg base CX0 k f2 fd2 ["purse", "out_of"] spLawDraw) (b2 : Binds K fd2 ["purse", "out_of"] []) (k2 : PySem.W.keepIn K (.ref f2) = true) (m2 : mg "_law_draw" = some (.ref f2))
    (G3 : FnOk P w K mg base CX0 k f3 fd3 ["purse", "pool"] (spLawDrawn K)) (b3 : Binds K fd3 ["purse", "pool"] []) (k3 : PySem.W.keepIn K (.ref f3) = true) (m3 : mg "_law_drawn" = some (.ref f3))
    (G4 : FnOk P w K mg base CX0 k f4 fd4 ["rows", "sort"] (spLawClosed K)) (b4 : Binds K fd4 ["rows", "sort"] []) (k4 : PySem.W.keepIn K (.ref f4) = true) (m4 : mg "_law_closed" = some (.ref f4))
    (G5 : FnOk P w K mg base CX0 k f5 fd5 ["rows", "sort"] (spLawWhy K)) (b5 : Binds K fd5 ["rows", "sort"] []) (k5 : PySem.W.keepIn K (.ref f5) = true) (m5 : mg "_law_why" = some (.ref f5))
    (G6 : FnOk P w K mg base CX0 k f6 fd6 ["pairs", "names", "kind"] (spBarred K)) (b6 : Binds K fd6 ["pairs", "names", "kind"] []) (b6d : Binds K fd6 ["pairs", "names", "kind"] [dv]) (rdv : RelV (.str anyS) dv)
    (kb1 : KBn K fd6 ["pairs", "names", "kind"] 0 ["pairs", "names"] (fun _ ws => ws ++ [dv']) (fun _ zs => zs ++ [.str anyS])) (kb2 : KBn K fd6 ["pairs", "names", "kind"] 2 ["kind"] (fun us ws => us ++ ws) (fun vs zs => vs ++ zs)) (k6 : PySem.W.keepIn K (.ref f6) = true) (m6 : mg "barred" = some (.ref f6)) :
    FnOk P w K mg base CX0 (k + 1) f fd ["script"] (spLaw K) := by
  refine F.ok scLaw (fun vs H Q E h => ?_) (fun cdv A outer s H vs Q E hr h => ?_)
  · obtain ⟨a, ns, rfl, _⟩ := h
    rfl
  obtain ⟨a, ns, rfl, hS, hl, q⟩ := h
  refine ⟨_, pss_cons (ps_for PassesOwn.never rfl (pi_range1 rfl T.range (pa_cons (pe_op op_add pe_int (pe_callB (call_min2 rfl) (by rfl) T.min (by decide +kernel) (pa_cons pe_int (pa_cons (pe_callB call_len_seq (by rfl) T.len PySem.boot_len (pa_cons (pv 0) pa_nil)) pa_nil)))) pa_nil)) (pg_name (i := 1) scLaw.nd rfl (.inl rfl))
      (pss_cons (ps_set (i := 2) scLaw.nd rfl (.inl rfl) (pe_call G1 hr (by rfl) m1 k1 b1 .nil pass0 (pa_cons (pv 0) (pa_cons (pv 1) pa_nil))))
      (pss_one (ps_for PassesOwn.never rfl (pi_range1 rfl T.range (pa_cons pe_int pa_nil)) (pg_name (i := 3) scLaw.nd rfl (.inl rfl))
        (pss_cons (ps_set (i := 4) scLaw.nd rfl (.inl rfl) (pe_ix ix_list (pe_lst (pa_cons (pe_tup pa_nil) (pa_cons (pe_tup (pa_cons pe_str pa_nil)) (pa_cons (pe_tup (pa_cons pe_str (pa_cons pe_str pa_nil))) (pa_cons (pe_tup (pa_cons pe_str (pa_cons pe_str (pa_cons pe_str pa_nil)))) (pa_cons (pe_tup (pa_cons pe_str (pa_cons pe_str (pa_cons pe_str pa_nil)))) pa_nil)))))) (pe_call G2 hr (by rfl) m2 k2 b2 .nil pass0 (pa_cons (pv 2) (pa_cons pe_int pa_nil))) (fun _ _ => rfl)))
        (pss_cons (ps_set (i := 5) scLaw.nd rfl (.inl rfl) (pe_call G3 hr (by rfl) m3 k3 b3 .nil pass0 (pa_cons (pv 2) (pa_cons (pv 4) pa_nil))))
        (pss_cons (ps_set (i := 6) scLaw.nd rfl (.inl rfl) (pe_call G2 hr (by rfl) m2 k2 b2 .nil pass0 (pa_cons (pv 2) (pa_cons pe_int pa_nil))))
        (pss_mid (ps_if (pt_cmpR op_lt (pv 6) pe_int (nomark _)) (pss_one (ps_set (i := 5) scLaw.nd rfl (.inl rfl) (pe_call G4 hr (by rfl) m4 k4 b4 .nil pass0 (pa_cons (pv 5) (pa_cons (pe_ix ix_list (pe_lst (pa_cons pe_str (pa_cons pe_str (pa_cons pe_str pa_nil)))) (pv 6) (fun _ _ => rfl)) pa_nil))))) pss_nil)
        (pss_mid (ps_if (PW.pt (pw_and (pt_cmpR (op_neD hr.units) (pv 5) (pe_lst pa_nil) (nomark _)) (pw_and1 (pt_cmpR op_eq (pe_call G2 hr (by rfl) m2 k2 b2 .nil pass0 (pa_cons (pv 2) (pa_cons pe_int pa_nil))) pe_int (nomark _)))))
            (pss_one (ps_expr (pe_bm PySem.F.plainAttrs_list PySem.F.slot_list_pop PySem.F.type_list_pop mt_popAt (pv 5) (pa_cons (pe_call G2 hr (by rfl) m2 k2 b2 .nil pass0 (pa_cons (pv 2) (pa_cons (pe_callB call_len_seq (by rfl) T.len PySem.boot_len (pa_cons (pv 5) pa_nil)) pa_nil))) pa_nil)))) pss_nil)
        (pss_cons (ps_set (i := 5) scLaw.nd rfl (.inl rfl) (pe_op op_cat (pe_revL (pv 5)) (pe_slice sl_list (pv 5) po_none (po_some (pe_call G2 hr (by rfl) m2 k2 b2 .nil pass0 (pa_cons (pv 2) (pa_cons pe_int pa_nil)))))))
        (pss_cons (ps_set (i := 7) scLaw.nd rfl (.inl rfl) (pe_callTy call_list_of (by rfl) T.list (by decide +kernel) (pa_cons (pv 5) pa_nil)))
        (pss_cons (ps_for PassesOwn.never rfl (pi_tup (pe_tup (pa_cons pe_str (pa_cons pe_str (pa_cons pe_str pa_nil))))) (pg_name (i := 8) scLaw.nd rfl (.inl rfl))
          (pss_cons (ps_set (i := 9) scLaw.nd rfl (.inl rfl) (pe_call G5 hr (by rfl) m5 k5 b5 .nil pass0 (pa_cons (pv 5) (pa_cons (pv 8) pa_nil))))
          (pss_one (ps_if (PW.pt (pw_or (pt_cmpR (op_neD hr.units) (pe_call G6 hr (by rfl) m6 k6 b6 .nil pass0 (pa_cons (pv 5) (pa_cons (pv 4) (pa_cons (pv 8) pa_nil)))) (pv 9) (nomark _))
            (pw_or (pt_cmpR (op_neD hr.units) (pe_call G6 hr (by rfl) m6 k6 b6 .nil pass0 (pa_cons (pe_callTy call_tuple_of (by rfl) T.tuple (by decide +kernel) (pa_cons (pv 5) pa_nil)) (pa_cons (pv 4) (pa_cons (pv 8) pa_nil)))) (pv 9) (nomark _))
            (pw_or1 (pt_cmpR (op_neD hr.units) (pv 5) (pv 7) (nomark _)))))) pss_never pss_nil))))
        (pss_cons (ps_if (pt_cmpR (op_neD hr.units) (pe_callK0 G6 hr (by rfl) m6 k6 kb1 pass0 (pk_cons (pv 5) (pk_cons (pv 4) pk_nil)) (by rfl) (by rfl) (by rfl) (by rfl) (by rfl)) (pe_call G5 hr (by rfl) m5 k5 b5 .nil pass0 (pa_cons (pv 5) (pa_cons pe_str pa_nil))) (nomark _)) pss_never pss_nil)
        (pss_one (ps_if (pt_cmpR (op_neD hr.units) (pe_callN G6 hr (by rfl) m6 k6 kb2 pass0 (pa_cons (pv 5) (pa_cons (pv 4) pa_nil)) (pk_cons pe_str pk_nil)) (pe_call G5 hr (by rfl) m5 k5 b5 .nil pass0 (pa_cons (pv 5) (pa_cons pe_str pa_nil))) (nomark _)) pss_never pss_nil)))))))))))))))
    (pss_one (ps_ret (pe_and (pe_cmpR op_isN (pe_call G6 hr (by rfl) m6 k6 b6d (.cons rdv .nil) pass0 (pa_cons (pe_lst pa_nil) (pa_cons (pe_tup (pa_cons pe_str pa_nil)) pa_nil))) pe_non (nomark _))
      (pe_one (pe_cmpR (op_eqD hr.units) (pe_call G6 hr (by rfl) m6 k6 b6d (.cons rdv .nil) pass0 (pa_cons (pe_lst (pa_cons (pe_tup (pa_cons (pe_tup pa_nil) (pa_cons (pe_tup (pa_cons pe_str pa_nil)) pa_nil))) pa_nil)) (pa_cons (pe_tup (pa_cons pe_str pa_nil)) pa_nil))) (pe_tup (pa_cons pe_str (pa_cons (pe_tup (pa_cons (pe_tup pa_nil) (pa_cons (pe_tup (pa_cons pe_str pa_nil)) pa_nil))) pa_nil))) (nomark _)))))), ?_⟩
  obtain ⟨n0, hn0, hn1⟩ : ∃ n0 : Nat, (1 + (if ((ns.map V.int).length : Int) < 5 then ((ns.map V.int).length : Int) else 5)) = (n0 : Int) ∧ n0 ≤ 6 := by
    rw [List.length_map]
    by_cases c : (ns.length : Int) < 5
    · rw [if_pos c]
      exact ⟨1 + ns.length, by omega, by omega⟩
    · rw [if_neg c]
      exact ⟨6, by omega, by omega⟩
  refine ⟨.ref a, rfl, a, _, rfl, .inl hS, 5, ((ns.map V.int).length : Int), rfl, _, _, rfl, rfl, _, rfl, ?_⟩
  rw [hn0]
  refine ⟨by omega, by omega, ?_⟩
  refine for_range (n := (n0 : Int).toNat) (fun i σ H1 => ∃ y1 y2 y3 y4 y5 y6 y7 y8 y9, σ = [some (.ref a), y1, y2, y3, y4, y5, y6, y7, y8, y9] ∧ Same H H1) ⟨_, _, _, _, _, _, _, _, _, rfl, fun _ _ e => e⟩ (fun i σ HA hi hI => ?_) (fun σ H1 hI => ?_)
  · obtain ⟨y1, y2, y3, y4, y5, y6, y7, y8, y9, rfl, smA⟩ := hI
    have hi6 : i < 6 := by omega
    -- purse = _law_purse(script, at)
    refine ⟨.ref a, rfl, .int (0 + (i : Int)), rfl, a, ns, i, ?_, smA.seq hS, hl, by omega, fun HB p sAB hpn hP0 => ?_⟩
    · rw [Int.zero_add]
      rfl
    have up : ∀ H', Bar p HB H' → Same H H' := fun H' b c u e => b c u (fun z => by
      have := smA _ _ e
      rw [z, hpn] at this
      cases this) (sAB _ _ (smA _ _ e))
    refine ⟨3, rfl, by decide, by decide, for_range (n := 3) (fun j σ H1 => ∃ y3 y4 y5 y6 y7 y8 y9, σ = [some (.ref a), some (.int (0 + (i : Int))), some (.ref p), y3, y4, y5, y6, y7, y8, y9] ∧ Bar p HB H1 ∧ Pur H1 p (100000 + 2000 * j)) ⟨_, _, _, _, _, _, _, rfl, fun _ _ _ e => e, hP0.le (by omega)⟩ (fun j σ H1 hj hI => ?_) (fun σ H1 hI => ?_)⟩
    · obtain ⟨y3, y4, y5, y6, y7, y8, y9, rfl, bar, pu⟩ := hI
      -- pool = [..][_law_draw(purse, 5)]
      refine ⟨by show 0 ≤ sizeLine; decide, fun t0 ht0 => ⟨by show 1 ≤ sizeLine; decide, fun t1 ht1 => ⟨by show 2 ≤ sizeLine; decide, fun t2 ht2 => ⟨by show 3 ≤ sizeLine; decide, fun t3 ht3 => ⟨by show 3 ≤ sizeLine; decide, fun t4 ht4 => ⟨by show 5 ≤ sizeLine; decide, fun l0 hl0 => ?_⟩⟩⟩⟩⟩⟩
      have u0 := same_new ht0 (.tup [])
      have u1 := same_new ht1 (.tup [.str "a"])
      have u2 := same_new ht2 (.tup [.str "a", .str "ab"])
      have u3 := same_new ht3 (.tup [.str "a", .str "ab", .str "b"])
      have u4 := same_new ht4 (.tup [.str "a", .str "ab", .str "b"])
      have u5 := same_new hl0 (.lst [.ref t0, .ref t1, .ref t2, .ref t3, .ref t4])
      have uA := u0.trans (u1.trans (u2.trans (u3.trans (u4.trans u5))))
      have pu4 := pu.same (u0.trans (u1.trans (u2.trans (u3.trans u4))))
      have nl0 : l0 ≠ p := pu4.some hl0
      have puA := pu4.same u5
      refine ⟨.ref p, rfl, p, 5, _, rfl, puA, by omega, by decide, by decide, fun r us r0 r1 puC => ?_⟩
      have stC : Stay _ (upd _ p (.lst us)) := .put puA.mut _
      have barC : Bar p HB (upd _ p (.lst us)) := (bar.trans (.same uA)).trans .draw
      obtain ⟨r', rfl⟩ : ∃ r' : Nat, r = r' := Int.eq_ofNat_of_zero_le r0
      obtain ⟨pool, hpool, hpl⟩ := pools r' (by omega)
      have items : DpAll K _ [.ref t0, .ref t1, .ref t2, .ref t3, .ref t4] (([[], [("a" : Str)], [("a" : Str), ("ab" : Str)], [("a" : Str), ("ab" : Str), ("b" : Str)], [("a" : Str), ("ab" : Str), ("b" : Str)]] : List W).map wd) :=
        .cons (to_wd (ns := []) (SqT.of ((u1.trans (u2.trans (u3.trans (u4.trans u5)))) _ _ upd_same))) (.cons (to_wd (ns := ["a"]) (SqT.of ((u2.trans (u3.trans (u4.trans u5))) _ _ upd_same))) (.cons (to_wd (ns := ["a", "ab"]) (SqT.of ((u3.trans (u4.trans u5)) _ _ upd_same)))
          (.cons (to_wd (ns := ["a", "ab", "b"]) (SqT.of ((u4.trans u5) _ _ upd_same))) (.cons (to_wd (ns := ["a", "ab", "b"]) (SqT.of (u5 _ _ upd_same))) .nil))))
      obtain ⟨x, hxi, hx0⟩ := dpAll_at items (i := r') (d := wd pool) (by rw [List.getElem?_map, hpool]; rfl)
      have hxC := stC.wd hx0
      refine ⟨l0, _, r', x, rfl, rfl, SqL.of (by rw [upd_ne nl0]; exact upd_same), atI_nat (j := r') hxi, ?_⟩
      generalize upd _ p (.lst us) = HC at puC barC hxC ⊢
      clear stC items hx0 uA u0 u1 u2 u3 u4 u5 puA pu4
      -- rows = _law_drawn(purse, pool)
      refine ⟨.ref p, rfl, x, rfl, p, x, pool, _, rfl, puC, by omega, hxC, hpl, fun HD l L barD nlD puD ownD nL iL => ?_⟩
      have barD' := barC.trans barD
      have hxD := (barD.stay puC.mut).wd hxC
      have nlp : l ≠ p := puC.some nlD
      -- way = _law_draw(purse, 4)
      refine ⟨.ref p, rfl, p, 4, _, rfl, puD, by omega, by decide, by decide, fun way us2 w0 w1 puE => ?_⟩
      have hxE := (Stay.put puD.mut (.lst us2)).wd hxD
      have ownE := ownD.draw (o := .lst us2) nlp puD.mut
      have barE := barD'.trans (Bar.draw (o := .lst us2))
      have nlB : HB l = none := none_bar barC puC nlD
      generalize upd HD p (.lst us2) = HE at puE hxE ownE barE ⊢
      obtain ⟨way', rfl⟩ : ∃ r' : Nat, way = r' := Int.eq_ofNat_of_zero_le w0
      -- if way < 3
      refine ⟨fun σ H1 => ∃ l L, σ = [some (.ref a), some (.int (0 + (i : Int))), some (.ref p), some (.int (0 + (j : Int))), some x, some (.ref l), some (.int way'), y7, y8, y9] ∧ Bar p HB H1 ∧ Pur H1 p (102000 + 2000 * j - 900) ∧ Dp K H1 x (wd pool) ∧ Own K H1 l L ∧ HB l = none ∧ L.Nodup ∧ ∀ q ∈ L, IsP pool q, ?_, fun σ HF hI => ?_⟩
      · refine ⟨.int way', rfl, _, _, rfl, rfl, _, rfl, ite2 (fun e => ?_) (fun e => ?_)⟩
        · have hw3 : way' < 3 := by
            have := of_decide_eq_true e
            omega
          refine ⟨.ref l, rfl, by show 3 ≤ sizeLine; decide, fun l1 hl1 => ?_⟩
          have v1 := same_new hl1 (.lst [.str anyS, .str plainS, .str singleS])
          obtain ⟨z, hz⟩ : ∃ z, ([anyS, plainS, singleS] : W)[way']? = some z := ⟨_, List.getElem?_eq_getElem (by simpa using hw3)⟩
          refine ⟨.int way', rfl, l1, [.str anyS, .str plainS, .str singleS], way', .str z, rfl, rfl, SqL.of upd_same, atI_nat (j := way') ?_, l, z, pool, L, rfl, ownE.same v1, nL, iL, hpl, fun HF l' L' sF nl' own' nL' iL' => ?_⟩
          · show (([anyS, plainS, singleS] : W).map V.str)[way']? = some (V.str z)
            rw [List.getElem?_map, hz]
            rfl
          · have vF := v1.trans sF
            exact ⟨l', L', rfl, barE.trans (.same vF), (puE.same vF).le (by omega), (Stay.same vF).wd hxE, own', none_bar (barE.trans (.same v1)) (puE.same v1) nl', nL', iL'⟩
        · exact ⟨l, L, rfl, barE, puE.le (by omega), hxE, ownE, nlB, nL, iL⟩
      clear barE puE hxE ownE nlB nL iL nlp ownD nlD hxD barD' puD barD
      obtain ⟨l, L, rfl, barF, puF, hxF, ownF, nlB, nL, iL⟩ := hI
      have nlp : l ≠ p := by
        obtain ⟨xs, h, _⟩ := ownF
        obtain ⟨_, _, _, h', _⟩ := hP0
        intro e
        rw [e, h'] at nlB
        cases nlB
      -- if rows != [] and ..: rows.pop(..)
      refine ⟨fun σ H1 => ∃ L', σ = [some (.ref a), some (.int (0 + (i : Int))), some (.ref p), some (.int (0 + (j : Int))), some x, some (.ref l), some (.int way'), y7, y8, y9] ∧ Bar p HB H1 ∧ Pur H1 p (102000 + 2000 * j - 800) ∧ Dp K H1 x (wd pool) ∧ Own K H1 l L' ∧ L'.Nodup ∧ ∀ q ∈ L', IsP pool q, ?_, fun σ HG hI => ?_⟩
      · refine ⟨.ref l, rfl, by show 0 ≤ sizeLine; decide, fun l1 hl1 => ?_⟩
        have v1 := same_new hl1 (.lst [])
        have own1 := ownF.same v1
        have pu1 := puF.same v1
        have bar1 := barF.trans (Bar.same (p := p) v1)
        have hx1 := (Stay.same v1).wd hxF
        have iLw : ∀ q ∈ L, IsW q.1 ∧ IsW q.2 := fun q hq => ⟨(iL q hq).w1, (iL q hq).w2⟩
        have fewL := pairs_few hpl nL iL
        refine ⟨.list (L.map pd), .list [], own1.pl.data, .lst (SqL.of (xs := []) upd_same) .nil, shaped_pds iLw, by decide, _, rfl, ite2 (fun e => ?_) (fun _ => ?_)⟩
        · have nz : L ≠ [] := fun z => by
            rw [z] at e
            exact absurd e (by decide)
          have pos : 0 < L.length := List.length_pos_iff.mpr nz
          generalize upd HF l1 (.lst []) = H1 at own1 pu1 bar1 hx1 ⊢
          refine ⟨.ref p, rfl, p, 2, _, rfl, pu1, by omega, by decide, by decide, fun r2 us3 _ _ pu2 => ⟨rfl, _, rfl, ite2 (fun _ => ?_) (fun _ => ?_)⟩⟩
          · have own2 := own1.draw (o := .lst us3) nlp pu1.mut
            have bar2 := bar1.trans (Bar.draw (o := .lst us3))
            have hx2 := (Stay.put pu1.mut (.lst us3)).wd hx1
            generalize upd H1 p (.lst us3) = H2 at own2 pu2 bar2 hx2 ⊢
            obtain ⟨xs, ho, hxs⟩ := own2
            have xl : xs.length = L.length := by rw [dpAll_len hxs, List.length_map]
            refine ⟨.ref l, rfl, .inl ⟨rfl, _, SqL.of ho⟩, .ref p, rfl, .ref l, rfl, l, xs, rfl, .inl (SqL.of ho), p, (xs.length : Int), _, rfl, pu2, by omega, by omega, by omega, fun r3 us4 g0 g1 pu3 => ?_⟩
            have st3 : Stay H2 (upd H2 p (.lst us4)) := .put pu2.mut _
            have bar3 := bar2.trans (Bar.draw (o := .lst us4))
            have ho3 : (upd H2 p (.lst us4)) l = some (.lst xs) := by
              rw [upd_ne nlp]
              exact ho
            obtain ⟨r', rfl⟩ : ∃ r' : Nat, r3 = r' := Int.eq_ofNat_of_zero_le g0
            have hr' : r' < xs.length := by omega
            refine ⟨l, xs, r', r', xs[r'], rfl, rfl, ho3, by omega, by omega, ?_, List.getElem?_eq_getElem hr', ?_⟩
            · unfold PySem.seqIndex?
              have n0 : ¬ ((r' : Int) < 0) := by omega
              simp only [n0, if_false]
              rw [if_pos (by simp; omega)]
              rfl
            · have st4 : Stay (upd H2 p (.lst us4)) (upd (upd H2 p (.lst us4)) l (.lst (xs.eraseIdx r'))) := .put (by rw [ho3]; exact True.intro) _
              refine ⟨L.eraseIdx r', rfl, bar3.put nlB, (pu3.put nlp).le (by omega), (st3.trans st4).wd hx2, ⟨_, upd_same, ?_⟩, nL.sublist (List.eraseIdx_sublist _ _), fun q hq => iL q (List.mem_of_mem_eraseIdx hq)⟩
              rw [← map_erase]
              exact dpAll_erase r' ((st3.trans st4).dpAll _ _ (okDs_pd _) hxs)
          · exact ⟨L, rfl, bar1.trans .draw, pu2.le (by omega), (Stay.put pu1.mut _).wd hx1, own1.draw nlp pu1.mut, nL, iL⟩
        · exact ⟨L, rfl, bar1, pu1.le (by omega), hx1, own1, nL, iL⟩
      clear barF puF hxF ownF nL iL
      obtain ⟨L, rfl, barG, puG, hxG, ⟨xs, ho, hxs⟩, nL, iL⟩ := hI
      have xl : xs.length = L.length := by rw [dpAll_len hxs, List.length_map]
      have fewL := pairs_few hpl nL iL
      -- rows = rows[::-1] + rows[:_law_draw(purse, 2)]
      refine ⟨.ref l, rfl, l, xs, rfl, SqL.of ho, fun l1 hl1 => ?_⟩
      have v1 := same_new hl1 (.lst xs.reverse)
      have nl1p : l1 ≠ p := puG.some hl1
      refine ⟨.ref l, rfl, .ref p, rfl, p, 2, _, rfl, puG.same v1, by omega, by decide, by decide, fun r4 us5 g0 g1 puH => ?_⟩
      obtain ⟨r', rfl⟩ : ∃ r' : Nat, r4 = r' := Int.eq_ofNat_of_zero_le g0
      have st5 : Stay (upd HG l1 (.lst xs.reverse)) (upd (upd HG l1 (.lst xs.reverse)) p (.lst us5)) := .put (puG.same v1).mut _
      have barH := (barG.trans (Bar.same v1)).trans (Bar.draw (o := .lst us5))
      have hoH : (upd (upd HG l1 (.lst xs.reverse)) p (.lst us5)) l = some (.lst xs) := by
        rw [upd_ne nlp]
        exact v1 _ _ ho
      have h1H : (upd (upd HG l1 (.lst xs.reverse)) p (.lst us5)) l1 = some (.lst xs.reverse) := by
        rw [upd_ne nl1p, upd_same]
      have hxsH := ((Stay.same v1).trans st5).dpAll _ _ (okDs_pd _) hxs
      have hxH := ((Stay.same v1).trans st5).wd hxG
      generalize upd (upd HG l1 (.lst xs.reverse)) p (.lst us5) = HH at puH barH hoH h1H hxsH hxH ⊢
      refine ⟨_, rfl, l, xs, rfl, SqL.of hoH, fun l2 hl2 => ?_⟩
      have v2 := same_new hl2 (.lst (cutV xs none (some (r' : Int))))
      have cl : (cutV xs none (some (r' : Int))).length ≤ 1 := by
        unfold cutV
        rw [List.length_take, HT.sIx_nat]
        omega
      refine ⟨l1, l2, xs.reverse, cutV xs none (some (r' : Int)), rfl, rfl, v2 _ _ h1H, upd_same, small_line (by rw [List.length_reverse]; omega), fun l3 hl3 => ?_⟩
      have v3 := same_new hl3 (.lst (xs.reverse ++ cutV xs none (some (r' : Int))))
      -- held = list(rows)
      refine ⟨.ref l3, rfl, l3, _, rfl, .inl (SqL.of upd_same), fun l4 hl4 => ?_⟩
      have v4 := same_new hl4 (.lst (xs.reverse ++ cutV xs none (some (r' : Int))))
      have vA := v2.trans (v3.trans v4)
      obtain ⟨L3, own3, own4, few3, iL3⟩ : ∃ L3, Own K _ l3 L3 ∧ Own K _ l4 L3 ∧ L3.length < 64 ∧ ∀ q ∈ L3, IsP pool q := by
        have dc : DpAll K HH (xs.reverse ++ cutV xs none (some (r' : Int))) ((L.reverse ++ (L.drop (HT.sIx xs.length 0 none)).take (HT.sIx xs.length xs.length (some (r' : Int)) - HT.sIx xs.length 0 none)).map pd) := by
          rw [List.map_append, List.map_reverse, List.map_take, List.map_drop]
          exact dpAll_app (dpAll_rev hxsH) (dpAll_take _ (dpAll_drop _ hxsH))
        have dA := (Stay.same vA).dpAll _ _ (okDs_pd _) dc
        refine ⟨_, ⟨_, v4 _ _ upd_same, dA⟩, ⟨_, upd_same, dA⟩, ?_, fun q hq => ?_⟩
        · have z := dpAll_len dc
          rw [List.length_map, List.length_append, List.length_reverse] at z
          omega
        · rcases List.mem_append.mp hq with hq | hq
          · exact iL q (List.mem_reverse.mp hq)
          · exact iL q (List.mem_of_mem_drop (List.mem_of_mem_take hq))
      have barR := barH.trans (Bar.same (p := p) vA)
      have puR := puH.same vA
      have hxR := (Stay.same vA).wd hxH
      have iLw : ∀ q ∈ L3, IsW q.1 ∧ IsW q.2 := fun q hq => ⟨(iL3 q hq).w1, (iL3 q hq).w2⟩
      have iL4 : ∀ q ∈ L3, IsP pool4 q := fun q hq => (iL3 q hq).to4 hpl
      generalize upd (upd (upd HH l2 (.lst (cutV xs none (some (r' : Int))))) l3 (.lst (xs.reverse ++ cutV xs none (some (r' : Int))))) l4 (.lst (xs.reverse ++ cutV xs none (some (r' : Int)))) = HR at barR puR hxR own3 own4 ⊢
      -- what both tell is the same
      have agree : ∀ (z : Str) (R R' : List Pr), R.Nodup → Rising (R.map pd) → (∀ q, q ∈ R ↔ q ∈ L3) → R'.Nodup → Rising (R'.map pd) → (∀ q, q ∈ R' ↔ q ∈ L3) → R = R' := fun z R R' n1 r1 m1 n2 r2 m2 => pairs_one r1 r2 n1 n2 fun q => (m1 q).trans (m2 q).symm
      have shp : ∀ (z : Str) (R : List Pr), (∀ q, q ∈ R ↔ q ∈ L3) → SeqAt.shaped (dat (whyO R z)) = true := fun z R m => shaped_why z fun q hq => iLw q ((m q).mp hq)
      -- for sort in ('any', 'plain', 'single')
      refine ⟨by show 3 ≤ sizeLine; decide, fun t ht => ⟨t, rfl, ⟨_, SqT.of upd_same⟩, for_tup (xs := ([anyS, plainS, singleS] : W).map V.str) (fun n σ H1 => ∃ y8 y9, σ = [some (.ref a), some (.int (0 + (i : Int))), some (.ref p), some (.int (0 + (j : Int))), some x, some (.ref l3), some (.int way'), some (.ref l4), y8, y9] ∧ Same HR H1 ∧ SqT K H1 t (([anyS, plainS, singleS] : W).map V.str)) ⟨_, _, rfl, same_new ht _, SqT.of upd_same⟩ (fun n σ H1 _ hI => by obtain ⟨_, _, _, _, h⟩ := hI; exact h) (fun n u σ H1 hu hI => ?_) (fun σ H1 hI => ?_)⟩⟩
      · obtain ⟨y8, y9, rfl, sm, hT⟩ := hI
        obtain ⟨z, hz, rfl⟩ := map_at hu
        have hzm : z ∈ [anyS, plainS, singleS] := List.mem_of_getElem? hz
        refine ⟨.ref l3, rfl, .str z, rfl, l3, z, L3, rfl, (own3.same sm).pl, few3, iL4, fun H2 y R s2 nR ris memR t2 => ?_⟩
        have sm2 := sm.trans s2
        have sR := shp z R memR
        refine ⟨.ref l3, rfl, x, rfl, .str z, rfl, l3, x, pool, z, L3, rfl, (own3.same sm2).ps, (Stay.same sm2).wd hxR, hpl.w, iL3, hzm, few3, fun H3 y' R' s3 nR' ris' memR' t3 => ?_⟩
        have sm3 := sm2.trans s3
        obtain rfl := agree z R R' nR ris memR nR' ris' memR'
        refine ⟨y, rfl, dat (whyO R z), dat (whyO R z), told_dp t3, told_dp (t2.stay (.same s3)), sR, sR, _, rfl, ?_⟩
        rw [eqv_self sR]
        refine iteF ?_
        obtain ⟨xs3, ho3, hx3⟩ := own3.same sm3
        refine ⟨.ref l3, rfl, l3, xs3, rfl, .inl ⟨SqL.of ho3, fun t4 ht4 => ?_⟩⟩
        have v4 := same_new ht4 (.tup xs3)
        have sm4 := sm3.trans v4
        refine ⟨x, rfl, .str z, rfl, t4, x, pool, z, L3, rfl, ⟨xs3, .inr (SqT.of upd_same), (Stay.same v4).dpAll _ _ (okDs_pd _) hx3⟩, (Stay.same sm4).wd hxR, hpl.w, iL3, hzm, few3, fun H5 y'' R'' s5 nR'' ris'' memR'' t5 => ?_⟩
        have sm5 := sm4.trans s5
        obtain rfl := agree z R R'' nR ris memR nR'' ris'' memR''
        refine ⟨y, rfl, dat (whyO R z), dat (whyO R z), told_dp t5, told_dp (t2.stay (.same (s3.trans (v4.trans s5)))), sR, sR, _, rfl, ?_⟩
        rw [eqv_self sR]
        refine iteF ?_
        have sL := shaped_pds iLw
        refine ⟨.ref l3, rfl, .ref l4, rfl, .list (L3.map pd), .list (L3.map pd), (own3.same sm5).pl.data, (own4.same sm5).pl.data, sL, sL, _, rfl, ?_⟩
        rw [eqv_self sL]
        exact iteF ⟨_, _, rfl, sm5, same_tup (s2.trans (s3.trans (v4.trans s5))) hT⟩
      obtain ⟨y8, y9, rfl, sm, hT⟩ := hI
      -- barred(pairs=rows, names=pool)
      refine ⟨.ref l3, rfl, x, rfl, rfl, l3, x, pool, anyS, L3, rfl, (own3.same sm).ps, (Stay.same sm).wd hxR, hpl.w, iL3, by simp, few3, fun H2 y R s2 nR ris memR t2 => ?_⟩
      have sm2 := sm.trans s2
      refine ⟨.ref l3, rfl, l3, anyS, L3, rfl, (own3.same sm2).pl, few3, iL4, fun H3 y' R' s3 nR' ris' memR' t3 => ?_⟩
      have sm3 := sm2.trans s3
      obtain rfl := agree anyS R R' nR ris memR nR' ris' memR'
      have sR := shp anyS R memR
      refine ⟨dat (whyO R anyS), dat (whyO R anyS), told_dp (t2.stay (.same s3)), told_dp t3, sR, sR, _, rfl, ?_⟩
      rw [eqv_self sR]
      refine iteF ?_
      -- barred(rows, pool, kind='plain')
      refine ⟨.ref l3, rfl, x, rfl, rfl, rfl, l3, x, pool, plainS, L3, rfl, (own3.same sm3).ps, (Stay.same sm3).wd hxR, hpl.w, iL3, by simp, few3, fun H4 y2 R2 s4 nR2 ris2 memR2 t4 => ?_⟩
      have sm4 := sm3.trans s4
      refine ⟨.ref l3, rfl, l3, plainS, L3, rfl, (own3.same sm4).pl, few3, iL4, fun H5 y3' R3 s5 nR3 ris3 memR3 t5 => ?_⟩
      have sm5 := sm4.trans s5
      obtain rfl := agree plainS R2 R3 nR2 ris2 memR2 nR3 ris3 memR3
      have sR2 := shp plainS R2 memR2
      refine ⟨dat (whyO R2 plainS), dat (whyO R2 plainS), told_dp (t4.stay (.same s5)), told_dp t5, sR2, sR2, _, rfl, ?_⟩
      rw [eqv_self sR2]
      refine iteF ⟨_, _, _, _, _, _, _, rfl, barR.trans (.same sm5), (puR.same sm5).le (by omega)⟩
    · obtain ⟨y3, y4, y5, y6, y7, y8, y9, rfl, bar, pu⟩ := hI
      exact ⟨_, _, _, _, _, _, _, _, _, rfl, up _ bar⟩
  · obtain ⟨y1, y2, y3, y4, y5, y6, y7, y8, y9, rfl, sm⟩ := hI
    have wa : IsW [("a" : Str)] := ⟨by decide +kernel, by simp [UpX], by decide⟩
    have w0 : IsW [] := ⟨(fun _ z => nomatch z), List.Pairwise.nil, Nat.zero_le _⟩
    have ipa : IsP [("a" : Str)] ([], [("a" : Str)]) := ⟨w0, wa, by decide, by decide⟩
    -- barred([], ('a',)) is None
    refine ⟨by show 0 ≤ sizeLine; decide, fun l hl' => ⟨by show 1 ≤ sizeLine; decide, fun t ht => ?_⟩⟩
    refine ⟨l, .ref t, [("a" : Str)], anyS, [], rfl, ⟨[], .inl (SqL.of ((same_new ht _) _ _ upd_same)), .nil⟩, to_wd (SqT.of upd_same), wa, (fun _ z => nomatch z), by simp, by decide, fun H2 y R s2 nR ris mem t2 => ?_⟩
    have eR : R = [] := List.eq_nil_iff_forall_not_mem.mpr fun q hq => absurd ((mem q).mp hq) List.not_mem_nil
    subst eR
    have ey : y = .non := t2
    subst ey
    refine ⟨rfl, true, congrArg V.bl (decide_eq_true rfl), iteT ?_⟩
    -- barred([((), ('a',))], ('a',)) == ('total', ((), ('a',)))
    refine ⟨by show 0 ≤ sizeLine; decide, fun c1 h1 => ⟨by show 1 ≤ sizeLine; decide, fun c2 h2 => ⟨by show 2 ≤ sizeLine; decide, fun c3 h3 => ⟨by show 1 ≤ sizeLine; decide, fun l2 hl2 => ⟨by show 1 ≤ sizeLine; decide, fun t3 ht3 => ?_⟩⟩⟩⟩⟩
    have v1 := same_new h1 (.tup [])
    have v2 := same_new h2 (.tup [.str "a"])
    have v3 := same_new h3 (.tup [.ref c1, .ref c2])
    have v4 := same_new hl2 (.lst [.ref c3])
    have v5 := same_new ht3 (.tup [.str "a"])
    refine ⟨l2, .ref t3, [("a" : Str)], anyS, [([], [("a" : Str)])], rfl, ⟨[.ref c3], .inl (SqL.of (v5 _ _ upd_same)), .cons (to_pd (p := ([], [("a" : Str)])) (SqT.of ((v4.trans v5) _ _ upd_same)) (to_wd (ns := []) (SqT.of ((v2.trans (v3.trans (v4.trans v5))) _ _ upd_same))) (to_wd (ns := ["a"]) (SqT.of ((v3.trans (v4.trans v5)) _ _ upd_same)))) .nil⟩, to_wd (SqT.of upd_same), wa, (fun q hq => by rw [List.mem_singleton.mp hq]; exact ipa), by simp, by decide, fun H4 y R s4 nR ris mem t4 => ?_⟩
    have eR : R = [([], [("a" : Str)])] := pairs_one ris (List.pairwise_singleton _ _) nR (by simp) mem
    subst eR
    have ew : whyO [([], [("a" : Str)])] anyS = some (.tuple [.str totalS, pd ([], [("a" : Str)])]) := by
      unfold whyO
      have e1 : totO [([], [("a" : Str)])] = some (.tuple [.str totalS, pd ([], [("a" : Str)])]) := by
        unfold totO
        rw [List.findSome?_cons]
        have e0 : totIn [([], [("a" : Str)])] ([], [("a" : Str)]) = some (.tuple [.str totalS, pd ([], [("a" : Str)])]) := by
          unfold totIn
          rw [if_neg (by decide)]
        rw [e0]
      rw [e1]
      rfl
    have sh := shaped_why (R := [([], [("a" : Str)])]) anyS fun q hq => by
      rw [List.mem_singleton.mp hq]
      exact ⟨w0, wa⟩
    have td := told_dp t4
    refine ⟨by show 0 ≤ sizeLine; decide, fun d1 g1 => ⟨by show 1 ≤ sizeLine; decide, fun d2 g2 => ⟨by show 2 ≤ sizeLine; decide, fun d3 g3 => ⟨by show 2 ≤ sizeLine; decide, fun d4 g4 => ?_⟩⟩⟩⟩
    have x1 := same_new g1 (.tup [])
    have x2 := same_new g2 (.tup [.str "a"])
    have x3 := same_new g3 (.tup [.ref d1, .ref d2])
    have x4 := same_new g4 (.tup [.str "total", .ref d3])
    have t5 := t4.stay (.same (x1.trans (x2.trans (x3.trans x4))))
    refine ⟨dat (whyO [([], [("a" : Str)])] anyS), dat (whyO [([], [("a" : Str)])] anyS), told_dp t5, ?_, sh, sh, ?_⟩
    · rw [ew]
      exact .tup (SqT.of upd_same) (.cons (.str _) (.cons (to_pd (p := ([], [("a" : Str)])) (SqT.of (x4 _ _ upd_same)) (to_wd (ns := []) (SqT.of ((x2.trans (x3.trans x4)) _ _ upd_same))) (to_wd (ns := ["a"]) (SqT.of ((x3.trans x4) _ _ upd_same)))) .nil))
    · rw [eqv_self sh]
      exact q _
end
end Rw
namespace Rw
open PySem PySem.Spec PyProof.Rows L2
/-! ### what the top has written -/
theorem vals_app : ∀ {xs ys : List V} {us ws : List Value}, Vals xs us → Vals ys ws → Vals (xs ++ ys) (us ++ ws)
  | _, _, _, _, .nil, h => h
  | _, _, _, _, .cons r t, h => .cons r (vals_app t h)
theorem fun_of {K : PySem.W.Frag} {x qual : Str} {st : Stmt} {f : Addr} {fd : FuncData} (F : FunD K x qual (defArgs st) (defBody st) (defScope st) [] [] f fd) : Fun K x qual st f fd := by
  obtain ⟨oc, od, dV, kV, doc, pm, an, cdv, ct, osl, e, lk, hcd, hD, hK⟩ := F.ex
  rcases hD with ⟨_, rfl⟩ | ⟨h, _⟩
  · exact ⟨⟨oc, od, kV, doc, pm, an, cdv, ct, osl, e, lk, hcd⟩, F.kp⟩
  · exact absurd rfl h
def dOf (x : Str) (st : Stmt) : He.DefD := ⟨(x, none), x, x, defArgs st, defBody st, defScope st, [], []⟩
def dBarred : He.DefD := ⟨("barred", none), "barred", "barred", defArgs sBarred, defBody sBarred, defScope sBarred, [.str anyS], []⟩
def hfn : List He.DefD := [dOf "is_name" sIsName, dOf "_are_names" sAreNames, dOf "_set_of" sSetOf, dOf "is_world" sIsWorld, dOf "has_all" sHasAll, dOf "is_pair" sIsPair, dOf "check_world" sCheckWorld, dOf "check_kind" sCheckKind, dOf "_not_total" sTotal, dOf "_not_upward" sUpward, dOf "_common" sCommon, dOf "_worlds_below" sBelow, dOf "_not_meeting" sMeeting, dOf "_why_not" sWhyNot, dOf "_check_asked" sAsked, dOf "_law_at" sLawAt, dOf "_law_mixed" sLawMixed, dOf "_law_purse" sLawPurse, dOf "_law_draw" sLawDraw, dOf "_law_parts" sLawParts, dOf "_law_in" sLawIn, dOf "_law_meet" sLawMeet, dOf "_law_why" sLawWhy, dOf "_law_closed" sLawClosed, dOf "_law_drawn" sLawDrawn, dOf "law" sLaw, dBarred]
def hfa : List He.Fa := [.free "len", .free "isinstance", .free "all", .free "tuple", .free "list", .free "sorted", .free "set", .free "str", .free "int", .free "max", .free "min", .free "range", .str "LETTERS" lettersS, .glo "KINDS", .glo "barred", .glo "is_name", .glo "_are_names", .glo "_set_of", .glo "is_world", .glo "has_all", .glo "is_pair", .glo "check_world", .glo "check_kind", .glo "_not_total", .glo "_not_upward", .glo "_common", .glo "_worlds_below", .glo "_not_meeting", .glo "_why_not", .glo "_check_asked", .glo "_law_at", .glo "_law_mixed", .glo "_law_purse", .glo "_law_draw", .glo "_law_parts", .glo "_law_in", .glo "_law_meet", .glo "_law_why", .glo "_law_closed", .glo "_law_drawn", .glo "law"]
def hex_ (K : PySem.W.Frag) : Bool := He.tupB K "KINDS" [.str anyS, .str plainS, .str singleS]
abbrev hR : PySem.W.OpenRow := PySem.W.OpenLaw.row PySem.Challenge.rw_ruleworlds_k25_sets_of_pairs_barred
abbrev hH : PySem.W.Hook := He.hookX 4 hfa hfn [] [] hex_
def hob (s : PySem.W.SharedT) : He.AlX := He.obsX 4 hfa hfn [] [] hex_ (HandSHeadRun.getT s)
theorem hob_eq (s : PySem.W.SharedT) : hob s = hH.obs s.abs := He.obsX_eq (HandSHeadRun.getT_eq s)
def hloose : List Str := ["RuleError", "InvalidWorld", "InvalidPair", "InvalidKind", "LETTERS", "KINDS", "barred", "is_name", "_are_names", "_set_of", "is_world", "has_all", "is_pair", "check_world", "check_kind", "_not_total", "_not_upward", "_common", "_worlds_below", "_not_meeting", "_why_not", "_check_asked", "_law_at", "_law_mixed", "_law_purse", "_law_draw", "_law_parts", "_law_in", "_law_meet", "_law_why", "_law_closed", "_law_drawn"]
theorem hrun (w : World) : HandSHeadRun.RunEq hR (PySem.W.view hR.prog [37]) hH hob 3000 hloose w := by
  intro os
  kernel_rfl
theorem hfacts {P : Program} {w : World} {K : PySem.W.Frag} {h : Heap} {mg : Str → Option Value} {f : Addr} (X : K.In h) (G : h.Ns mainGlobals mg) (hfa_ : mg ("law" : Str) = some (.ref f)) (c : He.SaysD hfa hfn K) (ce : hex_ K = true) :
    ∃ fd : FuncData, (∀ (s : Shared) (v : Value), BindsTo s fd ⟨[v], []⟩ [("script", v)]) ∧ ∀ base : Heap, K.In base → base.Ns mainGlobals mg → FnOk P w K mg base CX0 7 f fd ["script"] (spLaw K) := by
  obtain ⟨fd0, D0⟩ := c.def_ 0 (d := dOf "is_name" sIsName) rfl
  have F0 : Fun K "is_name" "is_name" sIsName _ fd0 := fun_of D0
  have B0 := D0.bindsN (ps := ["thing"]) fun _ _ _ _ _ _ us hl => match us, hl with | [_], _ => rfl
  have M0 : mg "is_name" = _ := (He.glo_ok X G (c.fact 15 (f := .glo "is_name") rfl))
  obtain ⟨fd1, D1⟩ := c.def_ 1 (d := dOf "_are_names" sAreNames) rfl
  have F1 : Fun K "_are_names" "_are_names" sAreNames _ fd1 := fun_of D1
  have B1 := D1.bindsN (ps := ["thing"]) fun _ _ _ _ _ _ us hl => match us, hl with | [_], _ => rfl
  have M1 : mg "_are_names" = _ := (He.glo_ok X G (c.fact 16 (f := .glo "_are_names") rfl))
  obtain ⟨fd2, D2⟩ := c.def_ 2 (d := dOf "_set_of" sSetOf) rfl
  have F2 : Fun K "_set_of" "_set_of" sSetOf _ fd2 := fun_of D2
  have B2 := D2.bindsN (ps := ["names"]) fun _ _ _ _ _ _ us hl => match us, hl with | [_], _ => rfl
  have M2 : mg "_set_of" = _ := (He.glo_ok X G (c.fact 17 (f := .glo "_set_of") rfl))
  obtain ⟨fd3, D3⟩ := c.def_ 3 (d := dOf "is_world" sIsWorld) rfl
  have F3 : Fun K "is_world" "is_world" sIsWorld _ fd3 := fun_of D3
  have B3 := D3.bindsN (ps := ["thing"]) fun _ _ _ _ _ _ us hl => match us, hl with | [_], _ => rfl
  have M3 : mg "is_world" = _ := (He.glo_ok X G (c.fact 18 (f := .glo "is_world") rfl))
  obtain ⟨fd4, D4⟩ := c.def_ 4 (d := dOf "has_all" sHasAll) rfl
  have F4 : Fun K "has_all" "has_all" sHasAll _ fd4 := fun_of D4
  have B4 := D4.bindsN (ps := ["names", "wanted"]) fun _ _ _ _ _ _ us hl => match us, hl with | [_, _], _ => rfl
  have M4 : mg "has_all" = _ := (He.glo_ok X G (c.fact 19 (f := .glo "has_all") rfl))
  obtain ⟨fd5, D5⟩ := c.def_ 5 (d := dOf "is_pair" sIsPair) rfl
  have F5 : Fun K "is_pair" "is_pair" sIsPair _ fd5 := fun_of D5
  have B5 := D5.bindsN (ps := ["thing"]) fun _ _ _ _ _ _ us hl => match us, hl with | [_], _ => rfl
  have M5 : mg "is_pair" = _ := (He.glo_ok X G (c.fact 20 (f := .glo "is_pair") rfl))
  obtain ⟨fd6, D6⟩ := c.def_ 6 (d := dOf "check_world" sCheckWorld) rfl
  have F6 : Fun K "check_world" "check_world" sCheckWorld _ fd6 := fun_of D6
  have B6 := D6.bindsN (ps := ["thing"]) fun _ _ _ _ _ _ us hl => match us, hl with | [_], _ => rfl
  have M6 : mg "check_world" = _ := (He.glo_ok X G (c.fact 21 (f := .glo "check_world") rfl))
  obtain ⟨fd7, D7⟩ := c.def_ 7 (d := dOf "check_kind" sCheckKind) rfl
  have F7 : Fun K "check_kind" "check_kind" sCheckKind _ fd7 := fun_of D7
  have B7 := D7.bindsN (ps := ["thing", "kinds"]) fun _ _ _ _ _ _ us hl => match us, hl with | [_, _], _ => rfl
  have M7 : mg "check_kind" = _ := (He.glo_ok X G (c.fact 22 (f := .glo "check_kind") rfl))
  obtain ⟨fd8, D8⟩ := c.def_ 8 (d := dOf "_not_total" sTotal) rfl
  have F8 : Fun K "_not_total" "_not_total" sTotal _ fd8 := fun_of D8
  have B8 := D8.bindsN (ps := ["chosen", "present"]) fun _ _ _ _ _ _ us hl => match us, hl with | [_, _], _ => rfl
  have M8 : mg "_not_total" = _ := (He.glo_ok X G (c.fact 23 (f := .glo "_not_total") rfl))
  obtain ⟨fd9, D9⟩ := c.def_ 9 (d := dOf "_not_upward" sUpward) rfl
  have F9 : Fun K "_not_upward" "_not_upward" sUpward _ fd9 := fun_of D9
  have B9 := D9.bindsN (ps := ["chosen", "present"]) fun _ _ _ _ _ _ us hl => match us, hl with | [_, _], _ => rfl
  have M9 : mg "_not_upward" = _ := (He.glo_ok X G (c.fact 24 (f := .glo "_not_upward") rfl))
  obtain ⟨fd10, D10⟩ := c.def_ 10 (d := dOf "_common" sCommon) rfl
  have F10 : Fun K "_common" "_common" sCommon _ fd10 := fun_of D10
  have B10 := D10.bindsN (ps := ["one", "other"]) fun _ _ _ _ _ _ us hl => match us, hl with | [_, _], _ => rfl
  have M10 : mg "_common" = _ := (He.glo_ok X G (c.fact 25 (f := .glo "_common") rfl))
  obtain ⟨fd11, D11⟩ := c.def_ 11 (d := dOf "_worlds_below" sBelow) rfl
  have F11 : Fun K "_worlds_below" "_worlds_below" sBelow _ fd11 := fun_of D11
  have B11 := D11.bindsN (ps := ["chosen"]) fun _ _ _ _ _ _ us hl => match us, hl with | [_], _ => rfl
  have M11 : mg "_worlds_below" = _ := (He.glo_ok X G (c.fact 26 (f := .glo "_worlds_below") rfl))
  obtain ⟨fd12, D12⟩ := c.def_ 12 (d := dOf "_not_meeting" sMeeting) rfl
  have F12 : Fun K "_not_meeting" "_not_meeting" sMeeting _ fd12 := fun_of D12
  have B12 := D12.bindsN (ps := ["chosen", "present"]) fun _ _ _ _ _ _ us hl => match us, hl with | [_, _], _ => rfl
  have M12 : mg "_not_meeting" = _ := (He.glo_ok X G (c.fact 27 (f := .glo "_not_meeting") rfl))
  obtain ⟨fd13, D13⟩ := c.def_ 13 (d := dOf "_why_not" sWhyNot) rfl
  have F13 : Fun K "_why_not" "_why_not" sWhyNot _ fd13 := fun_of D13
  have B13 := D13.bindsN (ps := ["chosen", "kind"]) fun _ _ _ _ _ _ us hl => match us, hl with | [_, _], _ => rfl
  have M13 : mg "_why_not" = _ := (He.glo_ok X G (c.fact 28 (f := .glo "_why_not") rfl))
  obtain ⟨fd14, D14⟩ := c.def_ 14 (d := dOf "_check_asked" sAsked) rfl
  have F14 : Fun K "_check_asked" "_check_asked" sAsked _ fd14 := fun_of D14
  have B14 := D14.bindsN (ps := ["pairs", "names", "kind"]) fun _ _ _ _ _ _ us hl => match us, hl with | [_, _, _], _ => rfl
  have M14 : mg "_check_asked" = _ := (He.glo_ok X G (c.fact 29 (f := .glo "_check_asked") rfl))
  obtain ⟨fd15, D15⟩ := c.def_ 15 (d := dOf "_law_at" sLawAt) rfl
  have F15 : Fun K "_law_at" "_law_at" sLawAt _ fd15 := fun_of D15
  have B15 := D15.bindsN (ps := ["script", "k"]) fun _ _ _ _ _ _ us hl => match us, hl with | [_, _], _ => rfl
  have M15 : mg "_law_at" = _ := (He.glo_ok X G (c.fact 30 (f := .glo "_law_at") rfl))
  obtain ⟨fd16, D16⟩ := c.def_ 16 (d := dOf "_law_mixed" sLawMixed) rfl
  have F16 : Fun K "_law_mixed" "_law_mixed" sLawMixed _ fd16 := fun_of D16
  have B16 := D16.bindsN (ps := ["cell", "k"]) fun _ _ _ _ _ _ us hl => match us, hl with | [_, _], _ => rfl
  have M16 : mg "_law_mixed" = _ := (He.glo_ok X G (c.fact 31 (f := .glo "_law_mixed") rfl))
  obtain ⟨fd17, D17⟩ := c.def_ 17 (d := dOf "_law_purse" sLawPurse) rfl
  have F17 : Fun K "_law_purse" "_law_purse" sLawPurse _ fd17 := fun_of D17
  have B17 := D17.bindsN (ps := ["script", "at"]) fun _ _ _ _ _ _ us hl => match us, hl with | [_, _], _ => rfl
  have M17 : mg "_law_purse" = _ := (He.glo_ok X G (c.fact 32 (f := .glo "_law_purse") rfl))
  obtain ⟨fd18, D18⟩ := c.def_ 18 (d := dOf "_law_draw" sLawDraw) rfl
  have F18 : Fun K "_law_draw" "_law_draw" sLawDraw _ fd18 := fun_of D18
  have B18 := D18.bindsN (ps := ["purse", "out_of"]) fun _ _ _ _ _ _ us hl => match us, hl with | [_, _], _ => rfl
  have M18 : mg "_law_draw" = _ := (He.glo_ok X G (c.fact 33 (f := .glo "_law_draw") rfl))
  obtain ⟨fd19, D19⟩ := c.def_ 19 (d := dOf "_law_parts" sLawParts) rfl
  have F19 : Fun K "_law_parts" "_law_parts" sLawParts _ fd19 := fun_of D19
  have B19 := D19.bindsN (ps := ["pool"]) fun _ _ _ _ _ _ us hl => match us, hl with | [_], _ => rfl
  have M19 : mg "_law_parts" = _ := (He.glo_ok X G (c.fact 34 (f := .glo "_law_parts") rfl))
  obtain ⟨fd20, D20⟩ := c.def_ 20 (d := dOf "_law_in" sLawIn) rfl
  have F20 : Fun K "_law_in" "_law_in" sLawIn _ fd20 := fun_of D20
  have B20 := D20.bindsN (ps := ["one", "other"]) fun _ _ _ _ _ _ us hl => match us, hl with | [_, _], _ => rfl
  have M20 : mg "_law_in" = _ := (He.glo_ok X G (c.fact 35 (f := .glo "_law_in") rfl))
  obtain ⟨fd21, D21⟩ := c.def_ 21 (d := dOf "_law_meet" sLawMeet) rfl
  have F21 : Fun K "_law_meet" "_law_meet" sLawMeet _ fd21 := fun_of D21
  have B21 := D21.bindsN (ps := ["one", "other"]) fun _ _ _ _ _ _ us hl => match us, hl with | [_, _], _ => rfl
  have M21 : mg "_law_meet" = _ := (He.glo_ok X G (c.fact 36 (f := .glo "_law_meet") rfl))
  obtain ⟨fd22, D22⟩ := c.def_ 22 (d := dOf "_law_why" sLawWhy) rfl
  have F22 : Fun K "_law_why" "_law_why" sLawWhy _ fd22 := fun_of D22
  have B22 := D22.bindsN (ps := ["rows", "sort"]) fun _ _ _ _ _ _ us hl => match us, hl with | [_, _], _ => rfl
  have M22 : mg "_law_why" = _ := (He.glo_ok X G (c.fact 37 (f := .glo "_law_why") rfl))
  obtain ⟨fd23, D23⟩ := c.def_ 23 (d := dOf "_law_closed" sLawClosed) rfl
  have F23 : Fun K "_law_closed" "_law_closed" sLawClosed _ fd23 := fun_of D23
  have B23 := D23.bindsN (ps := ["rows", "sort"]) fun _ _ _ _ _ _ us hl => match us, hl with | [_, _], _ => rfl
  have M23 : mg "_law_closed" = _ := (He.glo_ok X G (c.fact 38 (f := .glo "_law_closed") rfl))
  obtain ⟨fd24, D24⟩ := c.def_ 24 (d := dOf "_law_drawn" sLawDrawn) rfl
  have F24 : Fun K "_law_drawn" "_law_drawn" sLawDrawn _ fd24 := fun_of D24
  have B24 := D24.bindsN (ps := ["purse", "pool"]) fun _ _ _ _ _ _ us hl => match us, hl with | [_, _], _ => rfl
  have M24 : mg "_law_drawn" = _ := (He.glo_ok X G (c.fact 39 (f := .glo "_law_drawn") rfl))
  obtain ⟨fd25, D25⟩ := c.def_ 25 (d := dOf "law" sLaw) rfl
  have F25 : Fun K "law" "law" sLaw _ fd25 := fun_of D25
  have B25 := D25.bindsN (ps := ["script"]) fun _ _ _ _ _ _ us hl => match us, hl with | [_], _ => rfl
  have M25 : mg "law" = _ := (He.glo_ok X G (c.fact 40 (f := .glo "law") rfl))
  obtain ⟨fdB, DB⟩ := c.def_ 26 (d := dBarred) rfl
  have MB : mg "barred" = _ := (He.glo_ok X G (c.fact 14 (f := .glo "barred") rfl))
  have DB' : FunD K "barred" "barred" (defArgs sBarred) (defBody sBarred) (defScope sBarred) [.str anyS] [] _ fdB := DB
  obtain ⟨ds0, v0, BB0⟩ := DB'.binds1 (ps := ["pairs", "names", "kind"]) 3 1 (by simp) rfl fun T kV doc pm an cdv ct us its h1 h2 => match us, its, h1, h2 with | [_, _, _], [_], _, _ => ⟨_, rfl, rfl⟩
  obtain ⟨ds1, v1, BB1⟩ := DB'.binds1 (ps := ["pairs", "names", "kind"]) 2 0 (by simp) rfl fun T kV doc pm an cdv ct us its h1 h2 => match us, its, h1, h2 with | [_, _], [_], _, _ => ⟨_, rfl, rfl⟩
  obtain ⟨it1, w1, KB1⟩ := kbn_def (ps := ["pairs", "names", "kind"]) DB' (by simp) 0 ["pairs", "names"] (fun _ its ws => ws ++ its) (fun _ zs => zs ++ [.str anyS]) (fun T kV doc pm an cdv ct us its ws h1 h2 h3 => match us, its, ws, h1, h2, h3 with | [], [_], [_, _], _, _, _ => ⟨_, rfl, rfl⟩) (fun _ b c => vals_app c b)
  obtain ⟨it2, w2, KB2⟩ := kbn_def (ps := ["pairs", "names", "kind"]) DB' (by simp) 2 ["kind"] (fun us its ws => us ++ ws) (fun vs zs => vs ++ zs) (fun T kV doc pm an cdv ct us its ws h1 h2 h3 => match us, its, ws, h1, h2, h3 with | [_, _], [_], [_], _, _, _ => ⟨_, rfl, rfl⟩) (fun a _ c => vals_app a c)
  cases v0
  obtain ⟨dv, rfl, rdv⟩ : ∃ dv, ds1 = [dv] ∧ RelV (.str anyS) dv := by
    cases v1 with
    | cons r t =>
      cases t
      exact ⟨_, rfl, r⟩
  obtain ⟨dv', rfl⟩ : ∃ dv', it1 = [dv'] := by
    cases w1 with
    | cons r t =>
      cases t
      exact ⟨_, rfl⟩
  have T : Bl mg := ⟨He.free_ok X G (c.fact 0 (f := .free "len") rfl), He.free_ok X G (c.fact 1 (f := .free "isinstance") rfl), He.free_ok X G (c.fact 2 (f := .free "all") rfl), He.free_ok X G (c.fact 3 (f := .free "tuple") rfl), He.free_ok X G (c.fact 4 (f := .free "list") rfl), He.free_ok X G (c.fact 5 (f := .free "sorted") rfl), He.free_ok X G (c.fact 6 (f := .free "set") rfl), He.free_ok X G (c.fact 7 (f := .free "str") rfl), He.free_ok X G (c.fact 8 (f := .free "int") rfl), He.free_ok X G (c.fact 9 (f := .free "max") rfl), He.free_ok X G (c.fact 10 (f := .free "min") rfl), He.free_ok X G (c.fact 11 (f := .free "range") rfl)⟩
  have mL := He.str_ok X G (c.fact 12 (f := .str "LETTERS" lettersS) rfl)
  have mK : mg "KINDS" = _ := He.glo_ok X G (c.fact 13 (f := .glo "KINDS") rfl)
  have hK := He.tupB_ok ce
  have e := hfa_.symm.trans M25
  cases e
  refine ⟨fd25, fun s v => ?_, fun base _ _ => ?_⟩
  · exact FunD.bindsA (ps := ["script"]) D25 (fun _ _ _ _ _ _ us hl => match us, hl with | [_], _ => rfl) s [v] rfl
  have gIsName : ∀ k, FnOk P w K mg base CX0 (k + 1) _ fd0 ["thing"] (spIsName) := fun k => ok_isName (k := k) F0 T mL
  have gAre : ∀ k, FnOk P w K mg base CX0 (k + 2) _ fd1 ["thing"] (spAreNames K) := fun k => ok_areNames (k := k + 1) F1 T (gIsName k) B0 F0.kp M0
  have gSet : ∀ k, FnOk P w K mg base CX0 (k + 1) _ fd2 ["names"] (spSetOf K) := fun k => ok_setOf (k := k) F2 T
  have gIsW : ∀ k, FnOk P w K mg base CX0 (k + 3) _ fd3 ["thing"] (spIsWorld K) := fun k => ok_isWorld (k := k + 2) F3 T (gAre k) B1 F1.kp M1 (gSet (k + 1)) B2 F2.kp M2
  have gHas : ∀ k, FnOk P w K mg base CX0 (k + 1) _ fd4 ["names", "wanted"] (spHasAll K) := fun k => ok_hasAll (k := k) F4 T
  have gIsP : ∀ k, FnOk P w K mg base CX0 (k + 4) _ fd5 ["thing"] (spIsPair K) := fun k => ok_isPair (k := k + 3) F5 T (gIsW k) B3 F3.kp M3 (gHas (k + 2)) B4 F4.kp M4
  have gCW : ∀ k, FnOk P w K mg base CX0 (k + 4) _ fd6 ["thing"] (spCheckWorld K) := fun k => ok_checkWorld (k := k + 3) F6 (gIsW k) B3 F3.kp M3
  have gCK : ∀ k, FnOk P w K mg base CX0 (k + 1) _ fd7 ["thing", "kinds"] (spCheckKind K) := fun k => ok_checkKind (k := k) F7
  have gTot : ∀ k, FnOk P w K mg base CX0 (k + 1) _ fd8 ["chosen", "present"] (spTotal K P w) := fun k => ok_total (k := k) F8
  have gUp : ∀ k, FnOk P w K mg base CX0 (k + 2) _ fd9 ["chosen", "present"] (spUpward K P w) := fun k => ok_upward (k := k + 1) F9 (gHas k) B4 F4.kp M4
  have gCom : ∀ k, FnOk P w K mg base CX0 (k + 1) _ fd10 ["one", "other"] (spCommon K) := fun k => ok_common (k := k) F10 T
  have gBel : ∀ k, FnOk P w K mg base CX0 (k + 1) _ fd11 ["chosen"] (spBelow K P w) := fun k => ok_below (k := k) F11
  have gMe : ∀ k, FnOk P w K mg base CX0 (k + 2) _ fd12 ["chosen", "present"] (spMeeting K P w) := fun k => ok_meeting (k := k + 1) F12 (gBel k) B11 F11.kp M11 (gCom k) B10 F10.kp M10
  have gWhy : ∀ k, FnOk P w K mg base CX0 (k + 3) _ fd13 ["chosen", "kind"] (spWhyNot K) := fun k => ok_whyNot (k := k + 2) F13 (gTot (k + 1)) B8 F8.kp M8 (gUp k) B9 F9.kp M9 (gMe k) B12 F12.kp M12
  have gAsk : ∀ k, FnOk P w K mg base CX0 (k + 5) _ fd14 ["pairs", "names", "kind"] (spAsked K) := fun k => ok_asked (k := k + 4) F14 (gCW k) B6 F6.kp M6 (gIsP k) B5 F5.kp M5 (gHas (k + 3)) B4 F4.kp M4 (gCK (k + 3)) B7 F7.kp M7 mK hK
  have gAt : ∀ k, FnOk P w K mg base CX0 (k + 1) _ fd15 ["script", "k"] (spLawAt K) := fun k => ok_lawAt (k := k) F15 T
  have gMix : ∀ k, FnOk P w K mg base CX0 (k + 1) _ fd16 ["cell", "k"] (spLawMixed) := fun k => ok_lawMixed (k := k) F16 T
  have gPur : ∀ k, FnOk P w K mg base CX0 (k + 2) _ fd17 ["script", "at"] (spLawPurse K) := fun k => ok_lawPurse (k := k + 1) F17 T (gAt k) B15 F15.kp M15
  have gDraw : ∀ k, FnOk P w K mg base CX0 (k + 2) _ fd18 ["purse", "out_of"] (spLawDraw) := fun k => ok_lawDraw (k := k + 1) F18 T (gMix k) B16 F16.kp M16
  have gParts : ∀ k, FnOk P w K mg base CX0 (k + 1) _ fd19 ["pool"] (spLawParts K) := fun k => ok_lawParts (k := k) F19 T
  have gIn : ∀ k, FnOk P w K mg base CX0 (k + 1) _ fd20 ["one", "other"] (spLawIn K) := fun k => ok_lawIn (k := k) F20
  have gMeet : ∀ k, FnOk P w K mg base CX0 (k + 1) _ fd21 ["one", "other"] (spCommon K) := fun k => ok_lawMeet (k := k) F21 T
  have gLWhy : ∀ k, FnOk P w K mg base CX0 (k + 2) _ fd22 ["rows", "sort"] (spLawWhy K) := fun k => ok_lawWhy (k := k + 1) F22 T (gParts k) B19 F19.kp M19 (gIn k) B20 F20.kp M20 (gMeet k) B21 F21.kp M21
  have gClo : ∀ k, FnOk P w K mg base CX0 (k + 3) _ fd23 ["rows", "sort"] (spLawClosed K) := fun k => ok_lawClosed (k := k + 2) F23 T (gLWhy k) B22 F22.kp M22 (gMeet (k + 1)) B21 F21.kp M21
  have gDrawn : ∀ k, FnOk P w K mg base CX0 (k + 3) _ fd24 ["purse", "pool"] (spLawDrawn K) := fun k => ok_lawDrawn (k := k + 2) F24 T (gDraw k) B18 F18.kp M18 (gParts (k + 1)) B19 F19.kp M19
  have gBar : ∀ k, FnOk P w K mg base CX0 (k + 6) _ fdB ["pairs", "names", "kind"] (spBarred K) := fun k => ok_barred (k := k + 5) DB' T (gAsk k) B14 F14.kp M14 (gWhy (k + 2)) B13 F13.kp M13
  exact ok_law (k := 6) F25 T (gPur 4) B17 F17.kp M17 (gDraw 4) B18 F18.kp M18 (gDrawn 3) B24 F24.kp M24 (gClo 3) B23 F23.kp M23 (gLWhy 4) B22 F22.kp M22 (gBar 0) BB0 BB1 rdv KB1 KB2 DB'.kp MB
end Rw
open PySem PySem.W PySem.Calls PyProof.Rows
theorem PySem.Challenge.cw_ruleworlds_k25_sets_of_pairs_barred_holds : PySem.Challenge.rw_ruleworlds_k25_sets_of_pairs_barred.Holds := by
  w_on; o_law
  refine HandSHeadRun.head_any (r := OpenLaw.row PySem.Challenge.rw_ruleworlds_k25_sets_of_pairs_barred) (q := view (OpenLaw.row PySem.Challenge.rw_ruleworlds_k25_sets_of_pairs_barred).prog [37]) (H := Rw.hH) (ob := Rw.hob) (M := 3000) (loose := Rw.hloose) (d := HandSHeadRun.topDef (OpenLaw.row PySem.Challenge.rw_ruleworlds_k25_sets_of_pairs_barred).prog 37) (kwd := []) Rw.hob_eq
    (by kernel_rfl) (fun s => by kernel_rfl) Rw.hrun (by kernel_rfl) (by kernel_rfl) (by kernel_rfl) (by rfl) (by first | assumption | decide +kernel) (by decide +kernel) ⟨rfl, rfl, rfl, rfl, rfl, by decide +kernel⟩ ?hw ?hc
  case hw => w_witness2
  case hc =>
    refine L2.walk_ofE (l := PySem.Challenge.rw_ruleworlds_k25_sets_of_pairs_barred) (n := 63) (k := 7) (x := "script") (CX := L2.CX0) rfl (by decide) (by kernel_rfl) ⟨rfl, by decide, by decide⟩ ?F (fun _ _ _ _ z => z)
    intro w mg fa h Y G hmg0
    obtain ⟨K, KX, c⟩ := Y
    have hmg : mg ("law" : PySem.Str) = some (.ref fa) := by
      have e : (HandSHeadRun.topDef (OpenLaw.row PySem.Challenge.rw_ruleworlds_k25_sets_of_pairs_barred).prog 37).name = ("law" : PySem.Str) := by kernel_rfl
      rw [← e]
      exact hmg0
    obtain ⟨fd, hb, hF⟩ := Rw.hfacts (P := (PySem.Challenge.rw_ruleworlds_k25_sets_of_pairs_barred).prog) (w := w) KX G hmg c.t.d c.more
    exact ⟨K, fd, Rw.spLaw K, KX, hb, fun H a ns hl _ hS => ⟨a, ns, rfl, hS, hl, fun _ => rfl⟩, hF⟩
