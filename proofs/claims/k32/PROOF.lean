import PyProof.Rows.All
import Wide.All
import OpenK.AllK
import Wide.FinOn
import HandS.TupSets
import KE.KeyNested
import KE.KDictKeyed
import KE.SortData
import HandS.SetTxt0
import KE.DataCmp
import HandS.ForMost
import HandS.DictComp
import KE.GoesComp
import KE.GoesMore
import HandS.IsInst
import HandS.Defaults
import HandS.TupAny
import HandS.Deep
import HandS.Style
import HandS.Star
import HandS.ClsMeth
import HandS.Property
import HandS.CallLocal
import HandS.Exc
import HandS.ExcInit
import HandS.ExcValue
import HandS.ExcIs
import HandS.ExcField
import PySem.Challenge.RW_ruleworlds_k32_splitting
import HandS.WordsExc
import HandS.WideBits
import KE.IntBitsLaws
import HandS.ExcOwn
import HandS.SlotsOwn
import KE.KStateDown
import HandS.Head0
import HandS.Head1
import HandS.Head2
import HandS.HeadEnd
import HandS.HeadHook1
import HandS.HeadHook2
import HandS.HeadHook3
import HandS.HeadHook4
import HandS.HeadNt
set_option Elab.async false
set_option linter.all false
set_option maxRecDepth 100000
set_option maxHeartbeats 0
/-! Sets whose members are texts, or tuples of texts and of such tuples: made of a list or a tuple, and gathered again. -/
namespace Rw
open PySem PySem.Spec PyProof.Rows L2
abbrev NK := NestedKey
section
variable {P : Program} {w : World}
/-! no class statement stands in a key -/
mutual
theorem noCls : ∀ (k : NK) (v : Value) (n : Nat) (A : Around) (E : Value → Shared → Prop) (s : Shared) (Q : Bool → Shared → Prop), NestedIs s.heap k v → k.depth ≤ n → Q false s → wpAny (model P w) A (ofAClassStatement n v) Q E s
  | .none, _, n, A, E, s, Q, x, _, h => by
    cases x
    cases n <;> exact wpAny_pure h
  | .num i, _, n, A, E, s, Q, x, _, h => by
    cases x <;> cases n <;> exact wpAny_pure h
  | .text y, _, n, A, E, s, Q, x, _, h => by
    cases x
    cases n <;> exact wpAny_pure h
  | .tup ks, _, n, A, E, s, Q, x, hn, h => by
    cases x with
    | @tup a o vs m _ hg hc hd hk =>
      simp only [NestedKey.depth] at hn
      cases n with
      | zero => omega
      | succ n =>
        have hT : s.TypeIs (.ref a) "tuple" := ⟨o, hg, hc⟩
        unfold ofAClassStatement
        refine wpAny_bind (wpAny_typeOf hT ?_)
        dsimp only
        have e : (("tuple" : String) == "tuple") = true := by decide
        simp only [e, if_true, Bool.not_true, Bool.false_eq_true, if_false]
        try refine wpAny_bind (wpAny_pure ?_)
        try simp only [Bool.not_true, Bool.false_eq_true, if_false]
        show wpAny _ _ (seqItems? (.ref a) >>= _) _ _ s
        refine wpAny_bind (wpAny_seqItems hg hd ?_)
        dsimp only
        refine wpAny_bind ?_
        show wpAny _ _ (forIn vs _ _) _ _ s
        rw [← Array.forIn_toList]
        refine noClsAll ks vs.toList n A E s _ hk (by omega) ?_
        exact wpAny_pure h
theorem noClsAll : ∀ (ks : List NK) (vs : List Value) (n : Nat) (A : Around) (E : Value → Shared → Prop) (s : Shared) (Q : Option Bool × Unit → Shared → Prop), NestedAll s.heap ks vs → NestedKey.depthAll ks ≤ n → Q (none, ()) s →
    wpAny (model P w) A (forIn vs ((none, ()) : Option Bool × Unit) fun y r => do if ← ofAClassStatement n y then pure (ForInStep.done (some true, ())) else pure (ForInStep.yield (none, ()))) Q E s
  | [], _, n, A, E, s, Q, x, _, h => by
    cases x
    exact wpAny_pure h
  | k :: ks, _, n, A, E, s, Q, x, hn, h => by
    cases x with
    | cons x1 x2 =>
      simp only [NestedKey.depthAll] at hn
      rw [List.forIn_cons]
      refine wpAny_bind (wpAny_bind (noCls k _ n A E s _ x1 (by omega) ?_))
      simp only [Bool.false_eq_true, if_false]
      refine wpAny_pure ?_
      exact noClsAll ks _ n A E s Q x2 (by omega) h
end
/-! whether a key is hashed by its value: either answer -/
mutual
theorem byVal : ∀ (k : NK) (v : Value) (n : Nat) (A : Around) (E : Value → Shared → Prop) (s : Shared) (Q : Bool → Shared → Prop), NestedIs s.heap k v → (∀ b, Q b s) → wpAny (model P w) A (hashByValue n v) Q E s
  | .none, _, n, A, E, s, Q, x, h => by
    cases x
    cases n <;> exact wpAny_pure (h _)
  | .num i, _, n, A, E, s, Q, x, h => by
    cases x <;> cases n <;> exact wpAny_pure (h _)
  | .text y, _, n, A, E, s, Q, x, h => by
    cases x
    cases n <;> exact wpAny_pure (h _)
  | .tup ks, _, n, A, E, s, Q, x, h => by
    cases x with
    | @tup a o vs m _ hg hc hd hk =>
      cases n with
      | zero => exact wpAny_pure (h _)
      | succ n =>
        have hT : s.TypeIs (.ref a) "tuple" := ⟨o, hg, hc⟩
        unfold hashByValue
        refine wpAny_bind (wpAny_specialOf hT F.slot_tuple_hash.lookup ?_)
        show wpAny _ _ (seqItems? (.ref a) >>= _) _ _ s
        refine wpAny_bind (wpAny_seqItems hg hd ?_)
        refine wpAny_bind ?_
        show wpAny _ _ (forIn vs _ _) _ _ s
        rw [← Array.forIn_toList]
        refine byValAll ks vs.toList n A E s _ hk ?_ ?_
        · exact wpAny_pure (h _)
        · exact wpAny_pure (h _)
theorem byValAll : ∀ (ks : List NK) (vs : List Value) (n : Nat) (A : Around) (E : Value → Shared → Prop) (s : Shared) (Q : Option Bool × Unit → Shared → Prop), NestedAll s.heap ks vs → Q (none, ()) s → Q (some false, ()) s →
    wpAny (model P w) A (forIn vs ((none, ()) : Option Bool × Unit) fun y r => do if !(← hashByValue n y) then pure (ForInStep.done (some false, ())) else pure (ForInStep.yield (none, ()))) Q E s
  | [], _, n, A, E, s, Q, x, h, _ => by
    cases x
    exact wpAny_pure h
  | k :: ks, _, n, A, E, s, Q, x, h, h2 => by
    cases x with
    | cons x1 x2 =>
      rw [List.forIn_cons]
      refine wpAny_bind (wpAny_bind (byVal k _ n A E s _ x1 fun b => ?_))
      cases b with
      | true =>
        simp only [Bool.not_true, Bool.false_eq_true, if_false]
        refine wpAny_pure ?_
        exact byValAll ks _ n A E s Q x2 h h2
      | false =>
        simp only [Bool.not_false, if_true]
        exact wpAny_pure (wpAny_pure h2)
end
end
/-! ### sets of tuples -/
/-- a tuple that is a key, not too deep -/
def TupK (h : Heap) (k : NK) (a : Addr) : Prop := NestedIs h k (.ref a) ∧ k.depth ≤ 8
theorem TupK.one {h : Heap} {k k' : NK} {a : Addr} (x : TupK h k a) (y : TupK h k' a) : k = k' := NestedIs.inj _ _ _ x.1 y.1
theorem TupK.kept {h h' : Heap} {k : NK} {a : Addr} (x : TupK h k a) (u : ∀ b o, h.get? b = some o → h'.get? b = some o) : TupK h' k a :=
  ⟨NestedIs.at (fun b o _ _ e _ => u b o e) _ _ x.1, x.2⟩
/-- all but a set stays -/
theorem TupK.butSet {h h' : Heap} {k : NK} {a b : Addr} {o : Obj} {es : Array (Int × Value)} {ep : Nat} {t : SetTable} (x : TupK h k b) (ho : h.get? a = some o) (hd : o.data = .set es ep t) (sb : Heap.SameBut a h h') : TupK h' k b := by
  refine ⟨NestedIs.at (fun c u vs n e es' => (sb.2 c ?_).trans e) _ _ x.1, x.2⟩
  intro z
  subst z
  have q : u = o := Option.some.inj (e.symm.trans ho)
  rw [q, hd] at es'
  exact nomatch es'
/-- the entries of a table -/
def ents (w : World) (L : List (Addr × NK)) : List (Int × Value) := L.map fun p => (p.2.hash w, Value.ref p.1)
def hashes (w : World) (L : List (Addr × NK)) : List Int := L.map fun p => p.2.hash w
theorem ents_len (w : World) (L : List (Addr × NK)) : (ents w L).length = L.length := List.length_map _
theorem hashes_len (w : World) (L : List (Addr × NK)) : (hashes w L).length = L.length := List.length_map _
structure TSet (P : Program) (w : World) (h : Heap) (a : Addr) (L : List (Addr × NK)) (es : Array (Int × Value)) (ep : Nat) (t : SetTable) : Prop where
  ob : ∃ o, h.get? a = some o ∧ o.ExactSet ∧ o.data = .set es ep t
  en : es.toList = ents w L
  tab : TabOk t (hashes w L)
  nd : (L.map (·.2)).Nodup
  ks : ∀ p ∈ L, TupK h p.2 p.1
  led : w.params.followText "set-order" = true ∨ t.led = true
  room : L.length * 5 < t.mask * 3
  few : L.length < 64
section
variable {P : Program} {w : World} {A : Around} {E : Value → Shared → Prop} {s : Shared} {a : Addr} {L : List (Addr × NK)} {es : Array (Int × Value)} {ep : Nat} {t : SetTable}
theorem size_of_ents (h : es.toList = ents w L) : es.size = L.length := by
  rw [← Array.length_toList, h, ents_len]
theorem TSet.fits (R : TSet P w s.heap a L es ep t) : t.fits es.size = true := by
  have a1 := R.tab.sz
  have a2 := size_of_ents R.en
  have a3 := R.room
  rw [hashes_len] at a1
  unfold SetTable.fits SetTable.fill
  rw [R.tab.dm, Bool.and_eq_true, beq_iff_eq, decide_eq_true_eq]
  refine ⟨by omega, ?_⟩
  show t.place.size + 0 ≤ t.mask
  omega
theorem TSet.at (R : TSet P w s.heap a L es ep t) {i : Nat} {p : Addr × NK} (h : L[i]? = some p) : es[i]? = some (p.2.hash w, Value.ref p.1) := by
  rw [← Array.getElem?_toList, R.en]
  unfold ents
  rw [List.getElem?_map, h]
  rfl
/-- nobody sees a search among such tuples -/
theorem unseen {k : NK} {b : Addr} {Q : Bool → Shared → Prop} (hk : TupK s.heap k b) {ys : List Value} (hy : ∀ y ∈ ys, ∃ k' c, y = Value.ref c ∧ TupK s.heap k' c) (h : Q false s) : wpAny (model P w) A (searchCouldBeSeen (.ref b) ys) Q E s := by
  unfold searchCouldBeSeen
  refine wpAny_bind ?_
  refine wpAny_forIn_list _ (fun rest r s' => r.1 = none ∧ s' = s ∧ ∀ y ∈ rest, ∃ k' c, y = Value.ref c ∧ TupK s.heap k' c) _ ?turn ?last _ _ ⟨rfl, rfl, hy⟩
  case turn =>
    rintro v rest r s' ⟨hr, rfl, all⟩
    obtain ⟨k', c, rfl, hc⟩ := all v List.mem_cons_self
    have more : ∀ y ∈ rest, ∃ k' c, y = Value.ref c ∧ TupK s'.heap k' c := fun u hu => all u (List.mem_cons_of_mem _ hu)
    dsimp only
    by_cases hv : (b == c || (carriedByValue (.ref b) && carriedByValue (.ref c))) = true
    · exact wp_if_pos hv (wpAny_pure ⟨rfl, rfl, more⟩)
    · refine wp_if_neg hv (wpAny_bind ((nestedKind P w).quiet (k := k) hk ?_))
      simp only [Bool.not_true, Bool.false_eq_true, if_false]
      refine wpAny_bind ((nestedKind P w).quiet (k := k') hc ?_)
      simp only [Bool.not_true, Bool.false_eq_true, if_false]
      refine wpAny_bind (noCls k _ 8 _ _ _ _ hk.1 hk.2 ?_)
      simp only [Bool.false_eq_true, if_false]
      refine wpAny_bind (noCls k' _ 8 _ _ _ _ hc.1 hc.2 ?_)
      simp only [Bool.false_eq_true, if_false]
      exact wpAny_pure ⟨rfl, rfl, more⟩
  case last =>
    rintro ⟨r1, r2⟩ s' ⟨hr, rfl, _⟩
    simp only at hr
    subst hr
    exact wpAny_pure h
end
/-! ### the search -/
/-- the states of a search for the hash g, one after the other -/
def st (m : Nat) (g : Int) (c : Nat) : SetTable.Probe := nth m (runAt m (SetTable.bits g % (m + 1)) (SetTable.bits g)) c
theorem st_way (m : Nat) (g : Int) (c : Nat) : (st m g c).j = way m g c := rfl
theorem st_more (m : Nat) (g : Int) (c q : Nat) : nth m (st m g c) q = st m g (c + q) := (nth_add m c _ q).symm
theorem nth_dummy (m : Nat) : ∀ (n : Nat) (p : SetTable.Probe), p.dummy = none → (nth m p n).dummy = none
  | 0, _, h => h
  | n + 1, p, h => nth_dummy m n (adv m p) (by unfold adv; split <;> exact h)
theorem st_dummy (m : Nat) (g : Int) (c : Nat) : (st m g c).dummy = none := nth_dummy m c _ rfl
section
variable {P : Program} {w : World} {A : Around} {E : Value → Shared → Prop} {s : Shared} {a : Addr} {L : List (Addr × NK)} {es : Array (Int × Value)} {ep : Nat} {t : SetTable}
theorem hunt (R : TSet P w s.heap a L es ep t) {x : Addr} {k : NK} (hx : TupK s.heap k x) (hu : A.units + 8 < cLine) {g : Int} (hg : g = k.hash w) {K : Nat} (hf : K < 10 * SetTable.turns t.mask)
    (free : way t.mask g K ∉ t.place.toList) (full : ∀ c, c < K → way t.mask g c ∈ t.place.toList) {Q : SetFound → Shared → Prop}
    (yes : k ∈ L.map (·.2) → Q (.there none) s) (no : k ∉ L.map (·.2) → Q (.free (way t.mask g K) false) s) :
    ∀ (f c : Nat) (stand : Option SetTable.Probe), stand.getD (t.probeStart g) = st t.mask g c → c ≤ K → K - c < f →
      (∀ (i : Nat) p, L[i]? = some p → p.2 = k → ∃ c', c ≤ c' ∧ c' < K ∧ t.place.toList[i]? = some (way t.mask g c')) →
      wpAny (model P w) A (setSearchFrom a (.ref x) g true f stand) Q E s
  | 0, c, stand, _, _, h, _ => absurd h (Nat.not_lt_zero _)
  | f + 1, c, stand, hst, hc, hlt, ahead => by
    obtain ⟨o, ho, hex, hd⟩ := R.ob
    have big := R.fits
    have hashOf : ∀ (i : Nat) p, L[i]? = some p → (es[i]?.map (·.1)).getD 0 = p.2.hash w := fun i p hp => by
      rw [R.at hp]
      rfl
    have oddM := mask_odd R.tab.mok
    rw [setSearchFrom_succ]
    refine wpAny_bind (wpAny_setState_of ho hd big ?_)
    dsimp only
    refine wp_if_neg (by unfold SetTable.gaveWay; rw [oddM]; decide) ?_
    try refine wpAny_bind (wpAny_pure ?_)
    have jAt : ∀ q, (nth t.mask (st t.mask g c) q).j = way t.mask g (c + q) := fun q => congrArg SetTable.Probe.j (st_more t.mask g c q)
    rcases go_spec t R.tab.ris R.tab.dm (fun i => (es[i]?.map (·.1)).getD 0) g (10 * SetTable.turns t.mask) (K - c) (st t.mask g c) (st_dummy _ _ _) (by omega)
      (fun q hq => by rw [jAt]; exact full (c + q) (by omega)) (by rw [jAt, show c + (K - c) = K by omega]; exact free) with ⟨q, i, hq, hi, hh, first, met⟩ | ⟨none_, met⟩
    · -- an entry of this hash
      have met' : t.probe (fun i => (es[i]?.map (·.1)).getD 0) g (stand.getD (t.probeStart g)) = some (.candidate (way t.mask g (c + q)) i (st t.mask g (c + (q + 1)))) := by
        rw [hst, ← jAt, ← st_more]
        exact met
      rw [met']
      dsimp only
      rw [jAt] at hi
      have il : i < L.length := by
        have z1 : i < t.place.toList.length := (List.getElem?_eq_some_iff.mp hi).1
        have z2 := R.tab.sz
        rw [hashes_len] at z2
        rw [Array.length_toList] at z1
        omega
      obtain ⟨p, hp⟩ : ∃ p, L[i]? = some p := ⟨L[i], List.getElem?_eq_getElem il⟩
      have pm : p ∈ L := List.mem_of_getElem? hp
      have pk := R.ks p pm
      have go : wpAny (model P w) A (searchRest a (.ref x) g true f es t (way t.mask g (c + q)) i (st t.mask g (c + (q + 1)))) Q E s := by
        unfold searchRest
        rw [R.at hp]
        dsimp only
        refine wpAny_bind (wpAny_holding ((nestedKind P w).eqBool (x := p.2) (y := k) hu pk hx ?_))
        refine wpAny_bind (wpAny_setState_of ho hd big ?_)
        dsimp only
        by_cases same : p.2 = k
        · refine wp_if_pos (by simp [same]) (wpAny_pure (yes ?_))
          exact List.mem_map.mpr ⟨p, pm, same⟩
        · refine wp_if_neg (by simp [same]) ?_
          try refine wpAny_bind (wpAny_pure ?_)
          rw [sameMem]
          dsimp only
          have live : t.slot (way t.mask g (c + q)) = .live i := slot_live R.tab.ris hi
          simp only [if_true, live, R.at hp]
          refine wpAny_bind (wpAny_isSame_ref_self (wpAny_bind (wpAny_pure ?_)))
          simp only [if_true]
          refine wp_if_neg (by simp [same]) ?_
          refine hunt R hx hu hg hf free full yes no f (c + (q + 1)) _ rfl (by omega) (by omega) fun i0 p0 h0 k0 => ?_
          obtain ⟨c', b1, b2, b3⟩ := ahead i0 p0 h0 k0
          refine ⟨c', ?_, b2, b3⟩
          by_cases ec : c' = c + q
          · exfalso
            rw [ec] at b3
            have l0 := slot_live R.tab.ris b3
            rw [live] at l0
            injection l0 with l0
            rw [← l0, hp] at h0
            exact same ((congrArg Prod.snd (Option.some.inj h0)).trans k0)
          · by_cases lt : c' < c + q
            · exfalso
              refine first (c' - c) i0 (by omega) (by rw [jAt, show c + (c' - c) = c' by omega]; exact b3) ?_
              show (es[i0]?.map (·.1)).getD 0 = g
              rw [hashOf i0 p0 h0, k0, hg]
            · omega
      by_cases hl : t.led = true
      · refine wp_if_neg (by simp [hl]) ?_
        try refine wpAny_bind (wpAny_pure ?_)
        exact go
      · refine wp_if_pos (by simp [hl]) (wpAny_bind (unseen hx (fun y hy => ?_) ?_))
        · obtain ⟨e, he, ee⟩ := List.mem_map.mp hy
          have he1 : e ∈ es ∧ e.1 = g := by simpa using he
          have he2 : e ∈ es.toList := by simpa using he1.1
          rw [R.en] at he2
          obtain ⟨p2, hp2, e2⟩ := List.mem_map.mp he2
          exact ⟨p2.2, p2.1, by rw [← ee, ← e2], R.ks p2 hp2⟩
        · refine wp_if_neg (by decide) ?_
          try refine wpAny_bind (wpAny_pure ?_)
          exact go
    · -- a free slot
      have met' : t.probe (fun i => (es[i]?.map (·.1)).getD 0) g (stand.getD (t.probeStart g)) = some (.empty (way t.mask g K) none) := by
        have e2 : way t.mask g K = (nth t.mask (st t.mask g c) (K - c)).j := by
          rw [jAt, show c + (K - c) = K by omega]
        rw [hst, e2]
        exact met
      rw [met']
      dsimp only
      refine wpAny_pure (no fun hm => ?_)
      obtain ⟨p0, m0, k0⟩ := List.mem_map.mp hm
      obtain ⟨i0, hi0, e0⟩ := List.getElem_of_mem m0
      have h0 : L[i0]? = some p0 := by rw [List.getElem?_eq_getElem hi0, e0]
      obtain ⟨c', b1, b2, b3⟩ := ahead i0 p0 h0 k0
      refine none_ (c' - c) i0 (by omega) (by rw [jAt, show c + (c' - c) = c' by omega]; exact b3) ?_
      show (es[i0]?.map (·.1)).getD 0 = g
      rw [hashOf i0 p0 h0, k0, hg]
theorem hunted (R : TSet P w s.heap a L es ep t) {x : Addr} {k : NK} (hx : TupK s.heap k x) (hu : A.units + 8 < cLine) {Q : SetFound → Shared → Prop} (yes : k ∈ L.map (·.2) → Q (.there none) s)
    (no : ∀ K, k ∉ L.map (·.2) → way t.mask (k.hash w) K ∉ t.place.toList → (∀ c, c < K → way t.mask (k.hash w) c ∈ t.place.toList) → Q (.free (way t.mask (k.hash w) K) false) s) :
    wpAny (model P w) A (setSearch a (.ref x) (k.hash w) true) Q E s := by
  have space := R.room
  obtain ⟨K, kf, free, full⟩ := R.tab.first (by rw [hashes_len]; omega) (k.hash w)
  have small : K < 100000 := by
    have : 10 * SetTable.turns t.mask ≤ 1420 := by
      unfold SetTable.turns
      rcases R.tab.mok with e | e | e <;> omega
    omega
  unfold setSearch
  refine hunt R hx hu rfl kf free full yes (fun hn => no K hn free full) 100000 0 none rfl (Nat.zero_le _) (by omega) fun i p hp hk => ?_
  have hi : (hashes w L)[i]? = some (k.hash w) := by
    unfold hashes
    rw [List.getElem?_map, hp, ← hk]
    rfl
  have il : i < t.place.toList.length := by
    have z1 : i < L.length := (List.getElem?_eq_some_iff.mp hp).1
    have z2 := R.tab.sz
    rw [hashes_len] at z2
    rw [Array.length_toList]
    omega
  have hj := List.getElem?_eq_getElem il
  obtain ⟨c, hc, e⟩ := R.tab.before free hi hj
  exact ⟨c, Nat.zero_le _, hc, by rw [hj, e]⟩
end
/-! ### one put in -/
theorem relist {w : World} (L : List (Addr × NK)) (es : Array (Int × Value)) (order : Array Nat) (he : es.toList = ents w L) (hp : order.toList.Perm (List.range L.length)) :
    ∃ L2, (order.filterMap (es[·]?)).toList = ents w L2 ∧ L2.Perm L ∧ hashes w L2 = order.toList.map fun i => (es.map (·.1)).getD i 0 := by
  have one : ∀ i (h : i < L.length), es[i]? = some ((L[i]).2.hash w, Value.ref (L[i]).1) := fun i h => by
    rw [← Array.getElem?_toList, he]
    unfold ents
    rw [List.getElem?_map, List.getElem?_eq_getElem h]
    rfl
  have all : ∀ l : List Nat, (∀ i ∈ l, i < L.length) → l.filterMap (fun i => es[i]?) = ents w (l.filterMap fun i => L[i]?) ∧ hashes w (l.filterMap fun i => L[i]?) = l.map fun i => (es.map (·.1)).getD i 0 := by
    intro l
    induction l with
    | nil => exact fun _ => ⟨rfl, rfl⟩
    | cons i l ih =>
      intro hl
      have hi := hl i List.mem_cons_self
      obtain ⟨e1, e2⟩ := ih fun j hj => hl j (List.mem_cons_of_mem _ hj)
      rw [List.filterMap_cons_some (List.getElem?_eq_getElem hi), List.filterMap_cons_some (one i hi), e1, List.map_cons, ← e2]
      refine ⟨rfl, ?_⟩
      have e5 : (es.map (·.1))[i]? = some ((L[i]).2.hash w) := by
        rw [Array.getElem?_map, one i hi]
        rfl
      have e4 : (es.map (·.1)).getD i 0 = (L[i]).2.hash w := by simp [Array.getD_eq_getD_getElem?, e5]
      rw [e4]
      rfl
  obtain ⟨e1, e2⟩ := all order.toList fun i hi => List.mem_range.mp (hp.mem_iff.mp hi)
  refine ⟨order.toList.filterMap fun i => L[i]?, by first | (rw [Array.toList_filterMap]; exact e1) | simpa using e1, ?_, e2⟩
  have z := hp.filterMap fun i => L[i]?
  rw [List.filterMap_getElem?_range_length] at z
  exact z
theorem TabOk.unplain {t : SetTable} {hs : List Int} (T : TabOk t hs) : TabOk { t with plain := false } hs := ⟨T.ris, T.dm, T.sz, T.mok, T.bd, T.reach⟩
section
variable {P : Program} {w : World} {A : Around} {E : Value → Shared → Prop} {s : Shared} {a : Addr} {L : List (Addr × NK)} {es : Array (Int × Value)} {ep : Nat} {t : SetTable}
theorem relaid_at {o : Obj} (ho : s.heap.get? a = some o) (hex : o.ExactSet) (hd : o.data = .set es ep t) (en : es.toList = ents w L) (tab : TabOk t (hashes w L)) (hfl : L.length ≤ t.mask)
    (nd : (L.map (·.2)).Nodup) (ks : ∀ p ∈ L, TupK s.heap p.2 p.1) (ld : w.params.followText "set-order" = true ∨ t.led = true) (few : L.length < 64) {wanted M : Nat}
    (hw : SetTable.sizeAbove wanted - 1 = M) (hM : MaskOk M) (hw2 : SetTable.sizeAbove wanted ≤ 128) (hn : L.length * 5 < M * 3) {Q : Unit → Shared → Prop}
    (hQ : ∀ h' L' es' ep' t', Heap.SameBut a s.heap h' → TSet P w h' a L' es' ep' t' → L'.Perm L → Q () { s with heap := h' }) : wpAny (model P w) A (setRelay a wanted) Q E s := by
  have hsl := size_of_ents en
  have hps : t.place.size = es.size := by rw [tab.sz, hashes_len, hsl]
  have fits : t.fits es.size = true := by
    unfold SetTable.fits SetTable.fill
    rw [tab.dm, Bool.and_eq_true, beq_iff_eq, decide_eq_true_eq]
    refine ⟨hps, ?_⟩
    show t.place.size + 0 ≤ t.mask
    omega
  obtain ⟨t', order, e, hp, T, em, el, _, _⟩ := relaid_ok t (hs := es.map (·.1)) (wanted := wanted) hw hM (by rw [Array.size_map, hsl]; omega)
  rw [Array.size_map, hsl] at hp
  obtain ⟨L2, r1, r2, r3⟩ := relist L es order en hp
  rw [← r3] at T
  have hs2 : (order.filterMap (es[·]?)).size = es.size := by rw [size_of_ents r1, r2.length_eq, hsl]
  rw [setRelay_eq]
  refine wpAny_bind (wpAny_setState_of ho hd fits ?_)
  dsimp only
  refine wp_if_neg (by rw [sizeLine_eq]; omega) ?_
  try refine wpAny_bind (wpAny_pure ?_)
  rw [e]
  dsimp only
  refine wpAny_bind (wp_if_neg (by rw [hs2]; simp) ?_)
  try refine wpAny_bind (wpAny_pure ?_)
  refine wpAny_pure ?_
  dsimp only
  refine wpAny_storeSet_of ho hd ?_ (by rw [hs2, hsl, sizeLine_eq]; omega)
  have sb : Heap.SameBut a s.heap (s.heap.update a (Obj.putSet (order.filterMap (es[·]?)) t')) := Heap.SameBut.update ..
  refine hQ _ L2 (order.filterMap (es[·]?)) (ep + 1) t' sb ⟨⟨_, store_at ho hd, ⟨hex.1, hex.2.1, hex.2.2⟩, rfl⟩, r1, T, (r2.map (·.2)).nodup_iff.mpr nd, fun p hpm => (ks p (r2.mem_iff.mp hpm)).butSet ho hd sb, by rw [el]; exact ld, ?_, by rw [r2.length_eq]; exact few⟩ r2
  rw [r2.length_eq, em]
  exact hn
/-- adding -/
theorem added (R : TSet P w s.heap a L es ep t) {x : Addr} {k : NK} (hx : TupK s.heap k x) (hu : A.units + 8 < cLine) (hfew : L.length + 1 < 64) {Q : Bool → Shared → Prop}
    (hQ : ∀ b h' L' es' ep' t', Heap.SameBut a s.heap h' → TSet P w h' a L' es' ep' t' → (k ∈ L.map (·.2) → L' = L) → (k ∉ L.map (·.2) → L'.Perm ((x, k) :: L)) → Q b { s with heap := h' }) :
    wpAny (model P w) A (setAddHashed a (.ref x) (k.hash w)) Q E s := by
  obtain ⟨o, ho, hex, hd⟩ := R.ob
  have hsl := size_of_ents R.en
  have hroom := R.room
  unfold setAddHashed
  refine wpAny_holding ?_
  rw [show (100000 : Nat) = 99999 + 1 from rfl, setAddHashedIn_succ]
  refine wpAny_bind (wpAny_setState_of ho hd R.fits ?_)
  dsimp only
  refine wp_if_neg (by simp [byScan, Value.scannable]) ?_
  try refine wpAny_bind (wpAny_pure ?_)
  refine wpAny_bind (hunted R hx hu (fun hm => ?_) fun K hm hK hb => ?_)
  · dsimp only
    exact wpAny_pure (hQ false s.heap L es ep t (Heap.SameBut.refl a s.heap) R (fun _ => rfl) fun z => absurd hm z)
  · dsimp only
    refine wpAny_bind (wpAny_setState_of ho hd R.fits ?_)
    dsimp only
    obtain ⟨q1, q2, q3, q4, q5, _, _, _, q9⟩ := R.tab.put hK hb
    generalize hpt : t.put (way t.mask (k.hash w) K) = pt at q1 q3 q4 q5 q9 ⊢
    obtain ⟨t1, p⟩ := pt
    dsimp only at q1 q3 q4 q5 q9 ⊢
    subst q1
    generalize hpp : SetTable.below t.place (way t.mask (k.hash w) K) = p at q2 q3 ⊢
    have hin : (SetTable.insertAt es p (k.hash w, Value.ref x)).toList = ents w (L.take p ++ (x, k) :: L.drop p) := by
      rw [SetTable.toList_insertAt, R.en]
      unfold ents
      rw [List.map_append, List.map_cons, List.map_take, List.map_drop]
    have pm := put_perm L p (x, k)
    have hlen : (L.take p ++ (x, k) :: L.drop p).length = L.length + 1 := pm.length_eq
    have hhs : hashes w (L.take p ++ (x, k) :: L.drop p) = (hashes w L).take p ++ k.hash w :: (hashes w L).drop p := by
      unfold hashes
      rw [List.map_append, List.map_cons, List.map_take, List.map_drop]
    rw [← hhs] at q3
    have nd1 : ((L.take p ++ (x, k) :: L.drop p).map (·.2)).Nodup := by
      refine (pm.map (·.2)).nodup_iff.mpr ?_
      rw [List.map_cons]
      exact List.nodup_cons.mpr ⟨hm, R.nd⟩
    have hes : (SetTable.insertAt es p (k.hash w, Value.ref x)).size = L.length + 1 := by rw [size_of_ents hin, hlen]
    generalize SetTable.insertAt es p (k.hash w, Value.ref x) = es1 at hin hes ⊢
    generalize L.take p ++ (x, k) :: L.drop p = L1 at pm hlen q3 nd1 hin
    have ld1 : w.params.followText "set-order" = true ∨ t1.led = true := by rw [q5]; exact R.led
    -- behind the question whether the hash is by value: t2 is t1, but for one mark
    have rest : ∀ t2 : SetTable, TabOk t2 (hashes w L1) → t2.mask = t.mask → t2.fill = L.length + 1 → (w.params.followText "set-order" = true ∨ t2.led = true) →
        wpAny (model P w) A (do
          storeSet a es1 t2
          if (!false && t2.tooFull) = true then do
              setRelay a (SetTable.grown (es.size + 1))
              pure true
            else pure true) Q E s := by
      intro t2 T2 m2 f2 l2
      refine wpAny_bind (wpAny_storeSet_of ho hd ?_ (by rw [hes, sizeLine_eq]; omega))
      have sb : Heap.SameBut a s.heap (s.heap.update a (Obj.putSet es1 t2)) := Heap.SameBut.update ..
      have ho1 := store_at (es' := es1) (t' := t2) ho hd
      generalize s.heap.update a (Obj.putSet es1 t2) = h1 at sb ho1 ⊢
      have ks1 : ∀ p ∈ L1, TupK h1 p.2 p.1 := fun p hp => by
        rcases List.mem_cons.mp (pm.mem_iff.mp hp) with e | hp
        · rw [e]
          exact hx.butSet ho hd sb
        · exact (R.ks p hp).butSet ho hd sb
      by_cases hf : t2.tooFull = true
      · refine wp_if_pos (by simp [hf]) ?_
        have hfull : (L.length + 1) * 5 ≥ t2.mask * 3 := by
          have h := hf
          unfold SetTable.tooFull at h
          rw [decide_eq_true_eq, f2] at h
          exact h
        rw [hsl]
        have two : (t.mask = 7 ∧ L.length = 4) ∨ (t.mask = 31 ∧ L.length = 18) := by
          rcases R.tab.mok with e | e | e
          · left; rw [m2, e] at hfull; rw [e] at hroom; exact ⟨e, by omega⟩
          · right; rw [m2, e] at hfull; rw [e] at hroom; exact ⟨e, by omega⟩
          · exfalso; rw [m2, e] at hfull; omega
        have go : ∀ M, SetTable.sizeAbove (SetTable.grown (L.length + 1)) - 1 = M → MaskOk M → SetTable.sizeAbove (SetTable.grown (L.length + 1)) ≤ 128 → (L.length + 1) * 5 < M * 3 →
            wpAny (model P w) A (do setRelay a (SetTable.grown (L.length + 1)); pure true) Q E { s with heap := h1 } := fun M e1 e2 e3 e4 => by
          refine wpAny_bind (relaid_at (s := { s with heap := h1 }) ho1 ⟨hex.1, hex.2.1, hex.2.2⟩ rfl hin T2 (by rw [hlen, m2]; rcases two with ⟨e, e'⟩ | ⟨e, e'⟩ <;> omega) nd1 ks1 l2 (by rw [hlen]; exact hfew) e1 e2 e3 (by rw [hlen]; exact e4) ?_)
          intro h2 L2 es2 ep2 t2 sb2 R2 pm2
          exact wpAny_pure (hQ true h2 L2 es2 ep2 t2 (sb.trans sb2) R2 (fun z => absurd z hm) fun _ => pm2.trans pm)
        rcases two with ⟨_, e2⟩ | ⟨_, e2⟩
        · exact go 31 (by rw [e2, size_20]) (.inr (.inl rfl)) (by rw [e2, size_20]; decide) (by omega)
        · exact go 127 (by rw [e2, size_76]) (.inr (.inr rfl)) (by rw [e2, size_76]; decide) (by omega)
      · refine wp_if_neg (by simp [hf]) ?_
        refine wpAny_pure (hQ true h1 L1 es1 (ep + 1) t2 sb ⟨⟨_, ho1, ⟨hex.1, hex.2.1, hex.2.2⟩, rfl⟩, hin, T2, nd1, ks1, l2, ?_, by rw [hlen]; exact hfew⟩ (fun z => absurd z hm) fun _ => pm)
        have h := hf
        unfold SetTable.tooFull at h
        rw [decide_eq_true_eq, f2] at h
        rw [hlen]
        omega
    have f1 : t1.fill = L.length + 1 := by rw [q9, hashes_len]
    have close : ∀ b : Bool, wpAny (model P w) A (do
          storeSet a es1 (if b = true then t1 else { t1 with plain := false })
          if (!false && (if b = true then t1 else { t1 with plain := false }).tooFull) = true then do
              setRelay a (SetTable.grown (es.size + 1))
              pure true
            else pure true) Q E s := fun b => by
      cases b with
      | true => exact rest t1 q3 q4 f1 ld1
      | false => exact rest { t1 with plain := false } (TabOk.unplain q3) q4 f1 ld1
    by_cases hpl : t1.plain = true
    · first
        | exact wpAny_bind (wp_if_pos hpl (byVal k _ 8 _ _ _ _ hx.1 fun b => close b))
        | exact wp_if_pos hpl (wpAny_bind (byVal k _ 8 _ _ _ _ hx.1 fun b => close b))
    · first
        | exact wpAny_bind (wp_if_neg hpl (wpAny_pure (close true)))
        | exact wp_if_neg hpl (wpAny_bind (wpAny_pure (close true)))
end
end Rw
namespace Rw
open PySem PySem.Spec PyProof.Rows L2
/-! ### set(xs): filled item by item -/
/-- a new set -/
abbrev newSetObj (w : World) : Obj := { cls := .type "set", dict := none, data := .set #[] 0 (.fresh 0 0 (!w.params.followText "set-order")) }
/-- G i: the set at S has got the first i items -/
structure Fill (P : Program) (w : World) (S : Addr) (h0 : Heap) (items : List Value) (G : Nat → Heap → Prop) : Prop where
  start : ∀ h, h.get? S = some (newSetObj w) → G 0 h
  keep : ∀ i h h', G i h → (∀ o, h.get? S = some o → h'.get? S = some o) → (∀ b o, h0.get? b = some o → h'.get? b = some o) → G i h'
  put : ∀ i v (A : Around) (E : Value → Shared → Prop) (s : Shared) (Q : Bool → Shared → Prop), A.units + 8 < cLine → items[i]? = some v → G i s.heap → (∀ b o, h0.get? b = some o → s.heap.get? b = some o) →
    (∀ b h' tk, s.toks ≤ tk → Heap.SameBut S s.heap h' → G (i + 1) h' → Q b { s with heap := h', toks := tk }) → wpAny (model P w) A (setAdd S v) Q E s
section
variable {P : Program} {w : World} {A : Around} {E : Value → Shared → Prop} {s : Shared}
theorem fill_loop {I : Addr} {fp wr : List Addr} {GG : Array GenState → Array GenState → Prop} {n : Nat} {Pv : Nat → Value → Prop} {St : Nat → Shared → Prop} {R : Result → Shared → Prop} {S : Addr} {h0 : Heap} {items : List Value} {G : Nat → Heap → Prop}
    (W : WalksS P w A.in1 I fp wr GG n Pv St) (hSf : S ∉ fp) (T : Fill P w S h0 items G) (hval : ∀ i v, Pv i v → items[i]? = some v) (hS0 : h0.get? S = none) (hw0 : ∀ b ∈ wr, h0.get? b = none) (hu : A.in1.units + 8 < cLine) :
    ∀ (k i : Nat) (s : Shared), n - i = k → i ≤ n → St i s → (∀ b o, h0.get? b = some o → s.heap.get? b = some o) → G i s.heap →
      (∀ s', Moved (S :: wr) GG s s' → G n s'.heap → (∀ b o, h0.get? b = some o → s'.heap.get? b = some o) → R (.ok (.ret .none)) s') →
      codeAny (model P w) A (.builtin "set.update.loop" ⟨[.ref S, .ref I], []⟩) R s := by
  have hSw : S ∉ wr := fun h => hSf (W.sub _ h)
  have wider : ∀ b ∈ wr, b ∈ S :: wr := fun b hb => List.mem_cons_of_mem _ hb
  have old : ∀ {s s' : Shared}, Moved wr GG s s' → (∀ b o, h0.get? b = some o → s.heap.get? b = some o) → ∀ b o, h0.get? b = some o → s'.heap.get? b = some o := fun hm hkp b o e =>
    hm.heap b o (fun hb => by rw [hw0 b hb] at e; cases e) (hkp b o e)
  intro k
  induction k with
  | zero =>
    intro i s hk' hi hst hkp g hR
    have hin : i = n := by omega
    subst hin
    refine codeAny_builtin F.entry_set_update_loop ?_
    rw [Around.under_plainId F.plain_set_update_loop _]
    show wpAny _ A.in1 (pyNext (.ref I) >>= _) _ _ s
    refine wpAny_bind (W.done s _ _ hst fun s' hm => ?_)
    show wpAny _ A.in1 (ret Value.none) _ _ s'
    exact wpAny_pure (hR s' (hm.mono wider) (T.keep _ _ _ g (fun o e => hm.heap S o hSw e) (old hm hkp)) (old hm hkp))
  | succ k ih =>
    intro i s hk' hi hst hkp g hR
    have hlt : i < n := by omega
    refine codeAny_builtin F.entry_set_update_loop ?_
    rw [Around.under_plainId F.plain_set_update_loop _]
    show wpAny _ A.in1 (pyNext (.ref I) >>= _) _ _ s
    refine wpAny_bind (W.item i s _ _ hlt hst fun v s' hP hst' hm => ?_)
    have hkp' := old hm hkp
    show wpAny _ A.in1 (holding [v] (setAdd S v) >>= _) _ _ s'
    refine wpAny_bind (wpAny_holding (T.put i v A.in1 _ s' _ hu (hval i v hP) (T.keep _ _ _ g (fun o e => hm.heap S o hSw e) hkp') hkp' fun b h' tk htk hsb g' => ?_))
    have hkp2 : ∀ b o, h0.get? b = some o → h'.get? b = some o := fun b o e => (hsb.2 b (fun z => by rw [z, hS0] at e; cases e)).trans (hkp' b o e)
    refine wpAny_pure ⟨plainId_quiet F.plain_set_update_loop _, ih (i + 1) _ (by omega) hlt (W.frame _ s' _ _ hst' htk fun b hb o e => ?_) hkp2 g' fun s'' hm'' g'' hkp'' => ?_⟩
    · rw [hsb.2 b (fun h : b = S => hSf (by rw [← h]; exact hb))]
      exact e
    · refine hR s'' (Moved.trans W.gtrans ((hm.mono wider).then_heap htk fun b o hb e => ?_) hm'') g'' hkp''
      rw [hsb.2 b (fun h : b = S => hb (by rw [h]; exact List.mem_cons_self))]
      exact e
theorem call_fill_list {l : Addr} {items : Array Value} {G : Nat → Heap → Prop} {Q : Value → Shared → Prop} (hh : A.handled = none) (hl : s.heap.IsList l items) (T : Fill P w s.heap.objs.size s.heap items.toList G) (hu : A.units + 16 < cLine)
    (h : ∀ (h' : Heap) (tk : Nat), G items.size h' → (∀ b o, s.heap.get? b = some o → h'.get? b = some o) → Q (.ref s.heap.objs.size) { s with heap := h', toks := tk }) :
    wpAny (model P w) A (call (.type "set") [.ref l]) Q E s := by
  obtain ⟨c, tl, hmro⟩ := F.called_set.mro
  have hmade := F.called_set.made
  have hsub := F.called_set.sub
  refine wpAny_call (codeAny_of_tree ?_)
  show wpAny _ _ (callAny (.type "set") _) _ _ _
  refine wpAny_pure ⟨Code.quiet_builtin _ (by decide +kernel), codeAny_builtin F.entry_type_call ?_⟩
  rw [Around.under_plain (weight_type_call_type "set" [.ref l] []) rfl]
  have f1 := F.called_set.notType
  have f2 := F.called_set.canCreate
  have f3 := F.typeCall_set_1 (.ref l)
  repeat (any_goals (first | assumption | wp_step))
  refine codeAny_mono (code_set_led1 (.ref l) (E := E) (Q₁ := fun obj s₁ => obj = .ref s.heap.objs.size ∧ s₁ = { s with heap := s.heap.push (newSetObj w) }) ⟨rfl, rfl⟩) fun r s₁ hr => ?_
  cases r with
  | error e => exact hr
  | ok fl =>
    cases fl with
    | ret obj =>
      obtain ⟨rfl, rfl⟩ := hr
      have hS : (s.heap.push (newSetObj w)).get? s.heap.objs.size = some (newSetObj w) := Heap.get?_push_size _ rfl
      have hT : Shared.TypeIs { s with heap := s.heap.push (newSetObj w) } (.ref s.heap.objs.size) "set" := ⟨_, hS, rfl⟩
      have f4 := F.called_set.init.lookup
      have f5 := F.called_set.init.bind (.ref s.heap.objs.size)
      repeat (any_goals (first | assumption | wp_step))
      refine codeAny_mono (codeAny_call_builtin (R := wants (fun r s₂ => r = .none ∧ ∃ h' tk, s₂ = { s with heap := h', toks := tk } ∧ G items.size h' ∧ (∀ b o, s.heap.get? b = some o → h'.get? b = some o)) E) F.called_set.init.plain F.entry_set_init (check_set_init_1 hT ?_)) fun r₂ s₂ hr₂ => ?_
      · obtain ⟨ol, hol, hcl, nl, hdl⟩ := hl
        obtain ⟨ocls, odict, odata, oslots⟩ := ol
        simp only at hcl hdl
        subst hcl; subst hdl
        have hol' : (s.heap.push (newSetObj w)).get? l = some { cls := .type "list", dict := odict, data := .seq items nl, slots := oslots } := Heap.get?_push_of_some _ hol
        have f6 := F.sub_list_set
        have f7 := F.sub_list_frozenset
        have f8 : (Value.type "list" == Value.type "dict") = false := by decide
        have hl1 : (s.heap.push (newSetObj w)).IsList l items := ⟨_, hol', rfl, nl, rfl⟩
        unfold Builtin.«set.__init__» noKeywords Builtin.Frozenset.updateFrom
        generalize hPI : pyIter = PI
        wp_walk
        subst hPI
        refine wpAny_pyIter_list hl1 ?_
        refine wpAny_bind (wpAny_runValue ?_)
        have hlS : l < s.heap.objs.size := Heap.lt_size hol
        have hh3 : A.in1.in1.in1.handled = none := by simp [hh]
        have hz1 : (s.heap.push (newSetObj w)).objs.size = s.heap.objs.size + 1 := Heap.size_push ..
        have hneI : l ≠ (s.heap.push (newSetObj w)).objs.size := by
          rw [Heap.size_push]
          exact Nat.ne_of_lt (Nat.lt_succ_of_lt hlS)
        have hSf : s.heap.objs.size ∉ [(s.heap.push (newSetObj w)).objs.size, l] := by
          rw [Heap.size_push]
          simp only [List.mem_cons, List.mem_singleton, List.not_mem_nil, or_false, not_or]
          exact ⟨Nat.ne_of_lt (Nat.lt_succ_self _), Nat.ne_of_gt hlS⟩
        have none_of : ∀ b, s.heap.objs.size ≤ b → s.heap.get? b = none := fun b hb => by
          cases q : s.heap.get? b with
          | none => rfl
          | some o => exact absurd (Nat.lt_of_lt_of_le (Heap.lt_size q) hb) (Nat.lt_irrefl _)
        refine fill_loop ((Walks.list hh3 _ l hneI items).toS) hSf T (fun i v hv => by rw [Array.getElem?_toList]; exact hv) (none_of _ (Nat.le_refl _)) (fun b hb => none_of b (by
            rw [List.mem_singleton.mp hb, Heap.size_push]
            exact Nat.le_succ _)) (by simp only [Around.in1_units]; omega) (items.size - 0) 0 _ (by omega) (Nat.zero_le _)
          ⟨⟨_, Heap.get?_push_size _ rfl, rfl, rfl⟩, (hl1.push _)⟩ (fun b o e => Heap.get?_push_of_some _ (Heap.get?_push_of_some _ e)) (T.start _ (Heap.get?_push_of_some _ hS)) ?hR
        intro s' hm g' hkp
        obtain ⟨h', g2, d', tk', os'⟩ := s'
        have eg : g2 = s.gens := hm.gens
        have ed : d' = s.drawn := hm.drawn
        have eo : os' = s.os := hm.os
        subst eg; subst ed; subst eo
        show wpAny _ _ _ _ _ _
        refine wpAny_pure ?_
        show wpAny _ _ (ret Value.none) _ _ _
        exact wpAny_pure ⟨rfl, h', tk', rfl, g', hkp⟩
      · cases r₂ with
        | error e => exact hr₂
        | ok fl₂ =>
          cases fl₂ with
          | ret r =>
            obtain ⟨rfl, h', tk, rfl, g', hk'⟩ := hr₂
            repeat (any_goals (first | assumption | wp_step))
            exact h _ _ g' hk'
          | _ => exact hr₂.elim
    | _ => exact hr.elim
theorem call_fill_tuple {l : Addr} {items : Array Value} {G : Nat → Heap → Prop} {Q : Value → Shared → Prop} (hh : A.handled = none) (hl : s.heap.IsTuple l items) (T : Fill P w s.heap.objs.size s.heap items.toList G) (hu : A.units + 16 < cLine)
    (h : ∀ (h' : Heap) (tk : Nat), G items.size h' → (∀ b o, s.heap.get? b = some o → h'.get? b = some o) → Q (.ref s.heap.objs.size) { s with heap := h', toks := tk }) :
    wpAny (model P w) A (call (.type "set") [.ref l]) Q E s := by
  obtain ⟨c, tl, hmro⟩ := F.called_set.mro
  have hmade := F.called_set.made
  have hsub := F.called_set.sub
  refine wpAny_call (codeAny_of_tree ?_)
  show wpAny _ _ (callAny (.type "set") _) _ _ _
  refine wpAny_pure ⟨Code.quiet_builtin _ (by decide +kernel), codeAny_builtin F.entry_type_call ?_⟩
  rw [Around.under_plain (weight_type_call_type "set" [.ref l] []) rfl]
  have f1 := F.called_set.notType
  have f2 := F.called_set.canCreate
  have f3 := F.typeCall_set_1 (.ref l)
  repeat (any_goals (first | assumption | wp_step))
  refine codeAny_mono (code_set_led1 (.ref l) (E := E) (Q₁ := fun obj s₁ => obj = .ref s.heap.objs.size ∧ s₁ = { s with heap := s.heap.push (newSetObj w) }) ⟨rfl, rfl⟩) fun r s₁ hr => ?_
  cases r with
  | error e => exact hr
  | ok fl =>
    cases fl with
    | ret obj =>
      obtain ⟨rfl, rfl⟩ := hr
      have hS : (s.heap.push (newSetObj w)).get? s.heap.objs.size = some (newSetObj w) := Heap.get?_push_size _ rfl
      have hT : Shared.TypeIs { s with heap := s.heap.push (newSetObj w) } (.ref s.heap.objs.size) "set" := ⟨_, hS, rfl⟩
      have f4 := F.called_set.init.lookup
      have f5 := F.called_set.init.bind (.ref s.heap.objs.size)
      repeat (any_goals (first | assumption | wp_step))
      refine codeAny_mono (codeAny_call_builtin (R := wants (fun r s₂ => r = .none ∧ ∃ h' tk, s₂ = { s with heap := h', toks := tk } ∧ G items.size h' ∧ (∀ b o, s.heap.get? b = some o → h'.get? b = some o)) E) F.called_set.init.plain F.entry_set_init (check_set_init_1 hT ?_)) fun r₂ s₂ hr₂ => ?_
      · obtain ⟨ol, hol, hcl, nl, hdl⟩ := hl
        obtain ⟨ocls, odict, odata, oslots⟩ := ol
        simp only at hcl hdl
        subst hcl; subst hdl
        have hol' : (s.heap.push (newSetObj w)).get? l = some { cls := .type "tuple", dict := odict, data := .seq items nl, slots := oslots } := Heap.get?_push_of_some _ hol
        have f6 := F.sub_tuple_set
        have f7 := F.sub_tuple_frozenset
        have f8 : (Value.type "tuple" == Value.type "dict") = false := by decide
        have hl1 : (s.heap.push (newSetObj w)).IsTuple l items := ⟨_, hol', rfl, nl, rfl⟩
        unfold Builtin.«set.__init__» noKeywords Builtin.Frozenset.updateFrom
        generalize hPI : pyIter = PI
        wp_walk
        subst hPI
        refine wpAny_pyIter_tuple hl1 ?_
        refine wpAny_bind (wpAny_runValue ?_)
        have hlS : l < s.heap.objs.size := Heap.lt_size hol
        have hh3 : A.in1.in1.in1.handled = none := by simp [hh]
        have hz1 : (s.heap.push (newSetObj w)).objs.size = s.heap.objs.size + 1 := Heap.size_push ..
        have hneI : l ≠ (s.heap.push (newSetObj w)).objs.size := by
          rw [Heap.size_push]
          exact Nat.ne_of_lt (Nat.lt_succ_of_lt hlS)
        have hSf : s.heap.objs.size ∉ [(s.heap.push (newSetObj w)).objs.size, l] := by
          rw [Heap.size_push]
          simp only [List.mem_cons, List.mem_singleton, List.not_mem_nil, or_false, not_or]
          exact ⟨Nat.ne_of_lt (Nat.lt_succ_self _), Nat.ne_of_gt hlS⟩
        have none_of : ∀ b, s.heap.objs.size ≤ b → s.heap.get? b = none := fun b hb => by
          cases q : s.heap.get? b with
          | none => rfl
          | some o => exact absurd (Nat.lt_of_lt_of_le (Heap.lt_size q) hb) (Nat.lt_irrefl _)
        refine fill_loop ((Walks.tuple hh3 _ l hneI items).toS) hSf T (fun i v hv => by rw [Array.getElem?_toList]; exact hv) (none_of _ (Nat.le_refl _)) (fun b hb => none_of b (by
            rw [List.mem_singleton.mp hb, Heap.size_push]
            exact Nat.le_succ _)) (by simp only [Around.in1_units]; omega) (items.size - 0) 0 _ (by omega) (Nat.zero_le _)
          ⟨⟨_, Heap.get?_push_size _ rfl, rfl, rfl⟩, (hl1.push _)⟩ (fun b o e => Heap.get?_push_of_some _ (Heap.get?_push_of_some _ e)) (T.start _ (Heap.get?_push_of_some _ hS)) ?hR
        intro s' hm g' hkp
        obtain ⟨h', g2, d', tk', os'⟩ := s'
        have eg : g2 = s.gens := hm.gens
        have ed : d' = s.drawn := hm.drawn
        have eo : os' = s.os := hm.os
        subst eg; subst ed; subst eo
        show wpAny _ _ _ _ _ _
        refine wpAny_pure ?_
        show wpAny _ _ (ret Value.none) _ _ _
        exact wpAny_pure ⟨rfl, h', tk', rfl, g', hkp⟩
      · cases r₂ with
        | error e => exact hr₂
        | ok fl₂ =>
          cases fl₂ with
          | ret r =>
            obtain ⟨rfl, h', tk, rfl, g', hk'⟩ := hr₂
            repeat (any_goals (first | assumption | wp_step))
            exact h _ _ g' hk'
          | _ => exact hr₂.elim
    | _ => exact hr.elim
end
end Rw
namespace Rw
open PySem PySem.Spec PyProof.Rows PySem.W PySem.SeqAt
/-! ### tuples, perhaps empty ones among them, sorted -/
section
variable {prog : Program} {w : World} {A : Around} {E : Value → Shared → Prop} {s : Shared}
/-- each value is a tuple, and these are their first items -/
inductive Firsts (h : Heap) : List Value → List (Option Value) → Prop
  | nil : Firsts h [] []
  | cons {a : Addr} {o : Obj} {xs : Array Value} {n : Nat} {vs : List Value} {fs : List (Option Value)} : h.get? a = some o → o.cls = .type "tuple" → o.data = .seq xs n → Firsts h vs fs → Firsts h (.ref a :: vs) (xs[0]? :: fs)
theorem Firsts.len {h : Heap} {vs : List Value} {fs : List (Option Value)} (x : Firsts h vs fs) : fs.length = vs.length := by
  induction x with
  | nil => rfl
  | cons _ _ _ _ ih => rw [List.length_cons, List.length_cons, ih]
theorem firsts_run {M : Model} : ∀ (vs : List Value) (fs : List (Option Value)) {Q : List (Option Value) → Shared → Prop}, Firsts s.heap vs fs → Q fs s → wpAny M A (vs.mapM firstOfTuple') Q E s
  | _, _, _, .nil, h => by
    rw [List.mapM_nil]
    exact wpAny_pure h
  | _, _, Q, .cons (a := a) (xs := xs) (vs := vs) (fs := fs) ho hc hd t, h => by
    rw [List.mapM_cons]
    refine wpAny_bind ?_
    rw [kas_first_eq]
    refine wpAny_bind (Looks.here (show Looks M s.heap (typeOf (.ref a)) _ from (Looks.ld ho).andThen .now) ?_)
    rw [hc, if_neg (by first | decide | simp)]
    refine wpAny_bind (listItems_at ho hd (wpAny_pure ?_))
    exact wpAny_bind (firsts_run vs fs (Q := fun bs s' => wpAny M A (pure (xs[0]? :: bs)) Q E s') t (wpAny_pure h))
theorem firsts_ty {M : Model} {h : Heap} {vs : List Value} {fs : List (Option Value)} (x : Firsts h vs fs) : ∀ v ∈ vs, Looks M h (typeOf v) (.type "tuple") := by
  induction x with
  | nil => exact fun v hv => nomatch hv
  | cons ho hc hd _ ih =>
    intro v hv
    rcases List.mem_cons.mp hv with rfl | hv
    · show Looks M h (typeOf (Value.ref _)) (Value.type "tuple")
      exact hc ▸ (Looks.ld ho).andThen .now
    · exact ih v hv
/-- an empty one among the others, not the first -/
theorem kind_general {M : Model} {vs : List Value} {fs : List (Option Value)} {f : Value} {Q : SortKind → Shared → Prop} (x : Firsts s.heap vs fs) (h0 : fs[0]? = some (some f)) (hn : none ∈ fs) (h : Q general' s) : wpAny M A (keyKind' vs.toArray) Q E s := by
  rw [kat_kind_eq, List.mapM_toArray, map_eq_pure_bind]
  refine wpAny_bind (wpAny_bind (firsts_run vs fs x (wpAny_pure ?_)))
  have c : ¬ ((fs.toArray.all fun x => x.isSome) = true) := by
    intro q
    rw [List.all_toArray, List.all_eq_true] at q
    exact absurd (q none hn) (by simp)
  rw [if_neg c]
  have c2 : ((fs.toArray[0]?.bind id).isSome) = true := by
    have e : fs.toArray[0]? = some (some f) := by simpa using h0
    rw [e]
    rfl
  rw [if_pos c2]
  exact wpAny_pure h
/-- the first is empty -/
theorem kind_one {M : Model} {vs : List Value} {fs : List (Option Value)} {Q : SortKind → Shared → Prop} (x : Firsts s.heap vs fs) (h0 : fs[0]? = some none) (h : Q oneType' s) : wpAny M A (keyKind' vs.toArray) Q E s := by
  rw [kat_kind_eq, List.mapM_toArray, map_eq_pure_bind]
  refine wpAny_bind (wpAny_bind (firsts_run vs fs x (wpAny_pure ?_)))
  have c : ¬ ((fs.toArray.all fun x => x.isSome) = true) := by
    intro q
    rw [List.all_toArray, List.all_eq_true] at q
    exact absurd (q none (List.mem_of_getElem? h0)) (by simp)
  rw [if_neg c]
  have e : fs.toArray[0]? = some none := by simpa using h0
  have c2 : ¬ ((fs.toArray[0]?.bind id).isSome) = true := by
    rw [e]
    simp
  rw [if_neg c2, oneTypeOnly'_eq, List.mapM_toArray, map_eq_pure_bind]
  refine wpAny_bind (wpAny_bind (wpAny_bind (kas_mapM (r := Value.type "tuple") _ (fun v hv Q' hq => (firsts_ty x v hv).here hq) (wpAny_pure ?_))))
  have all : ((List.map (fun _ => Value.type "tuple") vs).toArray.all fun x => x == Value.type "tuple") = true := by
    simp only [List.all_toArray, List.all_map, List.all_eq_true]
    intro _ _
    show (Value.type "tuple" == Value.type "tuple") = true
    decide
  obtain ⟨v, r, ev⟩ : ∃ v r, vs = v :: r := by
    cases x with
    | nil => simp at h0
    | cons _ _ _ _ => exact ⟨_, _, rfl⟩
  have z : (List.map (fun _ => Value.type "tuple") vs).toArray[0]? = some (Value.type "tuple") := by
    rw [ev]
    simp
  rw [z]
  simp only [all, if_true]
  exact wpAny_pure (wpAny_pure h)
/-- by the type's own < -/
theorem oneLt_tuples {xs ys : List PyData} {a b : Value} {as bs : List Addr} {Q : Bool → Shared → Prop} (ra : Reads s.heap a (.tuple xs) as) (rb : Reads s.heap b (.tuple ys) bs) (hal : alikeAll xs ys = true)
    (hu : A.units + min (PyData.tuple xs).depth (PyData.tuple ys).depth < cLine) (hq : Q (dataLt (.tuple xs) (.tuple ys)) s) : wpAny (model prog w) A (oneLt' true a b) Q E s := by
  cases ra with
  | @tuple l o vs n _ _ h1 h2 h3 h4 =>
    cases rb with
    | @tuple l' o' vs' n' _ _ k1 k2 k3 k4 =>
      have n1 : vs.size = xs.length := by simpa using SeqAt.ReadsAll.length _ _ _ h4
      have n2 : vs'.size = ys.length := by simpa using SeqAt.ReadsAll.length _ _ _ k4
      rw [dataLt_tuple, ← firstLt_toks xs ys hal, ← n1, ← n2] at hq
      rw [oneLt'_eq]
      simp only [if_true]
      refine wpAny_bind (wpAny_cRoomFor (SeqAt.room_here hu) ?_)
      obtain ⟨ocls, odict, odata, oslots⟩ := o
      obtain ⟨pcls, pdict, pdata, pslots⟩ := o'
      simp only at h2 h3 k2 k3
      subst h2 h3 k2 k3
      refine wpAny_bind (wpAny_callSpecialIfBound?_slot (T := "tuple") ⟨_, h1, rfl⟩ F.slot_tuple_lt (call_meets F.slot_tuple_lt ⟨_, h1, rfl⟩ F.entry_tuple_lt (F.args_tuple_lt_2 _ _)
        (SeqAt.tuple_ltAt l l' vs vs' n n' odict pdict oslots pslots (pairEq xs ys) (fun j => dataLt (xs.getD j .none) (ys.getD j .none))) ⟨h1, k1, fun j j1 j2 => ?_, fun j j1 j2 hj => ?_, ?_⟩))
      · have := eqAt_alikeAll xs ys A.in1 s vs.toList vs'.toList _ _ h4 k4 hal (SeqAt.room_in hu) j (by simpa using j1) (by simpa using j2)
        simpa using this
      · have := rcLt_alikeAll xs ys A.in1 s vs.toList vs'.toList _ _ h4 k4 hal (SeqAt.room_in hu) j (by simpa using j1) (by simpa using j2) hj
        simpa using this
      · exact wpAny_truthy_bool hq
theorem firsts_of {h : Heap} : ∀ {vs : List Value} {ds : List PyData}, EachIs (fun v d => ∃ as, Reads h v d as) vs ds → (∀ d ∈ ds, ∃ xs, d = .tuple xs) → ∃ fs, Firsts h vs fs ∧ ∀ i : Nat, fs[i]? = some none ↔ ds[i]? = some (.tuple [])
  | _, _, .nil, _ => ⟨[], .nil, fun i => by simp⟩
  | _, _, .cons (b := d) ⟨as, r⟩ t, ht => by
    obtain ⟨fs, h1, h2⟩ := firsts_of t fun d hd => ht d (List.mem_cons_of_mem _ hd)
    obtain ⟨xs, rfl⟩ := ht d List.mem_cons_self
    cases r with
    | @tuple a o vs n _ _ ho hc hd hr =>
      refine ⟨_, .cons ho hc hd h1, fun i => ?_⟩
      cases i with
      | succ i => simpa using h2 i
      | zero =>
        have hl := SeqAt.ReadsAll.length _ _ _ hr
        rw [Array.length_toList] at hl
        simp only [List.getElem?_cons_zero, Option.some.injEq]
        constructor
        · intro q
          have z : vs.size = 0 := by
            have := Array.getElem?_eq_none_iff.mp q
            omega
          rw [z] at hl
          rw [List.length_eq_zero_iff.mp hl.symm]
        · intro q
          injection q with q
          subst q
          rw [List.length_nil] at hl
          exact Array.getElem?_eq_none (by omega)
/-- tuples of alike data can be sorted, empty ones too -/
theorem SortsAt.tups {vs : List Value} {ds : List PyData} (e : EachIs (fun v d => ∃ as, Reads s.heap v d as) vs ds) (hal : AllAlike ds) (ht : ∀ d ∈ ds, ∃ xs, d = .tuple xs) (hu : ∀ d, d ∈ ds → A.units + d.depth < cLine) : SortsAt prog w A s (dataKind s.heap ds) vs := by
  by_cases full : ∀ d ∈ ds, ∃ x r, d = .tuple (x :: r)
  · exact SortsAt.data e hal (.inl full) hu
  have hollow : PyData.tuple [] ∈ ds := by
    refine Classical.byContradiction fun hn => full fun d hd => ?_
    obtain ⟨xs, rfl⟩ := ht d hd
    cases xs with
    | nil => exact absurd hd hn
    | cons x r => exact ⟨x, r, rfl⟩
  have room : ∀ {d d' : PyData}, d ∈ ds → A.units + min d.depth d'.depth < cLine := fun {d d'} hd => Nat.lt_of_le_of_lt (Nat.add_le_add_left (Nat.min_le_left _ _) _) (hu d hd)
  refine ⟨fun v hv => ?_, ?_⟩
  · obtain ⟨d, hd, as, r⟩ := e.left v hv
    exact ⟨_, dataKind_some hal hd r⟩
  obtain ⟨fs, f1, f2⟩ := firsts_of e ht
  obtain ⟨i0, hi0, ei0⟩ := List.getElem_of_mem hollow
  have hnone : none ∈ fs := List.mem_of_getElem? ((f2 i0).mpr (by rw [List.getElem?_eq_getElem hi0, ei0]))
  have side : ∀ {x y : Value} {a b : List (Int ⊕ List Nat)}, (dataKind s.heap ds).keyOf x = some a → (dataKind s.heap ds).keyOf y = some b →
      ∃ xs ys as bs, Reads s.heap x (.tuple xs) as ∧ Reads s.heap y (.tuple ys) bs ∧ alike (.tuple xs) (.tuple ys) = true ∧ a = keyToks (.tuple xs) ∧ b = keyToks (.tuple ys) ∧ A.units + min (PyData.tuple xs).depth (PyData.tuple ys).depth < cLine := by
    intro x y a b ha hb
    obtain ⟨d, as, hd, ra, rfl⟩ := dataKind_inv ha
    obtain ⟨d', bs, hd', rb, rfl⟩ := dataKind_inv hb
    obtain ⟨xs, rfl⟩ := ht d hd
    obtain ⟨ys, rfl⟩ := ht d' hd'
    exact ⟨xs, ys, as, bs, ra, rb, hal _ hd _ hd', rfl, rfl, room hd⟩
  cases hz : fs[0]? with
  | none =>
    have : fs = [] := by
      cases fs with
      | nil => rfl
      | cons f r => simp at hz
    rw [this] at hnone
    exact nomatch hnone
  | some f =>
    cases f with
    | some f =>
      refine ⟨general', fun E x y a b Q ha hb hq => ?_, fun _ E Q hq => kind_general f1 hz hnone hq⟩
      obtain ⟨xs, ys, as, bs, ra, rb, hh, rfl, rfl, hr⟩ := side ha hb
      show wpAny _ _ (oneLt' false x y) _ _ _
      exact oneLt_alike (fun z => absurd z Bool.false_ne_true) ra rb hh (fun z => nomatch z) hr hq
    | none =>
      refine ⟨oneType', fun E x y a b Q ha hb hq => ?_, fun _ E Q hq => kind_one f1 hz hq⟩
      obtain ⟨xs, ys, as, bs, ra, rb, hh, rfl, rfl, hr⟩ := side ha hb
      rw [keyLt'_oneType]
      exact oneLt_tuples ra rb (by simpa [alike] using hh) hr hq
end
end Rw
namespace Rw
open PySem PySem.Spec PyProof.Rows L2 PySem.Froz
/-! ### filling a set with tuples -/
structure GotN (ks : List (Addr × NK)) (i : Nat) (L : List (Addr × NK)) : Prop where
  sub : ∀ p ∈ L, p ∈ ks.take i
  all : ∀ p ∈ ks.take i, p.2 ∈ L.map (·.2)
  len : L.length ≤ i
theorem take_snoc {α : Type} {l : List α} {i : Nat} {x : α} (h : l[i]? = some x) : l.take (i + 1) = l.take i ++ [x] := by
  rw [List.take_succ, h]
  rfl
theorem GotN.next {ks L L' : List (Addr × NK)} {i : Nat} {x : Addr × NK} (g : GotN ks i L) (h : ks[i]? = some x) (c1 : x.2 ∈ L.map (·.2) → L' = L) (c2 : x.2 ∉ L.map (·.2) → L'.Perm (x :: L)) : GotN ks (i + 1) L' := by
  have ht := take_snoc h
  by_cases hm : x.2 ∈ L.map (·.2)
  · rw [c1 hm]
    refine ⟨fun p hp => ?_, fun p hp => ?_, Nat.le_succ_of_le g.len⟩
    · rw [ht]
      exact List.mem_append_left _ (g.sub p hp)
    · rw [ht] at hp
      rcases List.mem_append.mp hp with z | z
      · exact g.all p z
      · rw [List.mem_singleton.mp z]
        exact hm
  · have pm := c2 hm
    refine ⟨fun p hp => ?_, fun p hp => ?_, ?_⟩
    · rw [ht]
      rcases List.mem_cons.mp (pm.mem_iff.mp hp) with e | z
      · rw [e]
        exact List.mem_append_right _ (List.mem_singleton.mpr rfl)
      · exact List.mem_append_left _ (g.sub p z)
    · rw [(pm.map (·.2)).mem_iff, List.map_cons]
      rw [ht] at hp
      rcases List.mem_append.mp hp with z | z
      · exact List.mem_cons_of_mem _ (g.all p z)
      · rw [List.mem_singleton.mp z]
        exact List.mem_cons_self
    · rw [pm.length_eq, List.length_cons]
      exact Nat.succ_le_succ g.len
theorem led_new (w : World) : w.params.followText "set-order" = true ∨ (!w.params.followText "set-order") = true := by
  cases w.params.followText "set-order"
  · exact .inr rfl
  · exact .inl rfl
section
variable {P : Program} {w : World} {A : Around} {E : Value → Shared → Prop} {s : Shared}
theorem TSet.empty {h : Heap} {a : Addr} (ho : h.get? a = some (newSetObj w)) : TSet P w h a [] #[] 0 (.fresh 0 0 (!w.params.followText "set-order")) where
  ob := ⟨_, ho, ⟨rfl, rfl, rfl⟩, rfl⟩
  en := rfl
  tab := ⟨List.Pairwise.nil, rfl, rfl, .inl rfl, fun x hx => (by cases hx), fun i h j hi => (by simp [hashes] at hi)⟩
  nd := List.nodup_nil
  ks := fun p hp => (by cases hp)
  led := led_new w
  room := by
    show 0 * 5 < 7 * 3
    decide
  few := by
    show 0 < 64
    decide
theorem TSet.moved {h h' : Heap} {a : Addr} {L : List (Addr × NK)} {es : Array (Int × Value)} {ep : Nat} {t : SetTable} (R : TSet P w h a L es ep t) (ha : ∀ o, h.get? a = some o → h'.get? a = some o) (ht : ∀ p ∈ L, TupK h' p.2 p.1) : TSet P w h' a L es ep t := by
  obtain ⟨o, ho, r⟩ := R.ob
  exact ⟨⟨o, ha o ho, r⟩, R.en, R.tab, R.nd, ht, R.led, R.room, R.few⟩
theorem fill_tups (S : Addr) (h0 : Heap) (ks : List (Addr × NK)) (hk : ∀ p ∈ ks, TupK h0 p.2 p.1) (few : ks.length < 64) :
    Fill P w S h0 (ks.map fun p => Value.ref p.1) (fun i h => ∃ L es ep t, TSet P w h S L es ep t ∧ GotN ks i L) where
  start := fun h ho => ⟨[], #[], 0, _, TSet.empty ho, ⟨fun p hp => (by cases hp), fun p hp => (by simp at hp), Nat.le_refl _⟩⟩
  keep := fun i h h' ⟨L, es, ep, t, R, g⟩ ha hold => ⟨L, es, ep, t, R.moved ha fun p hp => (hk p (List.mem_of_mem_take (g.sub p hp))).kept hold, g⟩
  put := fun i v A E s Q hu hv ⟨L, es, ep, t, R, g⟩ hold hQ => by
    rw [List.getElem?_map] at hv
    cases hx : ks[i]? with
    | none => rw [hx] at hv; simp at hv
    | some x =>
      rw [hx] at hv
      obtain rfl : Value.ref x.1 = v := Option.some.inj hv
      have il : i < ks.length := (List.getElem?_eq_some_iff.mp hx).1
      have hxk := (hk x (List.mem_of_getElem? hx)).kept hold
      unfold setAdd
      refine wpAny_holding ?_
      refine wpAny_bind ((nestedKind P w).pyHash (k := x.2) (show A.units + 8 < cLine from hu) hxk ?_)
      refine added (s := { s with toks := s.toks + (nestedKind P w).draws x.2 }) R hxk hu (by have := g.len; omega) fun b h' L' es' ep' t' sb R' c1 c2 => ?_
      exact hQ b h' _ (Nat.le_add_right _ _) sb ⟨L', es', ep', t', R', g.next hx c1 c2⟩
/-! ### filling a set with texts -/
structure XSet (P : Program) (w : World) (h : Heap) (a : Addr) (ms : List Str) (es : Array (Int × Value)) (ep : Nat) (t : SetTable) : Prop where
  ob : h.get? a = some (sObj "set" (es, ep, t))
  ok : TxOk P w (es, ep, t) ms
  nd : ms.Nodup
  ris : Ris t.place.toList
  led : w.params.followText "set-order" = true ∨ t.led = true
theorem add_ris {g : Int} {v : Value} {D : SD} (h : Ris D.2.2.place.toList) : Ris (addTx g v D).2.2.place.toList ∧ (addTx g v D).2.2.led = D.2.2.led := by
  obtain ⟨es, ep, t⟩ := D
  have n1 := layNew_ris t es g v h
  have n2 := layNew_led t es g v
  unfold addTx tailTx
  dsimp only at n1 n2 ⊢
  generalize layNew t es g v = N at n1 n2 ⊢
  obtain ⟨es1, t1, wd, gv⟩ := N
  dsimp only at n1 n2 ⊢
  have m1 : Ris (if t1.plain = true then { t1 with plain := false } else t1).place.toList ∧ (if t1.plain = true then { t1 with plain := false } else t1).led = t.led := by
    split <;> exact ⟨n1, n2⟩
  generalize (if t1.plain = true then { t1 with plain := false } else t1) = t2 at m1 ⊢
  split
  · exact ⟨relayAll_ris t2 es1 _, (relayAll_led t2 es1 _).trans m1.2⟩
  · exact m1
theorem XSet.moved {h h' : Heap} {a : Addr} {ms : List Str} {es : Array (Int × Value)} {ep : Nat} {t : SetTable} (R : XSet P w h a ms es ep t) (ha : ∀ o, h.get? a = some o → h'.get? a = some o) : XSet P w h' a ms es ep t :=
  ⟨ha _ R.ob, R.ok, R.nd, R.ris, R.led⟩
/-- a text that is in the set is put in again -/
theorem again_in {a : Addr} {ms : List Str} {es : Array (Int × Value)} {ep : Nat} {t : SetTable} {k : Str} {u : Tok} {Q : Bool → Shared → Prop} (R : XSet P w s.heap a ms es ep t) (hk : k ∈ ms) (hb : ms.length < scanBound) (h : Q false s) :
    wpAny (model P w) A (setAddHashed a (.str k u) (hashStr w k)) Q E s := by
  have hel : ElemsOf (strKind P w) es.toList := R.ok.el
  have hsz : es.size = ms.length := R.ok.sz
  have hf : t.fits es.size = true := R.ok.fit
  have hd : (sObj "set" (es, ep, t)).data = .set es ep t := rfl
  have hkey : (strKind P w).is k (.str k u) = true := is_str k u
  obtain ⟨e, he, hp⟩ := (R.ok.mem k).mp hk
  unfold setAddHashed setAddHashedIn
  refine wpAny_holding (wpAny_bind (wpAny_setState_of R.ob hd hf ?_))
  dsimp only
  rw [byScan_of rfl (by omega) hel]
  simp only [↓reduceIte]
  unfold setAddByScan
  refine wpAny_bind (wpAny_bind (wpAny_rule (wpAny_bind (wpAny_setScan_of (knd := strKind P w) (k := k) hkey R.ob hd hf hel ?_))))
  cases hr : List.findIdx? (fun e => (strKind P w).is k e.2) es.toList with
  | none =>
    have z := List.findIdx?_eq_none_iff.mp hr e he
    rw [hp] at z
    exact nomatch z
  | some j =>
    dsimp only
    exact wpAny_pure (wpAny_pure h)
theorem put_text {a : Addr} {ms : List Str} {es : Array (Int × Value)} {ep : Nat} {t : SetTable} {k : Str} {u : Tok} {Q : Bool → Shared → Prop} (R : XSet P w s.heap a ms es ep t) (hb : ms.length + 1 < scanBound)
    (h : ∀ b h' ms' es' ep' t', Heap.SameBut a s.heap h' → XSet P w h' a ms' es' ep' t' → (∀ z, z ∈ ms' ↔ z = k ∨ z ∈ ms) → ms'.length ≤ ms.length + 1 → Q b { s with heap := h' }) :
    wpAny (model P w) A (setAddHashed a (.str k u) (hashStr w k)) Q E s := by
  by_cases hk : k ∈ ms
  · refine again_in R hk (by omega) (h false s.heap ms es ep t (Heap.SameBut.refl a s.heap) R (fun z => ⟨.inr, fun q => q.elim (fun e => e ▸ hk) id⟩) (Nat.le_succ _))
  · refine add_x R.ob R.ok hk hb ?_
    have sb : Heap.SameBut a s.heap (s.heap.update a (fun _ => sObj "set" (addTx (hashStr w k) (.str k u) (es, ep, t)))) := Heap.SameBut.update ..
    have ho : (s.heap.update a (fun _ => sObj "set" (addTx (hashStr w k) (.str k u) (es, ep, t)))).get? a = some (sObj "set" (addTx (hashStr w k) (.str k u) (es, ep, t))) := get_upd _ R.ob rfl
    have ok := add_ok u R.ok (k := k)
    have rl := add_ris (g := hashStr w k) (v := .str k u) (D := (es, ep, t)) R.ris
    generalize addTx (hashStr w k) (.str k u) (es, ep, t) = D at sb ho ok rl ⊢
    obtain ⟨es', ep', t'⟩ := D
    refine h true _ (k :: ms) es' ep' t' sb ⟨ho, ok, List.nodup_cons.mpr ⟨hk, R.nd⟩, rl.1, ?_⟩ (fun z => List.mem_cons) (Nat.le_refl _)
    have e : t'.led = t.led := rl.2
    rw [e]
    exact R.led
theorem fill_texts (S : Addr) (h0 : Heap) (zs : List Str) {vs : List Value} (hv : PySem.W.EachIs (fun v z => ∃ u, v = Value.str z u) vs zs) (few : zs.length + 1 < scanBound) :
    Fill P w S h0 vs (fun i h => ∃ ms es ep t, XSet P w h S ms es ep t ∧ (∀ z, z ∈ ms ↔ z ∈ zs.take i) ∧ ms.length ≤ i) where
  start := fun h ho => ⟨[], #[], 0, _, ⟨ho, TxOk.nil rfl, List.nodup_nil, List.Pairwise.nil, led_new w⟩, fun z => by simp, Nat.le_refl _⟩
  keep := fun i h h' ⟨ms, es, ep, t, R, g⟩ ha _ => ⟨ms, es, ep, t, R.moved ha, g⟩
  put := fun i v A E s Q hu hvi ⟨ms, es, ep, t, R, g, hl⟩ hold hQ => by
    have hlen := hv.length
    have il : i < vs.length := (List.getElem?_eq_some_iff.mp hvi).1
    have iz : i < zs.length := by omega
    have hz : zs[i]? = some zs[i] := List.getElem?_eq_getElem iz
    have pz : (v, zs[i]) ∈ vs.zip zs := List.mem_of_getElem? (i := i) (by rw [List.getElem?_zip_eq_some]; exact ⟨hvi, hz⟩)
    obtain ⟨u, rfl⟩ : ∃ u, v = Value.str zs[i] u := hv.zip _ pz
    unfold setAdd
    refine wpAny_holding ?_
    refine wpAny_bind ((strKind P w).pyHash (k := zs[i]) (is_str _ _) ?_)
    refine put_text (s := { s with toks := s.toks + 1 }) R (by omega) fun b h' ms' es' ep' t' sb R' hm hl' => ?_
    refine hQ b h' _ (Nat.le_succ _) sb ⟨ms', es', ep', t', R', fun z => ?_, by omega⟩
    rw [hm, take_snoc hz, List.mem_append, List.mem_singleton, g z]
    exact ⟨fun q => q.elim .inr .inl, fun q => q.elim .inr .inl⟩
/-! ### sorted of a set -/
theorem each_perm {α β : Type} {R : α → β → Prop} {l l' : List α} (p : l'.Perm l) : ∀ {bs : List β}, PySem.W.EachIs R l bs → ∃ bs', PySem.W.EachIs R l' bs' ∧ bs'.Perm bs := by
  induction p with
  | nil => exact fun {bs} e => ⟨bs, e, List.Perm.refl _⟩
  | cons x _ ih =>
    intro bs e
    cases e with
    | cons h t =>
      obtain ⟨bs', e', p'⟩ := ih t
      exact ⟨_ :: bs', .cons h e', p'.cons _⟩
  | swap x y l =>
    intro bs e
    cases e with
    | cons h t =>
      cases t with
      | cons h' t' => exact ⟨_, .cons h' (.cons h t'), List.Perm.swap _ _ _⟩
  | trans _ _ ih1 ih2 =>
    intro bs e
    obtain ⟨b1, e1, p1⟩ := ih2 e
    obtain ⟨b2, e2, p2⟩ := ih1 e1
    exact ⟨b2, e2, p2.trans p1⟩
open PySem.W in
theorem each_and {α β : Type} {R S : α → β → Prop} : ∀ {as : List α} {bs : List β}, EachIs R as bs → EachIs S as bs → EachIs (fun a b => R a b ∧ S a b) as bs
  | _, _, .nil, .nil => .nil
  | _, _, .cons h t, .cons h' t' => .cons ⟨h, h'⟩ (each_and t t')
open PySem.W in
/-- xs.sort(): the list's own object then holds the sorted values -/
theorem list_sorts {β : Type} {a : Addr} {n : Nat} {vs : List Value} {bs : List β} {enc : β → PyData} {R : Value → β → Prop} {Q : Value → Shared → Prop} (ho : s.heap.get? a = some (seqObj "list" vs.toArray n)) (e : EachIs R vs bs) (er : EachIs (fun v b => ∃ as, Reads s.heap v (enc b) as ∧ a ∉ as) vs bs) (hal : AllAlike (bs.map enc)) (hk : (∀ d ∈ bs.map enc, ∃ xs, d = .tuple xs) ∨ Sortable (bs.map enc)) (hL : bs.length ≤ sizeLine)
    (hu : ∀ b, b ∈ bs → A.units + 1 + (enc b).depth < cLine) (h : ∀ out, out.length = bs.length → EachIs R out (bs.mergeSort (dataLe false enc)) → Q .none { s with heap := sortedHeap s.heap a vs (List.toArray out) }) :
    wpAny (model P w) A (call (.builtin "list.sort") [.ref a]) Q E s := by
  have er' : EachIs (fun v b => ∃ as, Reads (sortingHeap s.heap a vs) v (enc b) as) vs bs := each_keepBut (h' := sortingHeap s.heap a vs) (fun _ _ hb q => sortingHeap_old hb q) (fun o q => by rw [ho] at q; rw [← Option.some.inj q]) hal er
  have em := each_map (R := fun v d => ∃ as, Reads (sortingHeap s.heap a vs) v d as) enc er'
  have can : SortsAt P w A.in1 { s with heap := sortingHeap s.heap a vs } (dataKind (sortingHeap s.heap a vs) (bs.map enc)) vs := by
    rcases hk with ht | hs
    · exact SortsAt.tups (s := { s with heap := sortingHeap s.heap a vs }) em hal ht (bound_map hu)
    · exact SortsAt.data (s := { s with heap := sortingHeap s.heap a vs }) em hal hs (bound_map hu)
  refine wpAny_call_entry slot_list_sort ⟨_, ho, rfl⟩ entry_list_sort (list_sort_vals (κ := dataKind (sortingHeap s.heap a vs) (bs.map enc)) ho can (by rw [e.length]; exact hL) ⟨.none, rfl, ?_⟩) (args_list_sort _)
  exact h _ (by rw [sortVals_length false rfl]; exact e.length) (sortVals_data false e er' hal)
open PySem.W in
theorem sort_facts {β : Type} (enc : β → PyData) (bs : List β) : (bs.mergeSort (dataLe false enc)).Perm bs ∧ (bs.mergeSort (dataLe false enc)).Pairwise (fun a b => dataLe false enc a b = true) :=
  ⟨List.mergeSort_perm _ _, sort_pairwise (sortLe_total (listOrd itemOrd) false fun b => keyToks (enc b)) bs⟩
open PySem.W in
theorem sorted_coll {β : Type} {a : Addr} {es : Array (Int × Value)} {ep : Nat} {t : SetTable} {bs : List β} {enc : β → PyData} {R : Value → β → Prop} {Q : Value → Shared → Prop} (hh : A.handled = none) (ha : SetAt s.heap a es ep t) (hf : t.fits es.size = true) (hsz : es.size < scanBound) (r : Ris t.place.toList)
    (hl : w.params.followText "set-order" = true ∨ t.led = true) (e : EachIs R (es.toList.map (·.2)) bs) (er : EachIs (fun v b => ∃ as, Reads s.heap v (enc b) as ∧ ∀ c ∈ as, c < s.heap.objs.size) (es.toList.map (·.2)) bs)
    (hal : AllAlike (bs.map enc)) (hk : (∀ d ∈ bs.map enc, ∃ xs, d = .tuple xs) ∨ Sortable (bs.map enc)) (hu : ∀ b, b ∈ bs → A.units + 3 + (enc b).depth < cLine)
    (hQ : ∀ s' p (out : Array Value) (c : Nat) (bs' : List β), (∀ b o, s.heap.get? b = some o → s'.heap.get? b = some o) → s'.gens = s.gens → s'.os = s.os → s.heap.objs.size ≤ p → s'.heap.get? p = some (seqObj "list" out c) →
      EachIs R out.toList bs' → bs'.Perm bs → bs'.Pairwise (fun a b => dataLe false enc a b = true) → Q (.ref p) s') :
    wpAny (model P w) A (call (.builtin "sorted") [.ref a]) Q E s := by
  refine Calls.call_function_entry kind_sorted plain_sorted entry_sorted (args_sorted1 _) ?_
  unfold Builtin.«sorted»
  refine wpAny_bind (m := checkCount "sorted" 1 1 _) (wpAny_pure ?_)
  refine wpAny_bind (collect_set (A := A.in1) hh ha hf hsz r hl fun s1 vs k1 hz g1 o1 pm => ?_)
  obtain ⟨bs1, e1, p1⟩ := each_perm pm (each_and e er)
  have lb : bs.length = es.size := by rw [← e.length, List.length_map, Array.length_toList]
  have lv : vs.length = bs1.length := e1.length
  have l1 : bs1.length = bs.length := p1.length_eq
  have sl : scanBound = 4096 := rfl
  refine wpAny_bind (wpAny_newList ?_ (by rw [sizeLine_eq]; omega))
  have hoL : (s1.heap.push (seqObj "list" vs.toArray 0)).get? s1.heap.objs.size = some (seqObj "list" vs.toArray 0) := Heap.get?_push_size _ rfl
  have mem1 : ∀ d, d ∈ bs1.map enc ↔ d ∈ bs.map enc := fun d => (p1.map enc).mem_iff
  refine wpAny_bind (wpAny_holding (list_sorts (s := { s1 with heap := s1.heap.push (seqObj "list" vs.toArray 0) }) (enc := enc) (R := R) hoL (e1.mono fun _ _ z => z.1)
    (e1.mono fun v b z => ?_) (fun d hd d' hd' => hal d ((mem1 d).mp hd) d' ((mem1 d').mp hd')) ?_ (by rw [sizeLine_eq]; omega) (fun b hb => ?_) fun out ho eo => ?_))
  · obtain ⟨_, as, rd, lo⟩ := z
    refine ⟨as, PyProof.Rows.Reads.keeps (fun c o q => Heap.get?_push_of_some _ (k1 c o q)) rd, fun hm => ?_⟩
    exact absurd (Nat.lt_of_lt_of_le (lo _ hm) hz) (Nat.lt_irrefl _)
  · rcases hk with ht | hs
    · exact .inl fun d hd => ht d ((mem1 d).mp hd)
    · rcases hs with h1 | h2
      · exact .inr (.inl fun d hd => h1 d ((mem1 d).mp hd))
      · exact .inr (.inr fun d hd => h2 d ((mem1 d).mp hd))
  · have := hu b (p1.mem_iff.mp hb)
    simp only [Around.in1_units]
    omega
  · obtain ⟨c, hc⟩ := sortedHeap_at (vs := vs) (out := out.toArray) hoL
    have sf := sort_facts enc bs1
    refine wpAny_pure ⟨_, rfl, hQ _ s1.heap.objs.size out.toArray c (bs1.mergeSort (dataLe false enc)) (fun b u q => ?_) g1 o1 hz hc (by simpa using eo) (sf.1.trans p1) sf.2⟩
    have q1 := k1 b u q
    have hlt := Heap.lt_size q1
    show (sortedHeap (s1.heap.push (seqObj "list" vs.toArray 0)) s1.heap.objs.size vs out.toArray).get? b = some u
    rw [sortedHeap_old (Nat.ne_of_lt hlt) (by rw [size_push']; exact Nat.lt_succ_of_lt hlt)]
    exact Heap.get?_push_of_some _ q1
end
end Rw
namespace Rw
open PySem PySem.Spec PyProof.Rows L2 PySem.Froz
/-! ### data made of texts, whole numbers, None and tuples -/
mutual
def okD : PyData → Bool
  | .none => true
  | .int _ => true
  | .str _ => true
  | .tuple xs => okDs xs
  | .bool _ => false
  | .list _ => false
  | .dict _ => false
def okDs : List PyData → Bool
  | [] => true
  | x :: xs => okD x && okDs xs
end
mutual
def toK : PyData → NK
  | .none => .none
  | .int i => .num i
  | .str x => .text x
  | .tuple xs => .tup (toKs xs)
  | .bool _ => .none
  | .list _ => .none
  | .dict _ => .none
def toKs : List PyData → List NK
  | [] => []
  | x :: xs => toK x :: toKs xs
end
theorem okDs_cons {x : PyData} {xs : List PyData} (h : okDs (x :: xs) = true) : okD x = true ∧ okDs xs = true := by
  rw [okDs, Bool.and_eq_true] at h
  exact h
mutual
theorem toK_data : ∀ d : PyData, okD d = true → (toK d).data = d
  | .none, _ => by simp [toK, NestedKey.data]
  | .int _, _ => by simp [toK, NestedKey.data]
  | .str _, _ => by simp [toK, NestedKey.data]
  | .tuple xs, h => by
    rw [okD] at h
    rw [toK, NestedKey.data, toKs_data xs h]
  | .bool _, h => by simp [okD] at h
  | .list _, h => by simp [okD] at h
  | .dict _, h => by simp [okD] at h
theorem toKs_data : ∀ ds : List PyData, okDs ds = true → NestedKey.datas (toKs ds) = ds
  | [], _ => by simp [toKs, NestedKey.datas]
  | x :: xs, h => by
    obtain ⟨h1, h2⟩ := okDs_cons h
    rw [toKs, NestedKey.datas, toK_data x h1, toKs_data xs h2]
end
theorem toK_inj {d e : PyData} (hd : okD d = true) (he : okD e = true) (h : toK d = toK e) : d = e := by
  rw [← toK_data d hd, ← toK_data e he, h]
mutual
theorem toK_depth : ∀ d : PyData, (toK d).depth ≤ d.depth
  | .none => by simp [toK, NestedKey.depth]
  | .int _ => by simp [toK, NestedKey.depth]
  | .str _ => by simp [toK, NestedKey.depth]
  | .tuple xs => by
    have z := toKs_depth xs
    rw [toK, NestedKey.depth, PyData.depth]
    omega
  | .bool _ => by simp [toK, NestedKey.depth]
  | .list _ => by simp [toK, NestedKey.depth]
  | .dict _ => by simp [toK, NestedKey.depth]
theorem toKs_depth : ∀ ds : List PyData, NestedKey.depthAll (toKs ds) ≤ PyData.depthAll ds
  | [] => by simp [toKs, NestedKey.depthAll]
  | x :: xs => by
    have z1 := toK_depth x
    have z2 := toKs_depth xs
    rw [toKs, NestedKey.depthAll, PyData.depthAll]
    omega
end
mutual
theorem isK_of : ∀ (d : PyData) (h : Heap) (v : Value) (as : List Addr), okD d = true → Reads h v d as → NestedIs h (toK d) v ∧ as = []
  | .none, _, _, _, _, r => by
    cases r
    exact ⟨.none, rfl⟩
  | .int _, _, _, _, _, r => by
    cases r
    exact ⟨.int _ _, rfl⟩
  | .str _, _, _, _, _, r => by
    cases r
    exact ⟨.text _ _, rfl⟩
  | .tuple xs, h, _, _, ok, r => by
    rw [okD] at ok
    cases r with
    | tuple h1 h2 h3 h4 =>
      obtain ⟨k, e⟩ := isKs_of xs h _ _ ok h4
      exact ⟨.tup h1 h2 h3 k, e⟩
  | .bool _, _, _, _, ok, _ => by simp [okD] at ok
  | .list _, _, _, _, ok, _ => by simp [okD] at ok
  | .dict _, _, _, _, ok, _ => by simp [okD] at ok
theorem isKs_of : ∀ (ds : List PyData) (h : Heap) (vs : List Value) (as : List Addr), okDs ds = true → ReadsAll h vs ds as → NestedAll h (toKs ds) vs ∧ as = []
  | [], _, _, _, _, r => by
    cases r
    exact ⟨.nil, rfl⟩
  | x :: xs, h, _, _, ok, r => by
    obtain ⟨o1, o2⟩ := okDs_cons ok
    cases r with
    | cons r1 r2 =>
      obtain ⟨k1, e1⟩ := isK_of x h _ _ o1 r1
      obtain ⟨k2, e2⟩ := isKs_of xs h _ _ o2 r2
      exact ⟨.cons k1 k2, by rw [e1, e2]; rfl⟩
end
/-- a tuple of such, not too deep -/
structure Good (d : PyData) : Prop where
  ok : okD d = true
  dp : d.depth ≤ 8
  tu : ∃ xs, d = .tuple xs
/-! ### what stays while tuples stay -/
def Stay (H H' : Hp) : Prop := ∀ b xs, Rd H b (.tup xs) → Rd H' b (.tup xs)
theorem Stay.refl (H : Hp) : Stay H H := fun _ _ h => h
theorem Stay.trans {H H1 H2 : Hp} (a : Stay H H1) (b : Stay H1 H2) : Stay H H2 := fun c xs h => b c xs (a c xs h)
theorem Stay.same {H H' : Hp} (h : Same H H') : Stay H H' := fun b xs r => by
  rcases r with r | ⟨o, r⟩
  · exact .inl (h _ _ r)
  · exact .inr ⟨o, h _ _ r⟩
theorem same_new {H : Hp} {p : Addr} (h : H p = none) (o : HO) : Same H (upd H p o) := fun b u q => by
  rw [upd_ne (ne_of_none q h)]
  exact q
theorem Stay.new {H : Hp} {p : Addr} (h : H p = none) (o : HO) : Stay H (upd H p o) := .same (same_new h o)
theorem Stay.put {H : Hp} {p : Addr} (h : Mut (H p)) (o : HO) : Stay H (upd H p o) := fun b xs r => by
  have ne : b ≠ p := fun z => by
    subst z
    rcases r with r | ⟨u, r⟩
    · rw [r] at h; exact h
    · rw [r] at h; exact h
  unfold Rd
  rw [upd_ne ne]
  exact r
theorem Stay.seq {K : PySem.W.Frag} {H H' : Hp} {a : Addr} {xs : List V} (e : Stay H H') (h : SqT K H a xs) : SqT K H' a xs := by
  rcases h with h | h
  · exact .inl (e _ _ h)
  · exact .inr h
theorem same_tup {K : PySem.W.Frag} {H H' : Hp} {a : Addr} {xs : List V} (e : Same H H') (h : SqT K H a xs) : SqT K H' a xs := (Stay.same e).seq h
section
variable {K : PySem.W.Frag} {H H' : Hp}
mutual
theorem Stay.dp (e : Stay H H') : ∀ (d : PyData) (x : V), okD d = true → Dp K H x d → Dp K H' x d
  | .none, _, _, h => by cases h; exact .non
  | .int _, _, _, h => by cases h; exact .int _
  | .str _, _, _, h => by cases h; exact .str _
  | .tuple ds, _, ok, h => by
    rw [okD] at ok
    cases h with
    | tup h1 h2 => exact .tup (e.seq h1) (Stay.dpAll e ds _ ok h2)
  | .bool _, _, ok, _ => by simp [okD] at ok
  | .list _, _, ok, _ => by simp [okD] at ok
  | .dict _, _, ok, _ => by simp [okD] at ok
theorem Stay.dpAll (e : Stay H H') : ∀ (ds : List PyData) (xs : List V), okDs ds = true → DpAll K H xs ds → DpAll K H' xs ds
  | [], _, _, h => by cases h; exact .nil
  | d :: ds, _, ok, h => by
    obtain ⟨o1, o2⟩ := okDs_cons ok
    cases h with
    | cons h1 h2 => exact .cons (Stay.dp e d _ o1 h1) (Stay.dpAll e ds _ o2 h2)
end
theorem okDs_all {ds : List PyData} (h : ∀ d ∈ ds, okD d = true) : okDs ds = true := by
  induction ds with
  | nil => rfl
  | cons d ds ih =>
    rw [okDs, h d List.mem_cons_self, ih fun e he => h e (List.mem_cons_of_mem _ he)]
    rfl
theorem dpAll_len : ∀ {xs : List V} {ds : List PyData}, DpAll K H xs ds → xs.length = ds.length
  | _, _, .nil => rfl
  | _, _, .cons _ t => by rw [List.length_cons, List.length_cons, dpAll_len t]
theorem dpAll_at : ∀ {xs : List V} {ds : List PyData} {i : Nat} {d : PyData}, DpAll K H xs ds → ds[i]? = some d → ∃ x, xs[i]? = some x ∧ Dp K H x d
  | _, _, _, _, .nil, e => by simp at e
  | _, _, 0, _, .cons h _, e => by
    simp at e
    subst e
    exact ⟨_, rfl, h⟩
  | _, _, i + 1, _, .cons _ t, e => by
    obtain ⟨x, h1, h2⟩ := dpAll_at (i := i) t (by simpa using e)
    exact ⟨x, by simpa using h1, h2⟩
theorem dpAll_at' : ∀ {xs : List V} {ds : List PyData} {i : Nat} {x : V}, DpAll K H xs ds → xs[i]? = some x → ∃ d, ds[i]? = some d ∧ Dp K H x d
  | _, _, _, _, .nil, e => by simp at e
  | _, _, 0, _, .cons h _, e => by
    simp at e
    subst e
    exact ⟨_, rfl, h⟩
  | _, _, i + 1, _, .cons _ t, e => by
    obtain ⟨x, h1, h2⟩ := dpAll_at' (i := i) t (by simpa using e)
    exact ⟨x, by simpa using h1, h2⟩
theorem dpAll_app : ∀ {xs ys : List V} {ds es : List PyData}, DpAll K H xs ds → DpAll K H ys es → DpAll K H (xs ++ ys) (ds ++ es)
  | _, _, _, _, .nil, h => h
  | _, _, _, _, .cons a t, h => .cons a (dpAll_app t h)
theorem Good.ref {x : V} {d : PyData} (g : Good d) (h : Dp K H x d) : ∃ a, x = .ref a := by
  obtain ⟨xs, rfl⟩ := g.tu
  cases h with
  | tup _ _ => exact ⟨_, rfl⟩
end
/-! ### the rules over the abstract heap -/
def tk (L : List (Addr × PyData)) : List (Addr × NK) := L.map fun p => (p.1, toK p.2)
/-- the set of tuples at a, without the tuples -/
def TSetO (w : World) (a : Addr) (L : List (Addr × PyData)) : HO := .ext fun h => ∃ (es : Array (Int × Value)) (ep : Nat) (t : SetTable), (∃ o, h.get? a = some o ∧ o.ExactSet ∧ o.data = .set es ep t) ∧ es.toList = ents w (tk L) ∧ TabOk t (hashes w (tk L)) ∧ ((tk L).map (·.2)).Nodup ∧
  (w.params.followText "set-order" = true ∨ t.led = true) ∧ (tk L).length * 5 < t.mask * 3 ∧ (tk L).length < 64
def XSetO (P : Program) (w : World) (a : Addr) (ms : List Str) : HO := .ext fun h => ∃ (es : Array (Int × Value)) (ep : Nat) (t : SetTable), XSet P w h a ms es ep t
section
variable {X : Cx} {pins : List (Addr × Obj)} {σ : L2.St} {H : Hp} {s : Shared}
theorem key_at (I : Inv X pins σ H s) {a : Addr} {d : PyData} (h : Dp X.K H (.ref a) d) (g : Good d) : TupK s.heap (toK d) a := by
  obtain ⟨as, r⟩ := Dp.reads I d (.ref a) (.ref a) h rfl
  exact ⟨(isK_of d s.heap _ as g.ok r).1, Nat.le_trans (toK_depth d) g.dp⟩
theorem refs_of (g : ∀ d ∈ ds, Good d) {K : PySem.W.Frag} {H : Hp} : ∀ {xs : List V}, DpAll K H xs ds → ∃ L : List (Addr × PyData), xs = L.map (fun p => V.ref p.1) ∧ ds = L.map (·.2) ∧ ∀ p ∈ L, Dp K H (.ref p.1) p.2 := by
  induction ds with
  | nil =>
    intro xs h
    cases h
    exact ⟨[], rfl, rfl, fun p hp => nomatch hp⟩
  | cons d ds ih =>
    intro xs h
    cases h with
    | cons h1 h2 =>
      obtain ⟨L, e1, e2, e3⟩ := ih (fun e he => g e (List.mem_cons_of_mem _ he)) h2
      obtain ⟨a, rfl⟩ := (g d List.mem_cons_self).ref h1
      refine ⟨(a, d) :: L, by rw [e1]; rfl, by rw [e2]; rfl, fun p hp => ?_⟩
      rcases List.mem_cons.mp hp with e | hp
      · rw [e]
        exact h1
      · exact e3 p hp
theorem vals_refs : ∀ {L : List (Addr × PyData)} {us : List Value}, Vals (L.map fun p => V.ref p.1) us → us = (tk L).map fun p => Value.ref p.1
  | [], _, .nil => rfl
  | p :: L, _, .cons r t => by
    cases r
    rw [vals_refs t]
    rfl
/-- set(xs), xs a list or a tuple of tuples -/
def rSetT (K : PySem.W.Frag) (w : World) : List V → Hp → VK → Prop := fun vs H Q => ∃ (l : Addr) (xs : List V) (ds : List PyData), vs = [V.ref l] ∧ (SqL K H l xs ∨ SqT K H l xs) ∧ DpAll K H xs ds ∧ (∀ d ∈ ds, Good d) ∧ ds.length < 64 ∧
  ∀ a L, H a = none → (∀ p ∈ L, p.2 ∈ ds ∧ Dp K H (.ref p.1) p.2) → (∀ d ∈ ds, d ∈ L.map (·.2)) → Q (.ref a) (upd H a (TSetO w a L))
theorem cr_setT (hc : X.calm = true) (hu : X.A.units + 64 < cLine) : CallR X (.type "set") (rSetT X.K X.w) := by
  intro pins s σ H vs us Q I r h
  obtain ⟨l, xs, ds, rfl, hl, hd, hg, hf, q⟩ := h
  obtain ⟨L0, rfl, rfl, hL0⟩ := refs_of hg hd
  rw [Vals.ref1 r]
  have hn : H s.heap.objs.size = none := I.hok.fresh (Nat.le_refl _)
  have hk0 : ∀ p ∈ tk L0, TupK s.heap p.2 p.1 := fun p hp => by
    obtain ⟨z, hz, rfl⟩ := List.mem_map.mp hp
    exact key_at I (hL0 z hz) (hg z.2 (List.mem_map.mpr ⟨z, hz, rfl⟩))
  have few : (tk L0).length < 64 := by
    unfold tk
    rw [List.length_map]
    rw [List.length_map] at hf
    exact hf
  have T := fill_tups (P := X.prog) (w := X.w) s.heap.objs.size s.heap (tk L0) hk0 few
  have fin : ∀ (n : Nat), n = (tk L0).length → ∀ (h' : Heap) (tk' : Nat), (∃ L es ep t, TSet X.prog X.w h' s.heap.objs.size L es ep t ∧ GotN (tk L0) n L) → (∀ b o, s.heap.get? b = some o → h'.get? b = some o) → EP X pins σ Q (.ref s.heap.objs.size) { s with heap := h', toks := tk' } := by
    intro n en h' tk' ⟨L, es, ep, t, R, g⟩ k
    subst en
    have back : ∀ M : List (Addr × NK), (∀ p ∈ M, p ∈ tk L0) → ∃ M0 : List (Addr × PyData), M = tk M0 ∧ ∀ p ∈ M0, p ∈ L0 := by
      intro M
      induction M with
      | nil => exact fun _ => ⟨[], rfl, fun p hp => nomatch hp⟩
      | cons m M ih =>
        intro hm
        obtain ⟨M0, e, h0⟩ := ih fun p hp => hm p (List.mem_cons_of_mem _ hp)
        obtain ⟨z, hz, ez⟩ := List.mem_map.mp (hm m List.mem_cons_self)
        refine ⟨z :: M0, by rw [e, ← ez]; rfl, fun p hp => ?_⟩
        rcases List.mem_cons.mp hp with e' | hp
        · rw [e']
          exact hz
        · exact h0 p hp
    obtain ⟨M, rfl, hM⟩ := back L fun p hp => List.mem_of_mem_take (g.sub p hp)
    have new : ObjOk X.prog X.w (upd H s.heap.objs.size (TSetO X.w s.heap.objs.size M)) h' s.heap.objs.size (TSetO X.w s.heap.objs.size M) := by
      obtain ⟨o, ho, ho2⟩ := R.ob
      refine ⟨⟨es, ep, t, ⟨o, ho, ho2⟩, R.en, R.tab, R.nd, R.led, R.room, R.few⟩, ⟨o, ho⟩, fun h1 h2 ⟨es', ep', t', ⟨o', e1, e2⟩, z⟩ kk => ⟨es', ep', t', ⟨o', kk o' e1, e2⟩, z⟩⟩
    refine ⟨.ref s.heap.objs.size, upd H s.heap.objs.size (TSetO X.w s.heap.objs.size M), I.laid (t' := tk') k (Nat.le_refl _) new, rfl, q _ M hn (fun p hp => ⟨List.mem_map.mpr ⟨p, hM p hp, rfl⟩, hL0 p (hM p hp)⟩) fun d hd => ?_⟩
    obtain ⟨z, hz, rfl⟩ := List.mem_map.mp hd
    have := g.all (z.1, toK z.2) (by rw [List.take_length]; exact List.mem_map.mpr ⟨z, hz, rfl⟩)
    obtain ⟨y, hy, ey⟩ := List.mem_map.mp this
    obtain ⟨y0, hy0, e0⟩ := List.mem_map.mp hy
    have e3 : toK y0.2 = toK z.2 := by
      have e := ey
      rw [← e0] at e
      exact e
    have e4 : y0.2 = z.2 := toK_inj (hg _ (List.mem_map.mpr ⟨y0, hM y0 hy0, rfl⟩)).ok (hg _ (List.mem_map.mpr ⟨z, hz, rfl⟩)).ok e3
    exact List.mem_map.mpr ⟨y0, hy0, e4⟩
  have vlen : ∀ {its : List Value}, its = (tk L0).map (fun p => Value.ref p.1) → its.toArray.size = (tk L0).length := fun e => by
    rw [e, List.size_toArray, List.length_map]
  rcases hl with hl | hl
  · obtain ⟨its, rv, pl, hz⟩ := I.list hl
    have ev := vals_refs rv
    exact call_fill_list (I.ok.hd hc) pl.isList (by rw [show its.toArray.toList = its by simp, ev]; exact T) (by omega) fun h' tk' G k => fin _ (vlen ev) h' tk' G k
  · obtain ⟨its, rv, pl, hz⟩ := I.tuple hl
    have ev := vals_refs rv
    obtain ⟨o, e1, e2, n, e3⟩ := pl
    exact call_fill_tuple (I.ok.hd hc) ⟨o, e1, e2, n, e3⟩ (by rw [show its.toArray.toList = its by simp, ev]; exact T) (by omega) fun h' tk' G k => fin _ (vlen ev) h' tk' G k
theorem tset_get (I : Inv X pins σ H s) {a : Addr} {L : List (Addr × PyData)} (ha : H a = some (TSetO X.w a L)) (hL : ∀ p ∈ L, Good p.2 ∧ Dp X.K H (.ref p.1) p.2) : ∃ es ep t, TSet X.prog X.w s.heap a (tk L) es ep t := by
  obtain ⟨es, ep, t, h1, h2, h3, h4, h5, h6, h7⟩ := (I.hok a _ ha).1
  refine ⟨es, ep, t, h1, h2, h3, h4, fun p hp => ?_, h5, h6, h7⟩
  obtain ⟨z, hz, rfl⟩ := List.mem_map.mp hp
  exact key_at I (hL z hz).2 (hL z hz).1
open PySem.W in
/-- values that stand for data, as values of the layer -/
theorem each_vals {K : PySem.W.Frag} {H : Hp} : ∀ {us : List Value} {ds : List PyData}, EachIs (fun u d => ∃ x, RelV x u ∧ Dp K H x d) us ds → ∃ ys, Vals ys us ∧ DpAll K H ys ds
  | _, _, .nil => ⟨[], .nil, .nil⟩
  | _, _, .cons ⟨x, r, h⟩ t => by
    obtain ⟨ys, v, h'⟩ := each_vals t
    exact ⟨x :: ys, .cons r v, .cons h h'⟩
open PySem.W in
theorem each_map' {α γ δ : Type} {R : γ → δ → Prop} (f : α → γ) (g : α → δ) : ∀ {l : List α}, (∀ a ∈ l, R (f a) (g a)) → EachIs R (l.map f) (l.map g)
  | [], _ => .nil
  | a :: l, h => .cons (h a List.mem_cons_self) (each_map' f g fun b hb => h b (List.mem_cons_of_mem _ hb))
/-- in rising order, as Python's < says -/
abbrev Rising (ds : List PyData) : Prop := ds.Pairwise fun a b => PySem.W.dataLe false id a b = true
/-- sorted(a set of tuples) -/
def rSortT (K : PySem.W.Frag) (w : World) : List V → Hp → VK → Prop := fun vs H Q => ∃ (a : Addr) (L : List (Addr × PyData)), vs = [V.ref a] ∧ H a = some (TSetO w a L) ∧ (∀ p ∈ L, Good p.2 ∧ Dp K H (.ref p.1) p.2) ∧ PySem.W.AllAlike (L.map (·.2)) ∧
  ∀ (ys : List V) (ds : List PyData) (p : Addr), ds.Perm (L.map (·.2)) → ds.Nodup → ds.length < 64 → Rising ds → DpAll K H ys ds → H p = none → Q (.ref p) (upd H p (.lst ys))
theorem cr_sortT (hc : X.calm = true) (hu : X.A.units + 64 < cLine) : CallR X (.builtin "sorted") (rSortT X.K X.w) := by
  intro pins s σ H vs us Q I r h
  obtain ⟨a, L, rfl, ha, hL, hal, q⟩ := h
  obtain ⟨es, ep, t, R⟩ := tset_get I ha hL
  rw [Vals.ref1 r]
  obtain ⟨o, ho, hex, hd⟩ := R.ob
  have hvals : es.toList.map (·.2) = L.map fun p => Value.ref p.1 := by
    rw [R.en]
    unfold ents tk
    rw [List.map_map, List.map_map]
    rfl
  have few : L.length < 64 := by
    have := R.few
    unfold tk at this
    rw [List.length_map] at this
    exact this
  have e1 : PySem.W.EachIs (fun u d => ∃ x, RelV x u ∧ Dp X.K H x d) (es.toList.map (·.2)) (L.map (·.2)) := by
    rw [hvals]
    exact each_map' _ _ fun p hp => ⟨.ref p.1, rfl, (hL p hp).2⟩
  have e2 : PySem.W.EachIs (fun v d => ∃ as, Reads s.heap v (id d) as ∧ ∀ c ∈ as, c < s.heap.objs.size) (es.toList.map (·.2)) (L.map (·.2)) := by
    rw [hvals]
    refine each_map' _ _ fun p hp => ?_
    obtain ⟨as, rd⟩ := Dp.reads I p.2 (.ref p.1) (.ref p.1) (hL p hp).2 rfl
    refine ⟨as, rd, ?_⟩
    rw [(isK_of p.2 s.heap _ as (hL p hp).1.ok rd).2]
    exact fun c hc => nomatch hc
  have hm : ∀ d ∈ (L.map (·.2)).map id, Good d := fun d hd => by
    rw [List.map_id] at hd
    obtain ⟨p, hp, rfl⟩ := List.mem_map.mp hd
    exact (hL p hp).1
  refine sorted_coll (enc := id) (I.ok.hd hc) ⟨o, ho, hex.1, hd⟩ R.fits (by have := size_of_ents R.en; unfold tk at this; rw [List.length_map] at this; unfold scanBound; omega) R.tab.ris R.led e1 e2 (by rw [List.map_id]; exact hal) (.inl fun d hd => (hm d hd).tu) (fun d hd => ?_) fun s' p out c ds k g os hp hg ho' pm sr => ?_
  · have z := (hm d (by rw [List.map_id]; exact hd)).dp
    show X.A.units + 3 + d.depth < cLine
    omega
  · obtain ⟨ys, hv, hd'⟩ := each_vals ho'
    have hn : H p = none := I.hok.fresh hp
    have hl : ds.length = L.length := by rw [pm.length_eq, List.length_map]
    have hlen : ys.length ≤ sizeLine := by
      rw [dpAll_len hd', sizeLine_eq]
      omega
    have nd : ds.Nodup := by
      refine pm.nodup_iff.mpr ?_
      have z := R.nd
      unfold tk at z
      rw [List.map_map] at z
      have z' : (L.map fun p => toK p.2).Nodup := z
      have y : ((L.map (·.2)).map toK).Nodup := by
        rw [List.map_map]
        exact z'
      exact nodup_of_map y
    have J : Inv X pins σ (upd H p (.lst ys)) { s with heap := s'.heap, gens := s'.gens, drawn := s'.drawn, toks := s'.toks } :=
      I.call (ch := []) (Un.laid k hp hn) (I.hok.laid k hp ⟨hlen, out.toList, c, hv, hg⟩) (by rw [g]; exact I.bare) (fun _ z => nomatch z)
    have e : s' = { s with heap := s'.heap, gens := s'.gens, drawn := s'.drawn, toks := s'.toks } := by
      cases s'
      cases s
      cases os
      rfl
    rw [e]
    exact ⟨.ref p, _, J, rfl, q ys ds p pm nd (by omega) sr hd' hn⟩
/-- set(xs), xs a list or a tuple of texts -/
def rSetX (K : PySem.W.Frag) (P : Program) (w : World) : List V → Hp → VK → Prop := fun vs H Q => ∃ (l : Addr) (zs : List Str), vs = [V.ref l] ∧ (SqL K H l (zs.map V.str) ∨ SqT K H l (zs.map V.str)) ∧ zs.length < 1000 ∧
  ∀ a ms, H a = none → ms.Nodup → (∀ z, z ∈ ms ↔ z ∈ zs) → ms.length ≤ zs.length → Q (.ref a) (upd H a (XSetO P w a ms))
theorem vals_texts : ∀ {zs : List Str} {us : List Value}, Vals (zs.map V.str) us → PySem.W.EachIs (fun v z => ∃ u, v = Value.str z u) us zs
  | [], _, .nil => .nil
  | _ :: _, _, .cons r t => .cons r (vals_texts t)
theorem texts_vals {zs : List Str} {us : List Value} (h : PySem.W.EachIs (fun v z => ∃ u, v = Value.str z u) us zs) : Vals (zs.map V.str) us := by
  induction h with
  | nil => exact .nil
  | cons h _ ih => exact .cons h ih
theorem cr_setX (hc : X.calm = true) (hu : X.A.units + 64 < cLine) : CallR X (.type "set") (rSetX X.K X.prog X.w) := by
  intro pins s σ H vs us Q I r h
  obtain ⟨l, zs, rfl, hl, few, q⟩ := h
  rw [Vals.ref1 r]
  have hn : H s.heap.objs.size = none := I.hok.fresh (Nat.le_refl _)
  have fin : ∀ (n : Nat), n = zs.length → ∀ (h' : Heap) (tk' : Nat), (∃ ms es ep t, XSet X.prog X.w h' s.heap.objs.size ms es ep t ∧ (∀ z, z ∈ ms ↔ z ∈ zs.take n) ∧ ms.length ≤ n) → (∀ b o, s.heap.get? b = some o → h'.get? b = some o) → EP X pins σ Q (.ref s.heap.objs.size) { s with heap := h', toks := tk' } := by
    intro n en h' tk' ⟨ms, es, ep, t, R, g, hl⟩ k
    subst en
    have new : ObjOk X.prog X.w (upd H s.heap.objs.size (XSetO X.prog X.w s.heap.objs.size ms)) h' s.heap.objs.size (XSetO X.prog X.w s.heap.objs.size ms) :=
      ⟨⟨es, ep, t, R⟩, ⟨_, R.ob⟩, fun h1 h2 ⟨es', ep', t', R'⟩ kk => ⟨es', ep', t', R'.moved kk⟩⟩
    exact ⟨.ref s.heap.objs.size, _, I.laid (t' := tk') k (Nat.le_refl _) new, rfl, q _ ms hn R.nd (fun z => by rw [g z, List.take_length]) hl⟩
  have sb : scanBound = 4096 := rfl
  rcases hl with hl | hl
  · obtain ⟨its, rv, pl, hz⟩ := I.list hl
    have ev := vals_texts rv
    have T := fill_texts (P := X.prog) (w := X.w) s.heap.objs.size s.heap zs ev (by omega)
    exact call_fill_list (I.ok.hd hc) pl.isList (by rw [show its.toArray.toList = its by simp]; exact T) (by omega) fun h' tk' G k => fin its.toArray.size (by rw [List.size_toArray]; exact ev.length) h' tk' G k
  · obtain ⟨its, rv, pl, hz⟩ := I.tuple hl
    have ev := vals_texts rv
    have T := fill_texts (P := X.prog) (w := X.w) s.heap.objs.size s.heap zs ev (by omega)
    obtain ⟨o, e1, e2, n, e3⟩ := pl
    exact call_fill_tuple (I.ok.hd hc) ⟨o, e1, e2, n, e3⟩ (by rw [show its.toArray.toList = its by simp]; exact T) (by omega) fun h' tk' G k => fin its.toArray.size (by rw [List.size_toArray]; exact ev.length) h' tk' G k
abbrev RisingX (zs : List Str) : Prop := zs.Pairwise fun a b => decide (a.cps.toList ≤ b.cps.toList) = true
open PySem.W in
theorem each_iff {es : List (Int × Value)} : ∀ {ms : List Str}, (∀ e ∈ es, ∃ k u, e.2 = Value.str k u) → ∃ zs, EachIs (fun v z => ∃ u, v = Value.str z u) (es.map (·.2)) zs := by
  induction es with
  | nil => exact fun _ => ⟨[], .nil⟩
  | cons e es ih =>
    intro ms h
    obtain ⟨k, u, ek⟩ := h e List.mem_cons_self
    obtain ⟨zs, hz⟩ := ih (ms := ms) fun e' he => h e' (List.mem_cons_of_mem _ he)
    exact ⟨k :: zs, .cons ⟨u, ek⟩ hz⟩
/-- sorted(a set of texts) -/
def rSortX (P : Program) (w : World) : List V → Hp → VK → Prop := fun vs H Q => ∃ (a : Addr) (ms : List Str), vs = [V.ref a] ∧ H a = some (XSetO P w a ms) ∧ ms.length < 1000 ∧
  ∀ (zs : List Str) (p : Addr), (∀ z, z ∈ zs ↔ z ∈ ms) → zs.Nodup → zs.length ≤ ms.length → RisingX zs → H p = none → Q (.ref p) (upd H p (.lst (zs.map V.str)))
theorem nodup_len_le : ∀ {l m : List Str}, l.Nodup → (∀ z ∈ l, z ∈ m) → l.length ≤ m.length
  | [], _, _, _ => Nat.zero_le _
  | x :: l, m, hn, hs => by
    obtain ⟨h1, h2⟩ := List.nodup_cons.mp hn
    have hx : x ∈ m := hs x List.mem_cons_self
    have ih := nodup_len_le (l := l) (m := m.erase x) h2 fun y hy => (List.mem_erase_of_ne (show y ≠ x from fun e => h1 (by rw [← e]; exact hy))).2 (hs y (List.mem_cons_of_mem _ hy))
    rw [List.length_erase_of_mem hx] at ih
    have := List.length_pos_of_mem hx
    rw [List.length_cons]
    omega
theorem nodup_of_len : ∀ {l m : List Str}, m.Nodup → (∀ z ∈ m, z ∈ l) → l.length ≤ m.length → l.Nodup
  | [], _, _, _, _ => List.nodup_nil
  | x :: l, m, hm, hs, hl => by
    have hxl : x ∉ l := fun hx => by
      have z := nodup_len_le (l := m) (m := l) hm fun z hz => (List.mem_cons.mp (hs z hz)).elim (fun e => by rw [e]; exact hx) id
      rw [List.length_cons] at hl
      omega
    refine List.nodup_cons.mpr ⟨hxl, nodup_of_len (m := m.erase x) (hm.erase x) (fun z hz => ?_) ?_⟩
    · have hz' := List.mem_of_mem_erase hz
      rcases List.mem_cons.mp (hs z hz') with e | h
      · rw [e] at hz
        exact absurd hz (List.Nodup.not_mem_erase hm)
      · exact h
    · by_cases hx : x ∈ m
      · rw [List.length_erase_of_mem hx]
        rw [List.length_cons] at hl
        omega
      · rw [List.erase_of_not_mem hx]
        rw [List.length_cons] at hl
        omega
theorem cr_sortX (hc : X.calm = true) (hu : X.A.units + 64 < cLine) : CallR X (.builtin "sorted") (rSortX X.prog X.w) := by
  intro pins s σ H vs us Q I r h
  obtain ⟨a, ms, rfl, ha, hlt, q⟩ := h
  obtain ⟨es, ep, t, R⟩ := (I.hok a _ ha).1
  rw [Vals.ref1 r]
  have hel := R.ok.el
  have hsz : es.size = ms.length := R.ok.sz
  obtain ⟨zs, hz⟩ := each_iff (es := es.toList) (ms := ms) fun e he => by
    obtain ⟨⟨k, hk, _⟩, _⟩ := hel e he
    obtain ⟨u, hu⟩ := Value.isStrOf_shape (x := k) (v := e.2) hk
    exact ⟨k, u, hu⟩
  have e1 : PySem.W.EachIs (fun u z => RelV (.str z) u) (es.toList.map (·.2)) zs := hz
  have e2 : PySem.W.EachIs (fun v z => ∃ as, Reads s.heap v (PyData.str z) as ∧ ∀ c ∈ as, c < s.heap.objs.size) (es.toList.map (·.2)) zs := hz.mono fun v z ⟨u, e⟩ => ⟨[], by rw [e]; exact .str z u, fun c hc => nomatch hc⟩
  have mem : ∀ z, z ∈ zs ↔ z ∈ ms := fun z => by
    rw [R.ok.mem z]
    constructor
    · intro hm
      obtain ⟨i, hi, ei⟩ := List.getElem_of_mem hm
      have hi2 : i < (es.toList.map (·.2)).length := by rw [hz.length]; exact hi
      have pz : ((es.toList.map (·.2))[i], zs[i]) ∈ (es.toList.map (·.2)).zip zs := List.mem_of_getElem? (i := i) (by rw [List.getElem?_zip_eq_some]; exact ⟨List.getElem?_eq_getElem hi2, List.getElem?_eq_getElem hi⟩)
      obtain ⟨u, hu⟩ := hz.zip _ pz
      have hin := List.getElem_mem hi2
      rw [show (es.toList.map (·.2))[i] = Value.str zs[i] u from hu, ei] at hin
      obtain ⟨e, he, ee⟩ := List.mem_map.mp hin
      exact ⟨e, he, by rw [ee]; exact is_str z u⟩
    · rintro ⟨e, he, hk⟩
      obtain ⟨z', hz', u, hu⟩ := hz.left e.2 (List.mem_map.mpr ⟨e, he, rfl⟩)
      rw [hu] at hk
      have : z = z' := (strKind X.prog X.w).inj (.str z' u) z z' hk (is_str z' u)
      rw [this]
      exact hz'
  have zl : zs.length = ms.length := by rw [← hz.length, List.length_map, Array.length_toList, hsz]
  refine sorted_coll (enc := fun z : Str => PyData.str z) (I.ok.hd hc) ⟨_, R.ob, rfl, rfl⟩ R.ok.fit (by show es.size < scanBound; unfold scanBound; omega) R.ris R.led e1 e2 (PySem.W.AllAlike.of fun b b' => by simp [PySem.W.alike]) (.inr (PySem.W.Sortable.others fun b => ⟨(fun z => nomatch z), (fun xs z => nomatch z)⟩)) (fun d hd => ?_) fun s' p out c zs' k g os hp hg ho' pm sr => ?_
  · show X.A.units + 3 + (PyData.str d).depth < cLine
    simp only [PyData.depth]
    omega
  · have hn : H p = none := I.hok.fresh hp
    have hv : Vals (zs'.map V.str) out.toList := texts_vals ho'
    have hl : zs'.length = ms.length := by rw [pm.length_eq, zl]
    have hlen : (zs'.map V.str).length ≤ sizeLine := by
      rw [List.length_map, sizeLine_eq]
      omega
    have J : Inv X pins σ (upd H p (.lst (zs'.map V.str))) { s with heap := s'.heap, gens := s'.gens, drawn := s'.drawn, toks := s'.toks } :=
      I.call (ch := []) (Un.laid k hp hn) (I.hok.laid k hp ⟨hlen, out.toList, c, hv, hg⟩) (by rw [g]; exact I.bare) (fun _ z => nomatch z)
    have e : s' = { s with heap := s'.heap, gens := s'.gens, drawn := s'.drawn, toks := s'.toks } := by
      cases s'
      cases s
      cases os
      rfl
    rw [e]
    rw [PySem.W.dataLe_str fun z : Str => z] at sr
    have mem' : ∀ z, z ∈ zs' ↔ z ∈ ms := fun z => by rw [pm.mem_iff]; exact mem z
    exact ⟨.ref p, _, J, rfl, q zs' p mem' (nodup_of_len R.nd (fun z hz => (mem' z).mpr hz) (Nat.le_of_eq hl)) (Nat.le_of_eq hl) sr hn⟩
/-- sorted(a list of tuples) -/
def rSortL (K : PySem.W.Frag) : List V → Hp → VK → Prop := fun vs H Q => ∃ (a : Addr) (xs : List V) (ds : List PyData), vs = [V.ref a] ∧ SqL K H a xs ∧ DpAll K H xs ds ∧ (∀ d ∈ ds, Good d) ∧ PySem.W.AllAlike ds ∧
  ∀ (ys : List V) (es : List PyData) (p : Addr), es.Perm ds → Rising es → DpAll K H ys es → H p = none → Q (.ref p) (upd H p (.lst ys))
theorem cr_sortL (hu : X.A.units + 64 < cLine) : CallR X (.builtin "sorted") (rSortL X.K) := by
  intro pins s σ H vs us Q I r h
  obtain ⟨a, xs, ds, rfl, ha, hd, hg, hal, q⟩ := h
  rw [Vals.ref1 r]
  obtain ⟨its, rv, pl, hz⟩ := I.list ha
  have both : ∀ {xs : List V} {ds : List PyData} {its : List Value}, Vals xs its → DpAll X.K H xs ds → (∀ d ∈ ds, Good d) → PySem.W.EachIs (fun u d => (∃ x, RelV x u ∧ Dp X.K H x d) ∧ ∃ as, Reads s.heap u (id d) as) its ds := by
    intro xs ds its rv
    induction rv generalizing ds with
    | nil =>
      intro hd _
      cases hd
      exact .nil
    | cons r _ ih =>
      intro hd hg
      cases hd with
      | cons h1 h2 => exact .cons ⟨⟨_, r, h1⟩, Dp.reads I _ _ _ h1 r⟩ (ih h2 fun d hd => hg d (List.mem_cons_of_mem _ hd))
  have e0 := both rv hd hg
  have il : its.length = ds.length := e0.length
  have sl := sizeLine_eq
  have xl := rv.length
  have er' : PySem.W.EachIs (fun v d => ∃ as, Reads (PySem.W.sortingHeap (PySem.W.copyHeap s.heap its) (s.heap.objs.size + 1) its) v (id d) as) its ds := e0.mono fun _ _ z => by
    obtain ⟨_, as, rd⟩ := z
    exact ⟨as, PyProof.Rows.Reads.keeps (fun _ _ => PySem.W.sorting_copy_old) rd⟩
  have can : PySem.W.SortsAt X.prog X.w X.A.in1.in1 { s with heap := PySem.W.sortingHeap (PySem.W.copyHeap s.heap its) (s.heap.objs.size + 1) its } (PySem.W.dataKind (PySem.W.sortingHeap (PySem.W.copyHeap s.heap its) (s.heap.objs.size + 1) its) ds) its :=
    SortsAt.tups (s := { s with heap := PySem.W.sortingHeap (PySem.W.copyHeap s.heap its) (s.heap.objs.size + 1) its }) er' hal (fun d hd => (hg d hd).tu) fun d hd => by
      have z := (hg d hd).dp
      simp only [Around.in1_units]
      omega
  refine PySem.W.sorted_vals pl.isList can (by omega) ?_
  have eo : PySem.W.EachIs (fun u d => ∃ x, RelV x u ∧ Dp X.K H x d) (PySem.W.sortVals (PySem.W.dataKind (PySem.W.sortingHeap (PySem.W.copyHeap s.heap its) (s.heap.objs.size + 1) its) ds) false its its) (ds.mergeSort (PySem.W.dataLe false id)) := by
    have z := PySem.W.sortVals_data (h' := PySem.W.sortingHeap (PySem.W.copyHeap s.heap its) (s.heap.objs.size + 1) its) (enc := id) false (e0.mono fun _ _ z => z.1) er' (by rw [List.map_id]; exact hal)
    rw [List.map_id] at z
    exact z
  obtain ⟨ys, hv, hd'⟩ := each_vals eo
  have sf := sort_facts id ds
  generalize hout : PySem.W.sortVals (PySem.W.dataKind (PySem.W.sortingHeap (PySem.W.copyHeap s.heap its) (s.heap.objs.size + 1) its) ds) false its its = out at eo hv
  have hn : H (s.heap.objs.size + 1) = none := I.hok.fresh (Nat.le_succ _)
  obtain ⟨c, hcc⟩ := sortedAll_at s.heap its out.toArray
  have hlen : ys.length ≤ sizeLine := by
    rw [dpAll_len hd', sf.1.length_eq]
    omega
  exact ⟨.ref (s.heap.objs.size + 1), upd H (s.heap.objs.size + 1) (.lst ys), I.laid (t' := s.toks) (fun b o e => sortedAll_old e) (Nat.le_succ _) ⟨hlen, out, c, hv, hcc⟩, rfl, q ys _ _ sf.1 sf.2 hd' hn⟩
end
end Rw
namespace Rw
open PySem PySem.Spec PyProof.Rows L2
/-! ### dicts whose keys are tuples of texts and of such tuples -/
abbrev Ent := PyData × Addr × V
def RelE (p : Ent) (q : NK × Addr × Value) : Prop := toK p.1 = q.1 ∧ p.2.1 = q.2.1 ∧ RelV p.2.2 q.2.2
def NDO (P : Program) (w : World) (d : Addr) (kvs : List Ent) : HO := .ext fun h => kvs.length ≤ 100000 ∧ (d == sysModules) = false ∧ ∃ xs : List (NK × Addr × Value), Paired RelE kvs xs ∧
  ∃ o es ep, h.get? d = some o ∧ o.ExactDict ∧ o.data = .dict es ep ∧ es.toList = xs.map (entryOfKey (nestedKind P w)) ∧ (xs.map (·.1)).Nodup
/-- the entries' keys stand -/
abbrev KeysOk (K : PySem.W.Frag) (H : Hp) (kvs : List Ent) : Prop := ∀ p ∈ kvs, Good p.1 ∧ Dp K H (.ref p.2.1) p.1
theorem KeysOk.stay {K : PySem.W.Frag} {H H' : Hp} {kvs : List Ent} (h : KeysOk K H kvs) (e : Stay H H') : KeysOk K H' kvs := fun p hp => ⟨(h p hp).1, e.dp _ _ (h p hp).1.ok (h p hp).2⟩
theorem paired_mem {α β : Type} {F : α → β → Prop} : ∀ {l : List α} {m : List β}, Paired F l m → ∀ y ∈ m, ∃ x ∈ l, F x y
  | _, _, .nil, y, h => nomatch h
  | _, _, .cons r t, y, h => by
    rcases List.mem_cons.mp h with e | h
    · subst e
      exact ⟨_, List.mem_cons_self, r⟩
    · obtain ⟨x, hx, hr⟩ := paired_mem t y h
      exact ⟨x, List.mem_cons_of_mem _ hx, hr⟩
theorem paired_snoc {α β : Type} {F : α → β → Prop} {x : α} {y : β} (r : F x y) : ∀ {l : List α} {m : List β}, Paired F l m → Paired F (l ++ [x]) (m ++ [y])
  | _, _, .nil => .cons r .nil
  | _, _, .cons q t => .cons q (paired_snoc r t)
/-- what a look-up finds -/
theorem nd_look {kvs : List Ent} {xs : List (NK × Addr × Value)} (p : Paired RelE kvs xs) (hk : ∀ p ∈ kvs, Good p.1) {k : PyData} (g : Good k) :
    (∀ q, atKey xs (toK k) = some q → ∃ z ∈ kvs, z.1 = k ∧ RelV z.2.2 q.2) ∧ (atKey xs (toK k) = none → ∀ z ∈ kvs, z.1 ≠ k) := by
  induction p with
  | nil => exact ⟨fun q h => by simp [atKey] at h, fun _ z hz => nomatch hz⟩
  | @cons a b as bs r t ih =>
    obtain ⟨r1, r2, r3⟩ := r
    obtain ⟨i1, i2⟩ := ih fun p hp => hk p (List.mem_cons_of_mem _ hp)
    by_cases e : b.1 = toK k
    · have ek : a.1 = k := toK_inj (hk a List.mem_cons_self).ok g.ok (r1.trans e)
      have ea : atKey (b :: bs) (toK k) = some b.2 := by simp [atKey, e]
      refine ⟨fun q h => ?_, fun h => ?_⟩
      · rw [ea] at h
        cases h
        exact ⟨a, List.mem_cons_self, ek, r3⟩
      · rw [ea] at h
        cases h
    · have ea : atKey (b :: bs) (toK k) = atKey bs (toK k) := by simp [atKey, e]
      have ne : a.1 ≠ k := fun z => e (by rw [← r1, z])
      refine ⟨fun q h => ?_, fun h z hz => ?_⟩
      · rw [ea] at h
        obtain ⟨z, hz, h1⟩ := i1 q h
        exact ⟨z, List.mem_cons_of_mem _ hz, h1⟩
      · rw [ea] at h
        rcases List.mem_cons.mp hz with e' | hz
        · rw [e']
          exact ne
        · exact i2 h z hz
section
variable {X : Cx} {pins : List (Addr × Obj)} {σ : L2.St} {H : Hp} {s : Shared} {d : Addr} {kvs : List Ent} {E : Value → Shared → Prop}
theorem nd_get (I : Inv X pins σ H s) (hd : H d = some (NDO X.prog X.w d kvs)) (hk : KeysOk X.K H kvs) : kvs.length ≤ 100000 ∧ (d == sysModules) = false ∧ ∃ xs, Paired RelE kvs xs ∧ s.heap.DictOfH (nestedKind X.prog X.w) d xs := by
  obtain ⟨hz, hs, xs, p, o, es, ep, h1, h2, h3, h4, h5⟩ := (I.hok d _ hd).1
  refine ⟨hz, hs, xs, p, o, es, ep, h1, h2, h3, h4, fun x hx => ?_, h5⟩
  obtain ⟨q, hq, r1, r2, _⟩ := paired_mem p x hx
  have := key_at I (hk q hq).2 (hk q hq).1
  rw [r1, r2] at this
  exact this
theorem nd_new {kvs : List Ent} {xs : List (NK × Addr × Value)} {h' : Heap} {H' : Hp} (hz : kvs.length ≤ 100000) (hs : (d == sysModules) = false) (p : Paired RelE kvs xs) (m : h'.DictOfH (nestedKind X.prog X.w) d xs) : ObjOk X.prog X.w H' h' d (NDO X.prog X.w d kvs) := by
  obtain ⟨o, es, ep, h1, h2, h3, h4, _, h5⟩ := m
  refine ⟨⟨hz, hs, xs, p, o, es, ep, h1, h2, h3, h4, h5⟩, ⟨o, h1⟩, fun a b ⟨z1, z2, xs', p', o', es', ep', k1, k2⟩ kk => ⟨z1, z2, xs', p', o', es', ep', kk o' k1, k2⟩⟩
/-- k in d, k not in d -/
def rInN (K : PySem.W.Frag) (P : Program) (w : World) (neg : Bool) : R2 := fun x y H Q => ∃ (a d : Addr) (kvs : List Ent) (k : PyData), x = .ref a ∧ y = .ref d ∧ H d = some (NDO P w d kvs) ∧ KeysOk K H kvs ∧ Good k ∧ Dp K H (.ref a) k ∧
  ∀ b : Bool, (b = true ↔ k ∈ kvs.map (·.1)) → Q (.bl (if neg then !b else b)) H
theorem nd_isSome {xs : List (NK × Addr × Value)} (p : Paired RelE kvs xs) (hk : ∀ p ∈ kvs, Good p.1) {k : PyData} (g : Good k) : (atKey xs (toK k)).isSome = true ↔ k ∈ kvs.map (·.1) := by
  obtain ⟨l1, l2⟩ := nd_look p hk g
  cases e : atKey xs (toK k) with
  | none => exact ⟨(fun h => nomatch h), fun h => by
      obtain ⟨z, hz, ez⟩ := List.mem_map.mp h
      exact absurd ez (l2 e z hz)⟩
  | some q => exact ⟨fun _ => by
      obtain ⟨z, hz, h1, _⟩ := l1 q e
      exact List.mem_map.mpr ⟨z, hz, h1⟩, fun _ => rfl⟩
theorem op_inN (hu : X.A.units + 64 < cLine) : OpR X (compareOp .In) (rInN X.K X.prog X.w false) := by
  intro pins s σ H x y v u Q I rx ry h
  obtain ⟨a, d, kvs, k, rfl, rfl, hd, hk, g, da, q⟩ := h
  cases rx
  cases ry
  obtain ⟨hz, hs, xs, p, m⟩ := nd_get I hd hk
  refine wpAny_in_heap (knd := nestedKind X.prog X.w) (by show X.A.units + 1 + 8 < cLine; omega) (key_at I da g) hs m ?_
  exact ⟨.bl _, H, I.tok _, rfl, q _ (nd_isSome p (fun z hz => (hk z hz).1) g)⟩
theorem op_notInN (hu : X.A.units + 64 < cLine) : OpR X (compareOp .NotIn) (rInN X.K X.prog X.w true) := by
  intro pins s σ H x y v u Q I rx ry h
  obtain ⟨a, d, kvs, k, rfl, rfl, hd, hk, g, da, q⟩ := h
  cases rx
  cases ry
  obtain ⟨hz, hs, xs, p, m⟩ := nd_get I hd hk
  refine wpAny_notIn_heap (knd := nestedKind X.prog X.w) (by show X.A.units + 1 + 8 < cLine; omega) (key_at I da g) hs m ?_
  exact ⟨.bl _, H, I.tok _, rfl, q _ (nd_isSome p (fun z hz => (hk z hz).1) g)⟩
/-- d[k], k is there -/
def rGetN (K : PySem.W.Frag) (P : Program) (w : World) : R2 := fun x y H Q => ∃ (a d : Addr) (kvs : List Ent) (k : PyData), x = .ref d ∧ y = .ref a ∧ H d = some (NDO P w d kvs) ∧ KeysOk K H kvs ∧ Good k ∧ Dp K H (.ref a) k ∧ k ∈ kvs.map (·.1) ∧
  ∀ z ∈ kvs, z.1 = k → Q z.2.2 H
theorem pe_getN {o i : Expr} {td ty : TE} {pos : Pos} (hu : X.A.units + 64 < cLine) (hr : PE X o td) (hi : PE X i ty) (hs : NoSl i) : PE X (.Subscript o i pos) (tOp (rGetN X.K X.prog X.w) td ty) := by
  refine ⟨fun pins s σ H Q I h => ?_⟩
  refine subD_of PySem.F.slot_dict_getitem.lookup hs (thn (hr.run pins s σ H _ I h) fun v s1 ⟨x, H1, I1, r1, q1⟩ => thn (hi.run pins s1 σ H1 _ I1 q1) fun u s2 ⟨y, H2, I2, r2, a, d, kvs, k, ex, ey, hd, hk, g, da, hm, q⟩ => ?_)
  subst ex ey
  cases r1
  cases r2
  obtain ⟨hz, hs', xs, p, m⟩ := nd_get I2 hd hk
  obtain ⟨l1, l2⟩ := nd_look p (fun z hz => (hk z hz).1) g
  refine ⟨m.typeIs, ?_⟩
  cases e : atKey xs (toK k) with
  | none =>
    obtain ⟨z, hz, ez⟩ := List.mem_map.mp hm
    exact absurd ez (l2 e z hz)
  | some pv =>
    obtain ⟨z, hz, ez, rz⟩ := l1 pv e
    exact wpAny_getItem_heap (knd := nestedKind X.prog X.w) (by show X.A.units + 1 + 8 < cLine; omega) (key_at I2 da g) m e ⟨z.2.2, H2, I2.tok _, rz, q z hz ez⟩
/-- {} -/
theorem pe_dnewN {pos : Pos} : PE X (.Dict [] [] pos) (fun _ H Q => ∀ p, H p = none → Q (.ref p) (upd H p (NDO X.prog X.w p []))) := ⟨fun pins s σ H Q I h =>
  wpAny_Dict_empty ⟨.ref s.heap.objs.size, _, I.laid (a := s.heap.objs.size) (o := NDO X.prog X.w s.heap.objs.size []) (t' := s.toks) (fun _ _ q => Heap.get?_push_of_some _ q) (Nat.le_refl _)
    (nd_new (X := X) (Nat.zero_le _) (by have := I.big; exact beq_eq_false_iff_ne.mpr (Nat.ne_of_gt this)) .nil (Heap.DictOfH.new _)), rfl, h _ (I.hok.fresh (Nat.le_refl _))⟩⟩
/-- an entry more -/
theorem nd_put {a : Addr} {k : PyData} {x : V} {u : Value} {A : Around} {Q : Unit → Shared → Prop} (hu : A.units + 8 < cLine) (I : Inv X pins σ H s) (hd : H d = some (NDO X.prog X.w d kvs)) (hk : KeysOk X.K H kvs) (g : Good k) (da : Dp X.K H (.ref a) k) (new : k ∉ kvs.map (·.1)) (few : kvs.length < 100000) (r : RelV x u)
    (h : ∀ s', Inv X pins σ (upd H d (NDO X.prog X.w d (kvs ++ [(k, a, x)]))) s' → (∀ b o, b ≠ d → s.heap.get? b = some o → s'.heap.get? b = some o) → Q () s') : wpAny (model X.prog X.w) A (dictSet d (.ref a) u) Q E s := by
  obtain ⟨hz, hs, xs, p, m⟩ := nd_get I hd hk
  have xl : xs.length = kvs.length := (Paired.length p).symm
  have none_ : atKey xs (toK k) = none := by
    cases e : atKey xs (toK k) with
    | none => rfl
    | some q => exact absurd ((nd_isSome p (fun z hz => (hk z hz).1) g).mp (by rw [e]; rfl)) new
  refine wpAny_dictSet_heap (knd := nestedKind X.prog X.w) (hsz := by rw [sizeLine_eq]; omega) hu (key_at I da g) m fun h' m' sb => ?_
  rw [storedH_new none_] at m'
  have ex : ∃ q, h'.get? d = some q := let ⟨q, _, _, hq, _⟩ := m'; ⟨q, hq⟩
  refine h _ (d_write (t' := _) I (by rw [hd]; exact True.intro) sb ex (nd_new (by rw [List.length_append, List.length_singleton]; omega) hs (paired_snoc ⟨rfl, rfl, r⟩ p) m')) fun b o hb e => (sb.2 b hb).trans e
/-- d.setdefault(k, x) -/
def tSetdN (K : PySem.W.Frag) (P : Program) (w : World) (td ty tx : TE) : TE := fun σ H Q => td σ H fun x H1 => ∃ d kvs0, x = .ref d ∧ H1 d = some (NDO P w d kvs0) ∧ ty σ H1 fun y H2 => tx σ H2 fun z H3 => ∃ (a : Addr) (kvs : List Ent) (k : PyData), y = .ref a ∧ H3 d = some (NDO P w d kvs) ∧ KeysOk K H3 kvs ∧
  Good k ∧ Dp K H3 (.ref a) k ∧ kvs.length < 100000 ∧ (∀ e ∈ kvs, e.1 = k → Q e.2.2 H3) ∧ (k ∉ kvs.map (·.1) → Q z (upd H3 d (NDO P w d (kvs ++ [(k, a, z)]))))
theorem pe_setdN {o e f : Expr} {td ty tx : TE} {apos cpos : Pos} (hu : X.A.units + 64 < cLine) (ho : PE X o td) (he : PE X e ty) (hf : PE X f tx) (m : M2 X o "setdefault" apos e f cpos) : PE X (.Call (.Attribute o "setdefault" apos) [e, f] [] cpos) (tSetdN X.K X.prog X.w td ty tx) := by
  refine ⟨fun pins s σ H Q I h => ?_⟩
  refine wpAny_Call_method m.base m.few m.line PySem.F.plainAttrs_dict PySem.F.slot_dict_setdefault PySem.F.type_dict_setdefault (thn (ho.run pins s σ H _ I h) fun u s1 ⟨x, H1, I1, rx, d, kvs0, ex, d0, q1⟩ => ?_)
  subst ex
  obtain rfl : u = Value.ref d := rx
  have ty0 : ∃ o, s1.heap.get? d = some o ∧ o.cls = .type "dict" ∧ o.dict = none := by
    obtain ⟨_, _, xs, _, o, es, ep, h1, h2, _⟩ := (I1.hok d _ d0).1
    exact ⟨o, h1, h2.1, h2.2.1⟩
  obtain ⟨ob, ho1, ho2, ho3⟩ := ty0
  refine ⟨⟨ob, ho1, ho2⟩, fun b eb => ?_, ?_⟩
  · cases eb
    exact ⟨ob, ho1, ho3⟩
  rw [m.trees]
  refine Calls.callWith_builtin rfl (Calls.evalArgs_plain (Calls.spliced_cons (thn (he.run pins s1 σ H1 _ I1 q1) fun iv s2 ⟨y, H2, I2, ry, q2⟩ =>
    Calls.spliced_cons (thn (hf.run pins s2 σ H2 _ I2 q2) fun fv s3 ⟨z, H3, I3, rz, a, kvs, k, ey, hd, hk, g, da, few, q3, q4⟩ => Calls.spliced_nil ?_))))
  subst ey
  obtain rfl : iv = Value.ref a := ry
  obtain ⟨hz, hs, xs, p, mm⟩ := nd_get I3 hd hk
  have xl : xs.length = kvs.length := (Paired.length p).symm
  obtain ⟨l1, l2⟩ := nd_look p (fun z hz => (hk z hz).1) g
  refine call_setdefault_heap (knd := nestedKind X.prog X.w) (hsz := by rw [sizeLine_eq]; omega) (by show X.A.units + 1 + 8 < cLine; omega) (key_at I3 da g) hs mm (fun pv hp => ?_) fun hn h' m' sb => ?_
  · obtain ⟨z', hz', ez, rz'⟩ := l1 pv hp
    exact ⟨z'.2.2, H3, I3.tok _, rz', q3 z' hz' ez⟩
  · rw [storedH_new hn] at m'
    have ex : ∃ q, h'.get? d = some q := let ⟨q, _, _, hq, _⟩ := m'; ⟨q, hq⟩
    refine ⟨z, _, d_write (t' := _) I3 (by rw [hd]; exact True.intro) sb ex (nd_new (by rw [List.length_append, List.length_singleton]; omega) hs (paired_snoc ⟨rfl, rfl, rz⟩ p) m'), rz, q4 fun hm => ?_⟩
    obtain ⟨z', hz', ez⟩ := List.mem_map.mp hm
    exact l2 hn z' hz' ez
end
end Rw
namespace Rw
open PySem PySem.Spec PyProof.Rows L2
/-! ### y = {x: True for x in xs}, xs a list of tuples, no two alike -/
theorem idx_new {ds : List PyData} (hn : ds.Nodup) {i : Nat} {d : PyData} (h : ds[i]? = some d) : d ∉ ds.take i := fun hm => by
  have z := take_snoc h
  have nd : (ds.take (i + 1)).Nodup := List.Nodup.sublist (List.take_sublist _ _) hn
  rw [z] at nd
  obtain ⟨_, _, h3⟩ := List.nodup_append.mp nd
  exact h3 d hm d (List.mem_singleton.mpr rfl) rfl
theorem vals_at : ∀ {xs : List V} {us : List Value} {i : Nat} {u : Value}, Vals xs us → us[i]? = some u → ∃ x, xs[i]? = some x ∧ RelV x u
  | _, _, _, _, .nil, e => by simp at e
  | _, _, 0, _, .cons r _, e => by
    simp at e
    subst e
    exact ⟨_, rfl, r⟩
  | _, _, i + 1, _, .cons _ t, e => by
    obtain ⟨x, h1, h2⟩ := vals_at (i := i) t (by simpa using e)
    exact ⟨x, by simpa using h1, h2⟩
section
variable {X : Cx}
def tSetD (K : PySem.W.Frag) (P : Program) (w : World) (ti : TE) : TE := fun σ H Q => ti σ H fun v H1 => ∃ (l : Addr) (xs : List V) (ds : List PyData), v = .ref l ∧ SqL K H1 l xs ∧ DpAll K H1 xs ds ∧ (∀ d ∈ ds, Good d) ∧ ds.Nodup ∧ ds.length ≤ 1000 ∧
  ∀ D kvs, H1 D = none → kvs.map (·.1) = ds → KeysOk K H1 kvs → Q (.ref D) (upd H1 D (NDO P w D kvs))
theorem ps_setDictTrue {i : Nat} {y x : Str} {py p1 p2 p3 pos spos : Pos} {kk : Nat} {iter : Expr} {scope : Scope} {own : List (Str × Nat)} {ti : TE} (hc : X.calm = true) (hu : X.A.units + 64 < cLine) (hN : X.N.Nodup) (hy : X.N[i]? = some y) (hyl : X.env.scope.names.lookup y = some .local)
    (hsw : swapsWith (.DictComp (.Name x p1) (.Constant (.bool true) kk p2) [⟨.Name x p3, iter, [], 0⟩] scope pos) (some (.Name y py)) spos.line X.env = pure true) (hi : PE X iter ti) (ok : BlkOk X.N X.env.scope scope own)
    (hx : scope.names.lookup x = some .local) (hdeb : (x == ("__debug__" : Str)) = false) (hcell : ∀ z ∈ scope.names, z.2 ≠ .cell) (hs : ∀ x, foldedSetIterable iter X.env x = pure x := by intro _; rfl) :
    PS X (.Assign [.Name y py] (.DictComp (.Name x p1) (.Constant (.bool true) kk p2) [⟨.Name x p3, iter, [], 0⟩] scope pos) spos) (tAsg (tSetD X.K X.prog X.w ti) (gName i)) := by
  refine ⟨fun pins s σ H D I h => ?_⟩
  have h : tSetD X.K X.prog X.w ti σ H (fun x H1 => gName i x σ H1 D.nx) := h
  have hfree : ∀ y ∈ scope.names, y.2 = .free → ∃ c, X.env.cells.lookup y.1 = some c := fun y hy e => by
    rcases ok.free y hy e with k | k
    · exact I.ok.has _ (.inl k)
    · exact I.ok.has _ (.inr k)
  rw [exec_Assign_Name_used _ _ _ _ hsw]
  refine wpAny_bind (wpAny_standAt (wpAny_bind ?_))
  show wpAny _ X.A (do let _ ← comprehension (.DictComp (.Name x p1) (.Constant (.bool true) kk p2) [⟨.Name x p3, iter, [], 0⟩] scope pos) scope X.env _ newDict false (eval iter X.env) (some (assign (.Name y py) X.env))) _ _ s
  have main : wpAny (model X.prog X.w) X.A (eval iter X.env) (fun xv s₁ => wpAny (model X.prog X.w) X.A (pyIter xv)
      (DcGoes X.prog X.w X.A X.xe X.env scope (cloFrom X.env.cells scope.names []) (.Name x p3) [] (.Name x p1) (.Constant (.bool true) kk p2) (some (assign (.Name y py) X.env)) (fun _ s' => SP X pins D .next s')) X.xe s₁) X.xe s := by
    refine thn (hi.run pins s σ H _ I h) fun xv s1 ⟨v, H1, I1, rv, l, xs, ds, ev, hl, hd, hg, hnd, hlen, q⟩ => ?_
    subst ev
    obtain rfl : xv = Value.ref l := rv
    obtain ⟨its, rvs, pl, _⟩ := I1.list hl
    have hl0 : s1.heap.IsList l its.toArray := pl.isList
    have hlt : (l : Nat) < s1.heap.objs.size := by
      obtain ⟨o, ho, _⟩ := hl0
      exact Heap.lt_size ho
    have il : its.length = ds.length := by rw [← rvs.length, dpAll_len hd]
    refine wpAny_pyIter_list hl0 ?_
    refine ⟨s1.heap.objs.size, [s1.heap.objs.size, l], [s1.heap.objs.size], its.toArray.size, _, _, rfl, Goes.list (I1.ok.hd hc) s1.heap.objs.size l (Nat.ne_of_lt hlt) its.toArray, ⟨⟨_, Heap.get?_push_size _ rfl, rfl, rfl⟩, hl0.push _⟩, ?_⟩
    intro D0 C s3 hB hDobj
    obtain ⟨⟨h3, tk3, rfl⟩, old, nD, nC, hDC, hnm⟩ := hB
    have szp : (s1.heap.push { cls := .type "list_iterator", data := .fields #[.ref l, .int 0 0] }).objs.size = s1.heap.objs.size + 1 := Heap.size_push ..
    have nD' : s1.heap.objs.size + 1 ≤ D0 := by
      have q := nD
      rw [szp] at q
      exact q
    have nC' : s1.heap.objs.size + 1 ≤ C := by
      have q := nC
      rw [szp] at q
      exact q
    have sD : s1.heap.objs.size ≤ D0 := Nat.le_trans (Nat.le_succ _) nD'
    have sC : s1.heap.objs.size ≤ C := Nat.le_trans (Nat.le_succ _) nC'
    have neDI : s1.heap.objs.size ≠ D0 := Nat.ne_of_lt nD'
    have neCI : s1.heap.objs.size ≠ C := Nat.ne_of_lt nC'
    have neDl : (l : Nat) ≠ D0 := Nat.ne_of_lt (Nat.lt_of_lt_of_le hlt sD)
    have neCl : (l : Nat) ≠ C := Nat.ne_of_lt (Nat.lt_of_lt_of_le hlt sC)
    have hDn : H1 D0 = none := I1.hok.fresh sD
    have hIn : H1 s1.heap.objs.size = none := I1.hok.fresh (Nat.le_refl _)
    have hCn : H1 C = none := I1.hok.fresh sC
    have all3 : ∀ b o, s1.heap.get? b = some o → h3.get? b = some o := fun b o e => old b o (Heap.get?_push_of_some _ e)
    have kx : (compEnvC scope (cloFrom X.env.cells scope.names []) C X.env).kindOf x = some .local := lookup_relabel_local hx
    have hp : ((compEnvC scope (cloFrom X.env.cells scope.names []) C X.env).scope.kind == .class || ((compEnvC scope (cloFrom X.env.cells scope.names []) C X.env).scope.kind == .module && (compEnvC scope (cloFrom X.env.cells scope.names []) C X.env).locals != (compEnvC scope (cloFrom X.env.cells scope.names []) C X.env).globals)) = false := by
      show (scope.kind == .class || (scope.kind == .module && _)) = false
      rw [ok.kind]
      rfl
    have fpI : ∀ kvs, FpOk X pins (upd H1 D0 (NDO X.prog X.w D0 kvs)) s1.heap.objs.size := fun kvs => I1.fpOk (Nat.le_refl _) (by rw [upd_ne neDI]; exact hIn)
    have fpC : ∀ kvs, FpOk X pins (upd H1 D0 (NDO X.prog X.w D0 kvs)) C := fun kvs => I1.fpOk sC (by rw [upd_ne (fun e => hDC e.symm)]; exact hCn)
    refine ⟨fun i s₁ => ∃ kvs m, Inv X pins σ (upd H1 D0 (NDO X.prog X.w D0 kvs)) s₁ ∧ s₁.heap.Ns C m ∧ kvs.map (·.1) = ds.take i ∧ KeysOk X.K H1 kvs, ?_, ?_, ?_, ?_⟩
    · -- at the start
      refine ⟨[], _, I1.laid (t' := tk3) all3 sD (nd_new (X := X) (Nat.zero_le _) ?_ .nil ?_), hnm, rfl, fun p hp => nomatch hp⟩
      · exact beq_eq_false_iff_ne.mpr (Nat.ne_of_gt (Nat.lt_of_lt_of_le I1.big sD))
      · exact ⟨_, #[], 0, hDobj, ⟨rfl, rfl, rfl⟩, rfl, rfl, (fun _ z => nomatch z), List.nodup_nil⟩
    · -- the iterator turns
      rintro i s₁ h' tk ⟨kvs, m, J, hn, e, ko⟩ kp _
      obtain ⟨f0, f1, f2, f3, f4, f5⟩ := fpI kvs
      exact ⟨kvs, m, J.turned (t' := tk) (fun b o hb q => kp b o (by simpa using hb) q) f0 f1 f3 f4 f5, hn.at' fun o q => kp _ o (by simpa using (fun z => neCI z.symm)) q, e, ko⟩
    · -- one turn
      rintro i v s₁ hi' hv st ⟨kvs, m, J, hn, e, ko⟩
      have hv' : its[i]? = some v := by simpa using hv
      obtain ⟨x0, hx0, rx0⟩ := vals_at rvs hv'
      obtain ⟨d, hd0, dd⟩ := dpAll_at' hd hx0
      have gd := hg d (List.mem_of_getElem? hd0)
      obtain ⟨a, rfl⟩ := gd.ref dd
      obtain rfl : v = Value.ref a := rx0
      refine wpAny_assign_Name (wpAny_storeName_local kx hn (fun h5 n5 s5 => ?_) hp)
      refine wpAny_tests_nil ?_
      show wpAny _ _ _ _ _ _
      obtain ⟨f0, f1, f2, f3, f4, f5⟩ := fpC kvs
      have J5 : Inv X pins σ (upd H1 D0 (NDO X.prog X.w D0 kvs)) { s₁ with heap := h5, toks := s₁.toks + 1 } := J.turned (t' := s₁.toks + 1) (fun b o hb q => (s5.2 b hb).trans q) f0 f1 f3 f4 f5
      rw [eval_Name _ _ _ hdeb]
      refine wpAny_bind (wpAny_standAt (wpAny_loadName_local ok.kind kx n5 (v := .ref a) (if_pos rfl) ?_))
      refine Constant_bool ?_
      have st5 : h5.IsListIter s1.heap.objs.size l (i + 1) ∧ h5.IsList l its.toArray := ⟨st.1.at fun o q => (s5.2 _ neCI).trans q, st.2.at fun o q => (s5.2 _ neCl).trans q⟩
      have sty : Stay H1 (upd H1 D0 (NDO X.prog X.w D0 kvs)) := Stay.new hDn _
      refine nd_put (s := { s₁ with heap := h5, toks := s₁.toks + 1 }) (by omega) J5 upd_same (ko.stay sty) gd (sty.dp _ _ gd.ok dd) (by rw [e]; exact idx_new hnd hd0) ?_ (x := .bl true) rfl fun s' J' kept => ?_
      · have z := congrArg List.length e
        rw [List.length_map, List.length_take] at z
        omega
      · rw [upd_upd] at J'
        refine ⟨⟨_, _, J', n5.at' fun o q => kept _ o (fun z => hDC z.symm) q, ?_, ?_⟩, st5.1.at fun o q => kept _ o neDI q, st5.2.at fun o q => kept _ o neDl q⟩
        · rw [List.map_append, e, take_snoc hd0]
          rfl
        · intro p hp
          rcases List.mem_append.mp hp with hp | hp
          · exact ko p hp
          · rw [List.mem_singleton.mp hp]
            exact ⟨gd, dd⟩
    · -- behind the last
      rintro s₁ ⟨kvs, m, J, hn, e, ko⟩
      have e' : kvs.map (·.1) = ds := by
        rw [e, List.size_toArray, il, List.take_length]
      show wpAny _ X.A (assign (.Name y py) X.env (.ref D0)) _ _ _
      obtain ⟨f0, f1, f2, f3, f4, f5⟩ := fpC kvs
      refine wpAny_assign_Name (store_ok2 (v := V.ref D0) J hN hy (.inl hyl) rfl (fun s2 J2 ⟨a, sb, ha⟩ => ?_) (.inr hyl))
      have haC : C ≠ a := by
        rcases ha with z | z
        · rw [z]
          exact f1
        · exact fun e => f4 y a z e.symm
      exact ⟨m, hn.sameBut sb haC, fun h3' sb3 => ⟨_, _, J2.turned (t' := s2.toks) (fun b o hb q => (sb3.2 b hb).trans q) f0 f1 f3 f4 f5, q D0 kvs hDn e' ko⟩⟩
  refine wpAny_bind (wpAny_mono (comprehension_at (use := some (assign (.Name y py) X.env)) (Q := fun _ s' => SP X pins D .next s') rfl hs (closure_ok hfree) ok.kind (fun z hz e => by rw [ok.uniq z hz, e])
    (wpAny_mono main (fun xv s₁ h₁ => wpAny_mono h₁ (fun it s₂ h₂ => compBlock_dict hcell ok.kind h₂) fun _ _ e => e) fun _ _ e => e)) (fun _ s' hq => wpAny_pure (wpAny_pure hq)) fun _ _ e => e)
end
end Rw
namespace Rw
open PySem PySem.Spec PyProof.Rows L2
/-! ### names, worlds, pairs -/
def letter (c : Nat) : Bool := decide (97 ≤ c) && decide (c ≤ 122)
def notS : Str := ("not" : Str)
def nameB (x : Str) : Bool := x.cps.toList.all letter && decide (1 ≤ x.cps.size) && decide (x.cps.size ≤ 8) && !decide (x = notS)
theorem nameB_iff {x : Str} : nameB x = true ↔ (∀ c ∈ x.cps.toList, letter c = true) ∧ 1 ≤ x.cps.size ∧ x.cps.size ≤ 8 ∧ x ≠ notS := by
  unfold nameB
  simp only [Bool.and_eq_true, List.all_eq_true, decide_eq_true_eq, Bool.not_eq_true', decide_eq_false_iff_not]
  exact ⟨fun ⟨⟨⟨a, b⟩, c⟩, d⟩ => ⟨a, b, c, d⟩, fun ⟨a, b, c, d⟩ => ⟨⟨⟨a, b⟩, c⟩, d⟩⟩
theorem name_strOk {x : Str} (h : nameB x = true) : PyData.strOk x = true := by
  obtain ⟨h1, _⟩ := nameB_iff.mp h
  unfold PyData.strOk
  rw [← Array.all_toList, List.all_eq_true]
  intro c hc
  have := h1 c hc
  unfold letter at this
  simp only [Bool.and_eq_true, decide_eq_true_eq] at this
  exact decide_eq_true (by omega)
abbrev W := List Str
abbrev Pr := W × W
/-- strictly rising -/
abbrev UpX (ns : W) : Prop := ns.Pairwise fun a b => a.cps.toList < b.cps.toList
structure IsW (ns : W) : Prop where
  names : ∀ x ∈ ns, nameB x = true
  up : UpX ns
  few : ns.length ≤ 40
def wd (ns : W) : PyData := .tuple (ns.map .str)
def pd (p : Pr) : PyData := .tuple [wd p.1, wd p.2]
theorem str_inj : ∀ {a b : W}, a.map PyData.str = b.map PyData.str → a = b
  | [], [], _ => rfl
  | [], _ :: _, h => by simp at h
  | _ :: _, [], h => by simp at h
  | x :: a, y :: b, h => by
    simp only [List.map_cons, List.cons.injEq, PyData.str.injEq] at h
    rw [h.1, str_inj h.2]
theorem wd_inj {a b : W} (h : wd a = wd b) : a = b := by
  unfold wd at h
  injection h with h
  exact str_inj h
theorem pd_inj {p q : Pr} (h : pd p = pd q) : p = q := by
  unfold pd at h
  injection h with h
  injection h with h1 h2
  injection h2 with h2 _
  exact Prod.ext (wd_inj h1) (wd_inj h2)
theorem okDs_str : ∀ ns : W, okDs (ns.map .str) = true
  | [] => rfl
  | x :: ns => by
    rw [List.map_cons, okDs, okDs_str ns]
    rfl
theorem depth_str : ∀ ns : W, PyData.depthAll (ns.map .str) = 0
  | [] => by simp [PyData.depthAll]
  | x :: ns => by
    rw [List.map_cons, PyData.depthAll, depth_str ns]
    simp [PyData.depth]
theorem ok_wd (ns : W) : okD (wd ns) = true := by
  unfold wd
  rw [okD]
  exact okDs_str ns
theorem depth_wd (ns : W) : (wd ns).depth = 1 := by
  unfold wd
  rw [PyData.depth, depth_str]
theorem good_wd (ns : W) : Good (wd ns) := ⟨ok_wd ns, by rw [depth_wd]; decide, ⟨_, rfl⟩⟩
theorem ok_pd (p : Pr) : okD (pd p) = true := by
  unfold pd
  rw [okD, okDs, okDs, okDs, ok_wd, ok_wd]
  rfl
theorem depth_pd (p : Pr) : (pd p).depth = 2 := by
  unfold pd
  simp [PyData.depth, PyData.depthAll, depth_wd]
theorem good_pd (p : Pr) : Good (pd p) := ⟨ok_pd p, by rw [depth_pd]; decide, ⟨_, rfl⟩⟩
theorem lay_strs : ∀ {ns : W}, (∀ x ∈ ns, nameB x = true) → PyData.canLayAll0 (ns.map .str) = true
  | [], _ => by simp [PyData.canLayAll0]
  | x :: ns, h => by
    rw [List.map_cons, PyData.canLayAll0, lay_strs fun y hy => h y (List.mem_cons_of_mem _ hy), PyData.canLay0, name_strOk (h x List.mem_cons_self)]
    rfl
theorem lay_wd {ns : W} (h : ∀ x ∈ ns, nameB x = true) : (wd ns).canLay0 = true := by
  unfold wd
  rw [PyData.canLay0]
  exact lay_strs h
theorem shaped_wd {ns : W} (h : IsW ns) : SeqAt.shaped (wd ns) = true := by
  unfold SeqAt.shaped
  rw [lay_wd h.names, depth_wd]
  rfl
theorem lay_pd {p : Pr} (h1 : IsW p.1) (h2 : IsW p.2) : (pd p).canLay0 = true := by
  unfold pd
  rw [PyData.canLay0, PyData.canLayAll0, PyData.canLayAll0, PyData.canLayAll0, lay_wd h1.names, lay_wd h2.names]
  rfl
theorem shaped_pd {p : Pr} (h1 : IsW p.1) (h2 : IsW p.2) : SeqAt.shaped (pd p) = true := by
  unfold SeqAt.shaped
  rw [lay_pd h1 h2, depth_pd]
  rfl
theorem alike_strs : ∀ a b : W, PySem.W.alikeAll (a.map .str) (b.map .str) = true
  | [], _ => by simp [PySem.W.alikeAll]
  | _ :: _, [] => by simp [PySem.W.alikeAll]
  | x :: a, y :: b => by
    rw [List.map_cons, List.map_cons, PySem.W.alikeAll, alike_strs a b]
    simp [PySem.W.alike]
theorem alike_wd (a b : W) : PySem.W.alike (wd a) (wd b) = true := by
  unfold wd
  rw [PySem.W.alike]
  exact alike_strs a b
theorem alike_pd (p q : Pr) : PySem.W.alike (pd p) (pd q) = true := by
  unfold pd
  rw [PySem.W.alike, PySem.W.alikeAll, PySem.W.alikeAll, PySem.W.alikeAll, alike_wd, alike_wd]
  rfl
theorem eqv_strs : ∀ a b : W, PyData.eqvAll (a.map .str) (b.map .str) = decide (a = b)
  | [], [] => by simp [PyData.eqvAll]
  | [], _ :: _ => by simp [PyData.eqvAll]
  | _ :: _, [] => by simp [PyData.eqvAll]
  | x :: a, y :: b => by
    rw [List.map_cons, List.map_cons, PyData.eqvAll, eqv_strs a b, PyData.eqv]
    by_cases h : x = y
    · subst h
      by_cases h2 : a = b <;> simp [h2]
    · simp [h]
theorem eqv_wd (a b : W) : PyData.eqv (wd a) (wd b) = decide (a = b) := by
  unfold wd
  rw [PyData.eqv]
  exact eqv_strs a b
theorem eqv_pd (p q : Pr) : PyData.eqv (pd p) (pd q) = decide (p = q) := by
  unfold pd
  rw [PyData.eqv, PyData.eqvAll, PyData.eqvAll, PyData.eqvAll, eqv_wd, eqv_wd]
  obtain ⟨a, b⟩ := p
  obtain ⟨c, d⟩ := q
  by_cases h1 : a = c
  · by_cases h2 : b = d <;> simp [h1, h2]
  · simp [h1]
/-! ### sorted lists are told by their members -/
theorem toks_ne {d e : PyData} (h : PySem.W.alike d e = true) (he : PyData.eqv d e = false) : PySem.W.keyToks d ≠ PySem.W.keyToks e := fun t => by
  have z := (PySem.W.toks_eqv d e h).2 he [.inl 0] [.inl 1]
  rw [t, PySem.W.lex_pre, lex_irrefl] at z
  exact absurd z (by decide)
theorem lt_or {d e : PyData} (h : PySem.W.alike d e = true) (he : PyData.eqv d e = false) : PySem.W.dataLt d e = true ∨ PySem.W.dataLt e d = true := by
  cases h1 : PySem.W.dataLt d e with
  | true => exact .inl rfl
  | false =>
    cases h2 : PySem.W.dataLt e d with
    | true => exact .inr rfl
    | false => exact absurd (lex_total _ _ h1 h2) (toks_ne h he)
/-- rising and without repetition: told by the members -/
theorem rising_one {α : Type} {enc : α → PyData} (al : ∀ a b, PySem.W.alike (enc a) (enc b) = true) (inj : ∀ a b, PyData.eqv (enc a) (enc b) = true → a = b) :
    ∀ {l m : List α}, Rising (l.map enc) → Rising (m.map enc) → l.Nodup → m.Nodup → (∀ a, a ∈ l ↔ a ∈ m) → l = m
  | [], [], _, _, _, _, _ => rfl
  | [], b :: m, _, _, _, _, h => absurd ((h b).mpr List.mem_cons_self) (List.not_mem_nil)
  | a :: l, [], _, _, _, _, h => absurd ((h a).mp List.mem_cons_self) (List.not_mem_nil)
  | a :: l, b :: m, r1, r2, n1, n2, h => by
    have le_of : ∀ {x y : α} {k : List α}, Rising ((x :: k).map enc) → y ∈ x :: k → y = x ∨ PySem.W.dataLt (enc y) (enc x) = false := by
      intro x y k r hy
      rcases List.mem_cons.mp hy with e | hy
      · exact .inl e
      · right
        have z := (List.pairwise_cons.mp r).1 (enc y) (List.mem_map.mpr ⟨y, hy, rfl⟩)
        have z' : (!PySem.W.dataLt (enc y) (enc x)) = true := z
        simpa using z'
    have e : a = b := by
      have h1 := le_of r1 ((h b).mpr List.mem_cons_self)
      have h2 := le_of r2 ((h a).mp List.mem_cons_self)
      rcases h1 with e | h1
      · exact e.symm
      · rcases h2 with e | h2
        · exact e
        · cases ev : PyData.eqv (enc a) (enc b) with
          | true => exact inj a b ev
          | false =>
            rcases lt_or (al a b) ev with z | z
            · rw [h2] at z
              exact nomatch z
            · rw [h1] at z
              exact nomatch z
    subst e
    obtain ⟨a1, a2⟩ := List.nodup_cons.mp n1
    obtain ⟨b1, b2⟩ := List.nodup_cons.mp n2
    rw [rising_one al inj (List.pairwise_cons.mp r1).2 (List.pairwise_cons.mp r2).2 a2 b2 fun x => ?_]
    constructor
    · intro hx
      rcases List.mem_cons.mp ((h x).mp (List.mem_cons_of_mem _ hx)) with e | z
      · rw [e] at hx
        exact absurd hx a1
      · exact z
    · intro hx
      rcases List.mem_cons.mp ((h x).mpr (List.mem_cons_of_mem _ hx)) with e | z
      · rw [e] at hx
        exact absurd hx b1
      · exact z
theorem pairs_one {R R' : List Pr} (r1 : Rising (R.map pd)) (r2 : Rising (R'.map pd)) (n1 : R.Nodup) (n2 : R'.Nodup) (h : ∀ p, p ∈ R ↔ p ∈ R') : R = R' :=
  rising_one alike_pd (fun p q e => by rw [eqv_pd] at e; exact of_decide_eq_true e) r1 r2 n1 n2 h
theorem worlds_one {R R' : List W} (r1 : Rising (R.map wd)) (r2 : Rising (R'.map wd)) (n1 : R.Nodup) (n2 : R'.Nodup) (h : ∀ p, p ∈ R ↔ p ∈ R') : R = R' :=
  rising_one alike_wd (fun p q e => by rw [eqv_wd] at e; exact of_decide_eq_true e) r1 r2 n1 n2 h
/-- texts: likewise -/
theorem upX_one : ∀ {l m : W}, UpX l → UpX m → (∀ a, a ∈ l ↔ a ∈ m) → l = m
  | [], [], _, _, _ => rfl
  | [], b :: m, _, _, h => absurd ((h b).mpr List.mem_cons_self) (List.not_mem_nil)
  | a :: l, [], _, _, h => absurd ((h a).mp List.mem_cons_self) (List.not_mem_nil)
  | a :: l, b :: m, r1, r2, h => by
    obtain ⟨p1, q1⟩ := List.pairwise_cons.mp r1
    obtain ⟨p2, q2⟩ := List.pairwise_cons.mp r2
    have e : a = b := by
      rcases List.mem_cons.mp ((h a).mp List.mem_cons_self) with e | z
      · exact e
      · rcases List.mem_cons.mp ((h b).mpr List.mem_cons_self) with e | z'
        · exact e.symm
        · exact absurd (p1 b z') (List.lt_asymm (p2 a z))
    subst e
    have na : ∀ {k : W}, (∀ x ∈ k, a.cps.toList < x.cps.toList) → a ∉ k := fun h hm => List.lt_irrefl _ (h a hm)
    rw [upX_one q1 q2 fun x => ?_]
    constructor
    · intro hx
      rcases List.mem_cons.mp ((h x).mp (List.mem_cons_of_mem _ hx)) with e | z
      · rw [e] at hx
        exact absurd hx (na p1)
      · exact z
    · intro hx
      rcases List.mem_cons.mp ((h x).mpr (List.mem_cons_of_mem _ hx)) with e | z
      · rw [e] at hx
        exact absurd hx (na p2)
      · exact z
/-- ≤ and without repetition: strictly rising -/
theorem upX_of {zs : W} (h : RisingX zs) (n : zs.Nodup) : UpX zs := by
  induction zs with
  | nil => exact List.Pairwise.nil
  | cons x zs ih =>
    obtain ⟨p, q⟩ := List.pairwise_cons.mp h
    obtain ⟨n1, n2⟩ := List.nodup_cons.mp n
    refine List.pairwise_cons.mpr ⟨fun y hy => ?_, ih q n2⟩
    have le := of_decide_eq_true (p y hy)
    refine Classical.byContradiction fun c => ?_
    have ge : y.cps.toList ≤ x.cps.toList := List.not_lt.mp c
    have e : x.cps.toList = y.cps.toList := List.le_antisymm le ge
    exact n1 ((PySem.W.str_of_cps e) ▸ hy)
theorem upX_nodup {zs : W} (h : UpX zs) : zs.Nodup := List.Pairwise.imp (fun {a b} h e => by subst e; exact List.lt_irrefl _ h) h
end Rw
namespace Rw
open PySem PySem.Spec PyProof.Rows L2
def lettersS : Str := ("abcdefghijklmnopqrstuvwxyz" : Str)
theorem in_letters {c : Nat} (h : letter c = true) : c ∈ lettersS.cps.toList := by
  have all : ((List.range 123).all fun c => !letter c || decide (c ∈ lettersS.cps.toList)) = true := by decide +kernel
  have z := h
  unfold letter at z
  simp only [Bool.and_eq_true, decide_eq_true_eq] at z
  have q := List.all_eq_true.mp all c (List.mem_range.mpr (by omega))
  rw [h] at q
  simpa using q
/-- a comprehension over a text's signs -/
theorem lc_sgn {x : Str} {g : TG} {tt : TT} {te : TE} {vs : List Nat} {σ : L2.St} {H1 : Hp} {D : Addr} {Qd : Hp → Prop} (Pv : Nat → Hp → Prop) (h0 : Pv 0 (upd H1 D (.lst [])))
    (hs : ∀ i c H, x.cps[i]? = some c → Pv i H → g (.str ⟨#[c]⟩) (wipe σ vs) H fun σ2 H2 => wipe σ2 vs = wipe σ vs ∧ tt σ2 H2 fun b H3 =>
      if b = true then te σ2 H3 fun y H4 => ∃ acc, H4 D = some (.lst acc) ∧ acc.length < sizeLine ∧ Pv (i + 1) (upd H4 D (.lst (acc ++ [y]))) else Pv (i + 1) H3) (hd : ∀ H, Pv x.cps.size H → Qd H) :
    ∃ W : Nat → Nat → Hp → Prop, (∃ m, W 0 m (upd H1 D (.lst []))) ∧ ∀ i m H, W i m H →
      ((Its x).stop i H ∧ Qd H) ∨ ((Its x).go i H ∧ ∃ Nx : Hp → Prop, (∀ H', Nx H' → ∃ m', m' < m ∧ W (i + 1) m' H') ∧ ∀ y H', (Its x).yld i H y H' → g y (wipe σ vs) H' fun σ2 H2 => wipe σ2 vs = wipe σ vs ∧ tt σ2 H2 fun b H3 =>
        if b = true then te σ2 H3 fun y H4 => ∃ acc, H4 D = some (.lst acc) ∧ acc.length < sizeLine ∧ Nx (upd H4 D (.lst (acc ++ [y]))) else Nx H3) := by
  refine ⟨fun i m H => m = x.cps.size - i ∧ i ≤ x.cps.size ∧ Pv i H, ⟨x.cps.size, by simp, Nat.zero_le _, h0⟩, ?_⟩
  rintro i m H ⟨rfl, hi, p⟩
  by_cases hlt : i < x.cps.size
  · refine .inr ⟨hlt, Pv (i + 1), fun H' p' => ⟨x.cps.size - (i + 1), by omega, rfl, hlt, p'⟩, fun y H' yy => ?_⟩
    obtain ⟨rfl, c, hc, rfl⟩ := yy
    exact hs i c _ hc p
  · have e : i = x.cps.size := by omega
    subst e
    exact .inl ⟨Nat.le_refl _, hd H p⟩
theorem small_line {n : Nat} (h : n ≤ 10000) : n ≤ sizeLine := by
  rw [sizeLine_eq]
  omega
theorem small_line' {n : Nat} (h : n ≤ 10000) : n < sizeLine := by
  rw [sizeLine_eq]
  omega
theorem map_at {α β : Type} {l : List α} {f : α → β} {i : Nat} {y : β} (h : (l.map f)[i]? = some y) : ∃ x, l[i]? = some x ∧ y = f x := by
  rw [List.getElem?_map] at h
  cases e : l[i]? with
  | none => rw [e] at h; simp at h
  | some x =>
    rw [e] at h
    exact ⟨x, rfl, (Option.some.inj h).symm⟩
theorem same_put {H H1 : Hp} {D : Addr} {o : HO} (sm : Same H H1) (hD : H D = none) : Same H (upd H1 D o) := fun b u e => by
  rw [upd_ne (ne_of_none e hD)]
  exact sm b u e
theorem dps_str {K : PySem.W.Frag} {H : Hp} : ∀ {ns : W} {xs : List V}, DpAll K H xs (ns.map .str) → xs = ns.map V.str
  | [], _, h => by cases h; rfl
  | x :: ns, _, h => by
    cases h with
    | cons h1 h2 =>
      cases h1
      rw [dps_str h2]
      rfl
theorem dps_strs {K : PySem.W.Frag} {H : Hp} : ∀ ns : W, DpAll K H (ns.map V.str) (ns.map .str)
  | [] => .nil
  | x :: ns => .cons (.str x) (dps_strs ns)
theorem of_wd {K : PySem.W.Frag} {H : Hp} {x : V} {ns : W} (h : Dp K H x (wd ns)) : ∃ a, x = .ref a ∧ SqT K H a (ns.map V.str) := by
  unfold wd at h
  cases h with
  | tup h1 h2 =>
    rw [dps_str h2] at h1
    exact ⟨_, rfl, h1⟩
theorem to_wd {K : PySem.W.Frag} {H : Hp} {a : Addr} {ns : W} (h : SqT K H a (ns.map V.str)) : Dp K H (.ref a) (wd ns) := .tup h (dps_strs ns)
theorem Stay.wd {K : PySem.W.Frag} {H H' : Hp} {x : V} {ns : W} (e : Stay H H') (h : Dp K H x (Rw.wd ns)) : Dp K H' x (Rw.wd ns) := e.dp _ _ (ok_wd ns) h
theorem tyx_tup {K : PySem.W.Frag} {H : Hp} {a : Addr} {xs : List V} (h : SqT K H a xs) : TyX K H (.ref a) (.type "tuple") := by
  rcases h with (h | ⟨o, h⟩) | ⟨o, its, n, h1, h2, _⟩
  · exact .base (.tup h)
  · exact .fTuple h
  · exact .kTuple h1 h2
/-- all of ms are in ns -/
def sub (ms ns : W) : Bool := ms.all fun z => decide (z ∈ ns)
theorem inV_str (z : Str) : ∀ ns : W, inV (.str z) (ns.map V.str) = decide (z ∈ ns)
  | [] => by simp [inV]
  | x :: ns => by
    have ih := inV_str z ns
    unfold inV at ih ⊢
    rw [List.map_cons, List.any_cons, ih]
    show ((x == z) || decide (z ∈ ns)) = decide (z ∈ x :: ns)
    by_cases h : x = z
    · subst h
      simp
    · have h' : z ≠ x := fun e => h e.symm
      simp [h, h']
theorem flat_strs (ns : W) : (ns.map V.str).all flatV = true := by
  rw [List.all_map, List.all_eq_true]
  exact fun _ _ => rfl
/-- the first that is told -/
theorem first_at {α β : Type} {f : α → Option β} {y : β} : ∀ {l : List α} {i : Nat} {p : α}, (∀ q ∈ l.take i, f q = none) → l[i]? = some p → f p = some y → l.findSome? f = some y
  | [], _, _, _, h, _ => by simp at h
  | a :: l, 0, p, _, h, e => by
    simp at h
    subst h
    rw [List.findSome?_cons, e]
  | a :: l, i + 1, p, h0, h, e => by
    rw [List.findSome?_cons, h0 a (by simp)]
    exact first_at (i := i) (fun q hq => h0 q (by rw [List.take_succ_cons]; exact List.mem_cons_of_mem _ hq)) (by simpa using h) e
theorem first_none {α β : Type} {f : α → Option β} {l : List α} (h : ∀ q ∈ l, f q = none) : l.findSome? f = none := List.findSome?_eq_none_iff.mpr h
theorem none_snoc {α β : Type} {f : α → Option β} {l : List α} {i : Nat} {p : α} (h0 : ∀ q ∈ l.take i, f q = none) (h : l[i]? = some p) (e : f p = none) : ∀ q ∈ l.take (i + 1), f q = none := fun q hq => by
  rw [take_snoc h] at hq
  rcases List.mem_append.mp hq with hq | hq
  · exact h0 q hq
  · rw [List.mem_singleton.mp hq]
    exact e
theorem filt_t {α : Type} {p : α → Bool} {l : List α} {i : Nat} {z : α} (hz : l[i]? = some z) (e : p z = true) : (l.take (i + 1)).filter p = (l.take i).filter p ++ [z] := by
  rw [take_snoc hz, List.filter_append]
  simp [e]
theorem filt_f {α : Type} {p : α → Bool} {l : List α} {i : Nat} {z : α} (hz : l[i]? = some z) (e : p z = false) : (l.take (i + 1)).filter p = (l.take i).filter p := by
  rw [take_snoc hz, List.filter_append]
  simp [e]
theorem okDs_wd (L : List W) : okDs (L.map wd) = true := okDs_all fun d hd => by
  obtain ⟨q, _, rfl⟩ := List.mem_map.mp hd
  exact ok_wd q
theorem none_back {H0 H : Hp} (h : Same H0 H) {o : Addr} (n : H o = none) : H0 o = none := by
  cases e : H0 o with
  | none => rfl
  | some u =>
    rw [h _ _ e] at n
    cases n
theorem map_inj_nodup {α β : Type} {f : α → β} : ∀ {l : List α}, (l.map f).Nodup → ∀ a ∈ l, ∀ b ∈ l, f a = f b → a = b
  | [], _, a, h, _, _, _ => nomatch h
  | x :: l, hn, a, ha, b, hb, e => by
    rw [List.map_cons] at hn
    obtain ⟨h1, h2⟩ := List.nodup_cons.mp hn
    rcases List.mem_cons.mp ha with ea | ha
    · rcases List.mem_cons.mp hb with eb | hb
      · rw [ea, eb]
      · exact absurd (List.mem_map.mpr ⟨b, hb, by rw [← e, ea]⟩) h1
    · rcases List.mem_cons.mp hb with eb | hb
      · exact absurd (List.mem_map.mpr ⟨a, ha, by rw [e, eb]⟩) h1
      · exact map_inj_nodup h2 a ha b hb e
theorem sw_trueD {key val : Expr} {gs : List Comprehension} {scope : Scope} {pos py : Pos} {y : Str} {l : Nat} {env : Env} (hk : env.scope.kind = .function) (hy : env.scope.names.lookup y = some .local) (hl : (py.line == pos.line) = true)
    (ha : (scope.names.any fun (n, k) => n == y && (k == .local || k == .cell)) = false) : swapsWith (.DictComp key val gs scope pos) (some (.Name y py)) l env = pure true :=
  (show swapsWith (.DictComp key val gs scope pos) (some (.Name y py)) l env = swapsWith (.ListComp key gs scope pos) (some (.Name y py)) l env from rfl).trans (sw_true hk hy hl ha)
theorem op_powB {X : Cx} : OpR X (binaryOp .Pow) (rI (fun i j => 0 ≤ j ∧ (Builtin.Int.intBits i : Int) * j ≤ 2 ^ 27) fun i j => .int (i ^ j.toNat)) := opI fun _ _ _ _ _ _ _ hc q => pow_int hc.1 hc.2 q
theorem b64 {i : Int} (h0 : 0 ≤ i) (h1 : i < 2147483647) : -(2 ^ 64) < i ∧ i < 2 ^ 64 := ⟨by omega, by omega⟩
/-- a purse: three numbers -/
def Pur (H : Hp) (p : Addr) (c : Int) : Prop := ∃ a b e : Int, H p = some (.lst [.int a, .int b, .int e]) ∧ 0 ≤ a ∧ 0 ≤ b ∧ b < 2147483647 ∧ 0 ≤ e ∧ e ≤ c
def subsR : W → List W
  | [] => [[]]
  | x :: r => subsR r ++ (subsR r).map fun t => t ++ [x]
def subs (ns : W) : List W := subsR ns.reverse
theorem mem_subsR : ∀ {r t : W}, t ∈ subsR r ↔ t.Sublist r.reverse
  | [], t => by
    rw [subsR, List.mem_singleton, List.reverse_nil, List.sublist_nil]
  | x :: r, t => by
    rw [subsR, List.mem_append, List.mem_map, List.reverse_cons, List.sublist_append_iff]
    constructor
    · rintro (h | ⟨s, hs, rfl⟩)
      · exact ⟨t, [], by simp, mem_subsR.mp h, by simp⟩
      · exact ⟨s, [x], rfl, mem_subsR.mp hs, List.Sublist.refl _⟩
    · rintro ⟨a, b, rfl, ha, hb⟩
      cases hb with
      | cons _ h =>
        left
        rw [List.sublist_nil.mp h, List.append_nil]
        exact mem_subsR.mpr ha
      | cons_cons _ h =>
        right
        exact ⟨a, mem_subsR.mpr ha, by rw [List.sublist_nil.mp h]⟩
theorem mem_subs {ns t : W} : t ∈ subs ns ↔ t.Sublist ns := by
  unfold subs
  rw [mem_subsR, List.reverse_reverse]
theorem subsR_nodup : ∀ {r : W}, r.Nodup → (subsR r).Nodup
  | [], _ => by simp [subsR]
  | x :: r, h => by
    obtain ⟨h1, h2⟩ := List.nodup_cons.mp h
    have ih := subsR_nodup h2
    rw [subsR]
    refine List.nodup_append.mpr ⟨ih, ?_, fun a ha b hb e => ?_⟩
    · exact List.Pairwise.map _ (fun a b (hab : a ≠ b) (e : a ++ [x] = b ++ [x]) => hab (List.append_cancel_right e)) ih
    · subst e
      obtain ⟨s, hs, rfl⟩ := List.mem_map.mp hb
      have z := (mem_subsR.mp ha).subset (List.mem_append_right s (List.mem_singleton.mpr rfl))
      exact h1 (List.mem_reverse.mp z)
theorem subs_nodup {ns : W} (h : ns.Nodup) : (subs ns).Nodup := subsR_nodup (List.pairwise_reverse.mpr (h.imp fun hne e => hne e.symm))
theorem subsR_len : ∀ r : W, (subsR r).length = 2 ^ r.length
  | [] => rfl
  | x :: r => by
    rw [subsR, List.length_append, List.length_map, subsR_len r, List.length_cons, Nat.pow_succ]
    omega
theorem subs_len (ns : W) : (subs ns).length = 2 ^ ns.length := by
  unfold subs
  rw [subsR_len, List.length_reverse]
theorem subs_snoc (ns : W) (x : Str) : subs (ns ++ [x]) = subs ns ++ (subs ns).map fun t => t ++ [x] := by
  unfold subs
  rw [List.reverse_append, List.reverse_singleton]
  rfl
theorem sub_mem {a b : W} (h : sub a b = true) : ∀ x ∈ a, x ∈ b := fun x hx => by
  unfold sub at h
  exact of_decide_eq_true (List.all_eq_true.mp h x hx)
theorem sub_of {a b : W} (h : ∀ x ∈ a, x ∈ b) : sub a b = true := by
  unfold sub
  exact List.all_eq_true.mpr fun x hx => decide_eq_true (h x hx)
/-- the parts of a world are the worlds within it -/
theorem parts_iff {ns t : W} (h : IsW ns) : t ∈ subs ns ↔ IsW t ∧ sub t ns = true := by
  rw [mem_subs]
  constructor
  · intro s
    exact ⟨⟨fun x hx => h.names x (s.subset hx), h.up.sublist s, Nat.le_trans s.length_le h.few⟩, sub_of fun x hx => s.subset hx⟩
  · rintro ⟨hw, hs⟩
    have e : ns.filter (fun x => decide (x ∈ t)) = t := upX_one (h.up.sublist List.filter_sublist) hw.up fun a => by
      rw [List.mem_filter, decide_eq_true_iff]
      exact ⟨fun z => z.2, fun z => ⟨sub_mem hs a z, z⟩⟩
    rw [← e]
    exact List.filter_sublist
/-- the list of worlds at l -/
def WL (K : PySem.W.Frag) (H : Hp) (l : Addr) (S : List W) : Prop := ∃ ys, H l = some (.lst ys) ∧ DpAll K H ys (S.map wd)
theorem WL.same {K : PySem.W.Frag} {H H' : Hp} {l : Addr} {R : List W} (h : WL K H l R) (e : Same H H') : WL K H' l R := by
  obtain ⟨xs, h1, h2⟩ := h
  exact ⟨xs, e _ _ h1, (Stay.same e).dpAll _ _ (okDs_wd R) h2⟩
theorem all_wd : ∀ {ds : List PyData}, (∀ d ∈ ds, ∃ p, d = wd p) → ∃ R : List W, ds = R.map wd
  | [], _ => ⟨[], rfl⟩
  | d :: ds, h => by
    obtain ⟨p, rfl⟩ := h d List.mem_cons_self
    obtain ⟨R, rfl⟩ := all_wd fun e he => h e (List.mem_cons_of_mem _ he)
    exact ⟨p :: R, rfl⟩
theorem perm_of_map {α β : Type} {f : α → β} (inj : ∀ a b, f a = f b → a = b) : ∀ {l m : List α}, (l.map f).Perm (m.map f) → l.Perm m := by
  intro l m h
  classical
  refine List.perm_iff_count.mpr fun a => ?_
  have z := List.perm_iff_count.mp h (f a)
  have c : ∀ k : List α, List.count (f a) (k.map f) = List.count a k := fun k => by
    induction k with
    | nil => rfl
    | cons x k ih =>
      rw [List.map_cons, List.count_cons, List.count_cons, ih]
      by_cases e : x = a
      · subst e
        simp
      · have e' : f x ≠ f a := fun z => e (inj _ _ z)
        simp [e, e']
  rw [c, c] at z
  exact z
theorem shaped_strs {ns : W} (h : ∀ x ∈ ns, nameB x = true) : SeqAt.shaped (.list (ns.map .str)) = true := by
  unfold SeqAt.shaped
  rw [PyData.canLay0, lay_strs h, PyData.depth, depth_str]
  rfl
theorem first_map {α β γ : Type} {f : β → Option γ} {g : α → β} : ∀ {l : List α}, (l.map g).findSome? f = l.findSome? fun a => f (g a)
  | [] => rfl
  | a :: l => by
    rw [List.map_cons, List.findSome?_cons, List.findSome?_cons, first_map (l := l)]
theorem first_filter {α γ : Type} {f : α → Option γ} {p : α → Bool} : ∀ {l : List α}, (l.filter p).findSome? f = l.findSome? fun a => if p a = true then f a else none
  | [] => rfl
  | a :: l => by
    rw [List.findSome?_cons, ← first_filter (l := l)]
    by_cases h : p a = true
    · rw [List.filter_cons_of_pos h, List.findSome?_cons, if_pos h]
    · rw [List.filter_cons_of_neg h, if_neg h]
theorem first_congr {α γ : Type} {f g : α → Option γ} {l : List α} (h : ∀ a ∈ l, f a = g a) : l.findSome? f = l.findSome? g := by
  induction l with
  | nil => rfl
  | cons a l ih =>
    rw [List.findSome?_cons, List.findSome?_cons, h a List.mem_cons_self, ih fun b hb => h b (List.mem_cons_of_mem _ hb)]
theorem sub_self (t : W) : sub t t = true := sub_of fun _ h => h
theorem sub_trans {a b c : W} (h : sub a b = true) (h2 : sub b c = true) : sub a c = true := sub_of fun x hx => sub_mem h2 x (sub_mem h x hx)
theorem room65 {k : Nat} {A : Around} (hr : Room k A) : A.units + 65 < cLine := by
  have := hr.un
  omega
theorem len_le {α : Type} [DecidableEq α] : ∀ {l m : List α}, l.Nodup → (∀ z ∈ l, z ∈ m) → l.length ≤ m.length
  | [], _, _, _ => Nat.zero_le _
  | x :: l, m, hn, hs => by
    obtain ⟨h1, h2⟩ := List.nodup_cons.mp hn
    have hx : x ∈ m := hs x List.mem_cons_self
    have ih := len_le (l := l) (m := m.erase x) h2 fun y hy => (List.mem_erase_of_ne (show y ≠ x from fun e => h1 (by rw [← e]; exact hy))).2 (hs y (List.mem_cons_of_mem _ hy))
    rw [List.length_erase_of_mem hx] at ih
    have := List.length_pos_of_mem hx
    rw [List.length_cons]
    omega
theorem prod_len {α β : Type} (m : List β) : ∀ l : List α, (l.flatMap fun a => m.map fun b => (a, b)).length = l.length * m.length
  | [] => by simp
  | a :: l => by
    rw [List.flatMap_cons, List.length_append, prod_len m l, List.length_map, List.length_cons, Nat.succ_mul]
    omega
theorem prod_mem {α β : Type} {l : List α} {m : List β} {a : α} {b : β} (ha : a ∈ l) (hb : b ∈ m) : (a, b) ∈ l.flatMap fun a => m.map fun b => (a, b) :=
  List.mem_flatMap.mpr ⟨a, ha, List.mem_map.mpr ⟨b, hb, rfl⟩⟩
def meet (ns ms : W) : W := ns.filter fun z => decide (z ∈ ms)
theorem isW_meet {a b : W} (h : IsW a) : IsW (meet a b) := ⟨fun x hx => h.names x (List.mem_filter.mp hx).1, h.up.sublist List.filter_sublist, Nat.le_trans (List.length_filter_le _ _) h.few⟩
theorem nodup_snoc {α : Type} {L : List α} {p : α} (n : L.Nodup) (h : p ∉ L) : (L ++ [p]).Nodup := List.nodup_append.mpr ⟨n, by simp, fun a ha b hb e => by
  rw [List.mem_singleton] at hb
  subst hb
  exact h (e ▸ ha)⟩
def Bar (p : Addr) (H H' : Hp) : Prop := ∀ b u, b ≠ p → H b = some u → H' b = some u
theorem Bar.same {p : Addr} {H H' : Hp} (h : Same H H') : Bar p H H' := fun b u _ e => h b u e
theorem Bar.trans {p : Addr} {H H1 H2 : Hp} (a : Bar p H H1) (b : Bar p H1 H2) : Bar p H H2 := fun c u n e => b c u n (a c u n e)
theorem Bar.draw {p : Addr} {H : Hp} {o : HO} : Bar p H (upd H p o) := fun b u n e => by
  rw [upd_ne n]
  exact e
theorem Bar.put {p l : Addr} {H H' : Hp} (h : Bar p H H') (n : H l = none) {o : HO} : Bar p H (upd H' l o) := fun b u nb e => by
  rw [upd_ne (ne_of_none e n)]
  exact h b u nb e
theorem Pur.mut {H : Hp} {p : Addr} {c : Int} (h : Pur H p c) : Mut (H p) := by
  obtain ⟨a, b, e, h, _⟩ := h
  rw [h]
  exact True.intro
theorem Pur.some {H : Hp} {p : Addr} {c : Int} (h : Pur H p c) {q : Addr} (n : H q = none) : q ≠ p := fun e => by
  obtain ⟨a, b, e', h, _⟩ := h
  rw [e, h] at n
  cases n
theorem Pur.same {H H' : Hp} {p : Addr} {c : Int} (h : Pur H p c) (e : Same H H') : Pur H' p c := by
  obtain ⟨a, b, e', h, g⟩ := h
  exact ⟨a, b, e', e _ _ h, g⟩
theorem Pur.put {H : Hp} {p l : Addr} {c : Int} (h : Pur H p c) (n : l ≠ p) {o : HO} : Pur (upd H l o) p c := by
  obtain ⟨a, b, e', h, g⟩ := h
  refine ⟨a, b, e', ?_, g⟩
  rw [upd_ne n.symm]
  exact h
theorem Pur.le {H : Hp} {p : Addr} {c d : Int} (h : Pur H p c) (l : c ≤ d) : Pur H p d := by
  obtain ⟨a, b, e', h, g1, g2, g3, g4, g5⟩ := h
  exact ⟨a, b, e', h, g1, g2, g3, g4, Int.le_trans g5 l⟩
theorem Bar.stay {p : Addr} {H H' : Hp} (h : Bar p H H') (m : Mut (H p)) : Stay H H' := fun b xs r => by
  have ne : b ≠ p := fun z => by
    subst z
    rcases r with r | ⟨u, r⟩
    · rw [r] at m; exact m
    · rw [r] at m; exact m
  rcases r with r | ⟨o, r⟩
  · exact .inl (h _ _ ne r)
  · exact .inr ⟨o, h _ _ ne r⟩
theorem idx_new' {α : Type} {ds : List α} (hn : ds.Nodup) {i : Nat} {d : α} (h : ds[i]? = some d) : d ∉ ds.take i := fun hm => by
  have z := take_snoc h
  have nd : (ds.take (i + 1)).Nodup := List.Nodup.sublist (List.take_sublist _ _) hn
  rw [z] at nd
  obtain ⟨_, _, h3⟩ := List.nodup_append.mp nd
  exact h3 d hm d (List.mem_singleton.mpr rfl) rfl
theorem evalArgs_kw0 {M : Model} {A : Around} {E : Value → Shared → Prop} {s : Shared} {f : Value} {kwl : List (Option Str × Sem Value)} {Q : Args → Shared → Prop} (hall : (kwl.all fun x => x.1.isSome) = true)
    (h : wpAny M A (evalAll (kwl.map fun x => x.2)) (fun ks s₂ => Q { pos := [], kw := (kwl.filterMap fun x => x.1).zip ks } s₂) E s) : wpAny M A (evalArgs f true [] kwl) Q E s := by
  unfold evalArgs
  refine wpAny_bind (Calls.spliced_nil ?_)
  refine wpAny_bind (wpAny_pure ?_)
  refine wpAny_holding ?_
  rw [if_pos hall]
  refine wpAny_bind (wpAny_mono h (fun ks s2 q => ?_) fun _ _ e => e)
  exact wpAny_bind (wpAny_pure (wpAny_pure q))
theorem pe_callK0 {X : Cx} {CX : CXT} {k : Nat} {f : Addr} {fd : FuncData} {ps ks : List Str} {sp : Sp} {E : XK} {x : Str} {p pos : Pos} {kws : List Keyword} {tk : TA} {g : List Value → List Value → List Value} {gV : List V → List V → List V}
    (F : FnOk X.prog X.w X.K X.mg X.base CX k f fd ps sp) (hr : Room k X.A) (hg : Gl X x) (hm : X.mg x = some (.ref f)) (hk : PySem.W.keepIn X.K (.ref f) = true) (hb : KBn X.K fd ps 0 ks g gV) (hx : Passes CX X E) (hkw : PK X kws tk)
    (hall : ((backToKw pos (keywordEach kws X.env)).all fun x => x.1.isSome) = true) (hks : (backToKw pos (keywordEach kws X.env)).filterMap (fun x => x.1) = ks) (hdb : (x == ("__debug__" : Str)) = false)
    (hpl : ((([] : List (Bool × Sem Value)).any fun x => x.1) || (backToKw pos (keywordEach kws X.env)).any fun x => x.1.isNone) = false) (hst : backTo pos (starEach [] X.env) = []) :
    PE X (.Call (.Name x p) [] kws pos) (fun σ H Q => tk σ H fun zs H1 => zs.length = ks.length ∧ sp (gV [] zs) H1 Q E) := by
  refine ⟨fun pins s σ H Q I h => wpAny_Call_Name_kw (ld_glob I hg hm ?_ hdb)⟩
  rw [hst]
  refine PySem.W.callWith_of hpl (PySem.W.keeps_K hk) (evalArgs_kw0 hall (thn (hkw.run pos pins s σ H (fun zs H1 => zs.length = ks.length ∧ sp (gV [] zs) H1 Q E) I h) fun ws s2 ⟨zs, H2, I2, rz, l2, q2⟩ => ⟨Inv.kIn I2, ?_⟩))
  rw [hks]
  exact run_fnN F hr hb hx I2 .nil rz rfl l2 q2
def tMid (t u : TS) : TS := fun D σ H => ∃ I : L2.St → Hp → Prop, t { nx := I, rt := D.rt, bk := D.bk, ct := D.ct } σ H ∧ ∀ σ' H', I σ' H' → u D σ' H'
/-- the first statement up to a mark of one's own, then the rest from it -/
theorem pss_mid {X : Cx} {st : Stmt} {rest : List Stmt} {t u : TS} (h1 : PS X st t) (h2 : PSs X rest u) : PSs X (st :: rest) (tMid t u) := by
  refine ⟨fun pins s σ H D I ⟨J, a, b⟩ => ?_⟩
  refine wpAny_execs_cons (thn (h1.run pins s σ H _ I a) fun f s1 q => ?_)
  cases f with
  | next =>
    obtain ⟨σ', H', I', q⟩ := q
    exact h2.run pins s1 σ' H' D I' (b σ' H' q)
  | brk => exact q
  | cont => exact q
  | ret v => exact q
/-- a def with defaults, called by names -/
theorem kbn_def {K : PySem.W.Frag} {x qual : Str} {params : Arguments} {body : List Stmt} {scope : Scope} {dvs : List V} {kws : List (Str × V)} {f : Addr} {fd : FuncData} {ps : List Str} (F : FunD K x qual params body scope dvs kws f fd) (hd : dvs ≠ []) (n : Nat) (ks : List Str) (g : List Value → List Value → List Value → List Value) (gV : List V → List V → List V)
    (h : ∀ (T : Addr) (kV doc pm : Value) (an : Option Addr) (cdv ct : Value) (us its ws : List Value), us.length = n → its.length = dvs.length → ws.length = ks.length → ∃ k, bindArgs (PySem.W.fnOf x qual params body scope (.ref T) kV doc pm an cdv ct) { pos := us, kw := ks.zip ws } = seqItems? (.ref T) >>= k ∧ k (some its.toArray) = pure (ps.zip (g us its ws)))
    (rel : ∀ {vs : List V} {us its : List Value} {zs : List V} {ws : List Value}, Vals vs us → Vals dvs its → Vals zs ws → Vals (gV vs zs) (g us its ws)) : ∃ its, Vals dvs its ∧ KBn K fd ps n ks (fun us ws => g us its ws) gV := by
  obtain ⟨oc, od, dV, kV, doc, pm, an, cdv, ct, osl, rfl, lk, hcd, hD, hK⟩ := F.ex
  rcases hD with ⟨e, _⟩ | ⟨_, T, o, its, m, rfl, lT, oT, rT⟩
  · exact absurd e hd
  · refine ⟨its, rT, ⟨fun s us ws X l1 l2 => ?_, fun a b => rel a rT b⟩⟩
    intro M A E Q q
    obtain ⟨k, e1, e2⟩ := h T kV doc pm an cdv ct us its ws l1 rT.length.symm l2
    rw [e1]
    refine wpAny_bind (wpAny_seqItems (X T o lT) oT ?_)
    rw [e2]
    exact wpAny_pure q
theorem shaped_of {d : PyData} (h : d.canLay0 = true) (n : d.depth ≤ 64) : SeqAt.shaped d = true := by
  unfold SeqAt.shaped
  rw [h, decide_eq_true n]
  rfl
theorem eqv_self {d : PyData} (h : SeqAt.shaped d = true) : PyData.eqv d d = true := by
  unfold SeqAt.shaped at h
  rw [Bool.and_eq_true] at h
  exact SeqAt.eqv_refl d h.1
theorem dpAll_drop {K : PySem.W.Frag} {H : Hp} : ∀ {xs : List V} {ds : List PyData} (n : Nat), DpAll K H xs ds → DpAll K H (xs.drop n) (ds.drop n)
  | _, _, 0, h => h
  | _, _, _ + 1, .nil => .nil
  | _, _, n + 1, .cons _ t => dpAll_drop n t
theorem dpAll_take {K : PySem.W.Frag} {H : Hp} : ∀ {xs : List V} {ds : List PyData} (n : Nat), DpAll K H xs ds → DpAll K H (xs.take n) (ds.take n)
  | _, _, 0, _ => by
    rw [List.take_zero, List.take_zero]
    exact .nil
  | _, _, _ + 1, .nil => .nil
  | _, _, n + 1, .cons h t => .cons h (dpAll_take n t)
theorem dpAll_rev {K : PySem.W.Frag} {H : Hp} : ∀ {xs : List V} {ds : List PyData}, DpAll K H xs ds → DpAll K H xs.reverse ds.reverse
  | _, _, .nil => .nil
  | _, _, .cons h t => by
    rw [List.reverse_cons, List.reverse_cons]
    exact dpAll_app (dpAll_rev t) (.cons h .nil)
theorem dpAll_erase {K : PySem.W.Frag} {H : Hp} : ∀ {xs : List V} {ds : List PyData} (n : Nat), DpAll K H xs ds → DpAll K H (xs.eraseIdx n) (ds.eraseIdx n)
  | _, _, 0, .cons _ t => t
  | _, _, _ + 1, .cons h t => .cons h (dpAll_erase _ t)
  | _, _, _, .nil => .nil
theorem map_erase {α β : Type} (f : α → β) : ∀ (l : List α) (n : Nat), (l.map f).eraseIdx n = (l.eraseIdx n).map f
  | [], _ => rfl
  | _ :: _, 0 => rfl
  | a :: l, n + 1 => congrArg (f a :: ·) (map_erase f l n)
theorem none_bar {p l : Addr} {H H' : Hp} {c : Int} (b : Bar p H H') (pu : Pur H' p c) (n : H' l = none) : H l = none := by
  have ne := pu.some n
  cases e : H l with
  | none => rfl
  | some u =>
    rw [b l u ne e] at n
    cases n
theorem vals_app : ∀ {xs ys : List V} {us ws : List Value}, Vals xs us → Vals ys ws → Vals (xs ++ ys) (us ++ ws)
  | _, _, _, _, .nil, h => h
  | _, _, _, _, .cons r t, h => .cons r (vals_app t h)
theorem fun_of {K : PySem.W.Frag} {x qual : Str} {st : Stmt} {f : Addr} {fd : FuncData} (F : FunD K x qual (defArgs st) (defBody st) (defScope st) [] [] f fd) : Fun K x qual st f fd := by
  obtain ⟨oc, od, dV, kV, doc, pm, an, cdv, ct, osl, e, lk, hcd, hD, hK⟩ := F.ex
  rcases hD with ⟨_, rfl⟩ | ⟨h, _⟩
  · exact ⟨⟨oc, od, kV, doc, pm, an, cdv, ct, osl, e, lk, hcd⟩, F.kp⟩
  · exact absurd rfl h
end Rw
namespace Rw
open PySem PySem.Spec PyProof.Rows L2
/-! ### enumerate of a tuple -/
theorem meets_enumT (l : Addr) (items : Array Value) : Meets (Builtin.«enumerate.__new__» { pos := [Value.type "enumerate", Value.ref l] }) fun _ R s =>
    s.heap.IsTuple l items ∧ R (Except.ok (Flow.ret (Value.ref (s.heap.push { cls := Value.type "tuple_iterator", data := Data.fields #[Value.ref l, Value.int 0 0] }).objs.size)))
        { heap := (s.heap.push { cls := Value.type "tuple_iterator", data := Data.fields #[Value.ref l, Value.int 0 0] }).push
              { cls := Value.type "enumerate", data := Data.fields #[Value.none, Value.bool false, Value.ref s.heap.objs.size, rawInt 0, Value.none, Value.none] },
          gens := s.gens, drawn := s.drawn, toks := s.toks, os := s.os } := by
  refine Meets.of_wp fun prog w A R s h => ?_
  obtain ⟨hl, h⟩ := h
  have hsub := sub_enumerate
  unfold Builtin.«enumerate.__new__»
  refine wpAny_bind ?_
  unfold Builtin.SmallTypes.newClass
  refine wpAny_bind (wpAny_pure (wpAny_ite_false rfl (wpAny_bind (wpAny_of_eq hsub (wpAny_ite_false rfl (wpAny_pure (wpAny_ite_true rfl (wpAny_bind ?_))))))))
  unfold Builtin.SmallTypes.calledThroughType
  refine wpAny_bind (wpAny_stack_any fun st => wpAny_pure ?_)
  have fin : wpAny (model prog w) A.in1 (do
      let it ← pyIter (.ref l)
      let r ← Builtin.SmallTypes.newRecord (.type "enumerate") (Builtin.SmallTypes.ownedTupleFields ++ [it, rawInt 0, Value.none, Value.none])
      ret r) (fun fin s' => ∃ v, fin = Fin.done (Flow.ret v) ∧ R (Except.ok (Flow.ret v)) s') (fun e s' => R (Except.error e) s') s := by
    refine wpAny_bind (wpAny_pyIter_tuple hl ?_)
    refine wpAny_bind ?_
    unfold Builtin.SmallTypes.newRecord
    refine wpAny_bind (wpAny_alloc ?_)
    refine wpAny_pure ?_
    exact wpAny_pure ⟨_, rfl, h⟩
  split
  · generalize (_ == Value.type "enumerate") = b
    cases b
    · refine wpAny_ite_false rfl (wpAny_bind (wpAny_of_eq (a := (Value.ref l, none)) rfl fin))
    · refine wpAny_ite_true rfl (wpAny_bind (wpAny_of_eq (a := (Value.ref l, none)) rfl fin))
  · refine wpAny_ite_false rfl (wpAny_bind (wpAny_of_eq (a := (Value.ref l, none)) rfl fin))
theorem call_enumT {prog : Program} {w : World} {A : Around} {E : Value → Shared → Prop} {s : Shared} {l : Addr} {items : Array Value} {Q : Value → Shared → Prop} (hT : s.heap.IsTuple l items)
    (h : ∀ h' : Heap, IsEnum h' (s.heap.objs.size + 1) s.heap.objs.size 0 Value.none → h'.IsTupleIter s.heap.objs.size l 0 → h'.objs.size = s.heap.objs.size + 2 → (∀ (b : Addr) (o : Obj), s.heap.get? b = some o → h'.get? b = some o) →
      Q (.ref (s.heap.objs.size + 1)) { heap := h', gens := s.gens, drawn := s.drawn, toks := s.toks, os := s.os }) : wpAny (model prog w) A (call (.type "enumerate") [.ref l]) Q E s := by
  refine callType_new F.called_enumerate (by decide) (F.typeCall_enumerate_1 (.ref l)) (F.newCall_enumerate_1 (.ref l)) (fun obj => F.args_object_init_2 obj (.ref l)) F.entry_enumerate_new (meets_enumT l items) ⟨hT, ?_⟩
  have hz := Heap.size_push s.heap { cls := .type "tuple_iterator", data := .fields #[.ref l, .int 0 0] }
  show _ ∧ _
  rw [hz]
  have he := Heap.get?_push_size (s.heap.push { cls := .type "tuple_iterator", data := .fields #[.ref l, .int 0 0] }) (o := { cls := .type "enumerate", data := .fields #[.none, .bool false, .ref s.heap.objs.size, rawInt 0, .none, .none] }) rfl
  rw [hz] at he
  refine ⟨⟨_, he, rfl⟩, h _ he ⟨_, Heap.get?_push_of_some _ (Heap.get?_push_size s.heap rfl), rfl, rfl⟩ ?_ fun b o e => Heap.get?_push_of_some _ (Heap.get?_push_of_some _ e)⟩
  rw [Heap.size_push, hz]
/-- enumerate of a tuple: what it gives -/
def Ietup (K : PySem.W.Frag) (a : Addr) : It where
  go := fun i H => ∃ xs x, SqT K H a xs ∧ xs[i]? = some x
  yld := fun i H v H' => ∃ T x, v = .ref T ∧ H T = none ∧ H' = upd H T (.tup [.int (i : Int), x]) ∧ ∀ xs, SqT K H a xs → xs[i]? = some x
  stop := fun i H => ∃ xs, SqT K H a xs ∧ xs.length = i
theorem tup_enum_ne {h : Heap} {a e it : Addr} {items : Array Value} {i : Int} {old : Value} (ht : h.IsTuple a items) (he : IsEnum h e it i old) : e ≠ a := fun z => by
  obtain ⟨o, h1, h2, _⟩ := ht
  rw [← z, he] at h1
  cases h1
  exact absurd (show Value.type "enumerate" = Value.type "tuple" from h2) (by decide)
theorem tup_iter_ne {h : Heap} {a it l : Addr} {items : Array Value} {i : Nat} (ht : h.IsTuple a items) (he : h.IsTupleIter it l i) : a ≠ it := fun z => by
  obtain ⟨o, h1, h2, _⟩ := ht
  obtain ⟨o', h3, h4, _⟩ := he
  rw [z, h3] at h1
  cases h1
  rw [h4] at h2
  exact absurd h2 (by decide)
theorem turn_enumT {P : Program} {w : World} {K : PySem.W.Frag} {elts : List Expr} {kk : Nat} {tpos : Pos} (a e it : Addr) : Turn P w K (.Tuple elts kk tpos) (Ietup K a) [e, it] e (fun i h => (∃ old, IsEnum h e it (i : Int) old) ∧ h.IsTupleIter it a i ∧ e ≠ it) := by
  refine ⟨by simp, fun i h st b hb => ?_, fun i h h' st k => ?_, fun X hP hw hK hc i pins s σ H E I hf st hg => ?_, fun X hP hw hK hc i pins s σ H E I hf st hg => ?_, fun A i s Q E st h => ?_⟩
  · obtain ⟨⟨old, he⟩, ⟨o, ho, hcl, hd⟩, _⟩ := st
    rcases List.mem_cons.mp hb with z | hb
    · subst z
      exact ⟨_, he, fun v q => nomatch q⟩
    · rw [List.mem_singleton.mp hb]
      refine ⟨o, ho, fun v q => ?_⟩
      rw [hd] at q
      cases q
  · obtain ⟨⟨old, he⟩, hi, hne⟩ := st
    exact ⟨⟨old, k e (by simp) _ he⟩, hi.at fun o q => k it (by simp) o q, hne⟩
  · subst hP hw hK
    obtain ⟨⟨old, he⟩, hit, hne⟩ := st
    obtain ⟨xs, x, hq, hx⟩ := hg
    obtain ⟨its, rv, p, hz⟩ := I.tuple hq
    have ht : s.heap.IsTuple a its.toArray := p
    have ea := tup_enum_ne ht he
    have ai := tup_iter_ne ht hit
    have hl := rv.length
    have hin : i < its.toArray.size := by
      rw [List.size_toArray, ← hl]
      exact (List.getElem?_eq_some_iff.mp hx).1
    refine wpAny_pyNext_enum_itemD (Draws.tuple (A := X.A.in1) (I.ok.hd hc) it a ai its.toArray) he ⟨hit, ht⟩ hin hne (by simp [hne, ea]) fun u h' tk hu ho st' hT hsz hk => ⟨.ref s.heap.objs.size, rfl, ?_⟩
    refine wpAny_letOwnedTupleGo_enum ho fun h'' he' sb => ?_
    have hel : e < s.heap.objs.size := Heap.lt_size he
    have hil : it < s.heap.objs.size := by
      obtain ⟨o, ho, _⟩ := hit
      exact Heap.lt_size ho
    have hT2 : h''.get? s.heap.objs.size = _ := (sb.2 s.heap.objs.size (Nat.ne_of_gt hel)).trans hT
    have hu' : its[i]? = some u := by simpa using hu
    obtain ⟨x', hx', ru⟩ := vals_at rv hu'
    have exx : x' = x := Option.some.inj (hx'.symm.trans hx)
    subst exx
    have new : ObjOk X.prog X.w (upd H s.heap.objs.size (.tup [.int (i : Int), x'])) h'' s.heap.objs.size (.tup [.int (i : Int), x']) :=
      ⟨by show 2 ≤ sizeLine; decide, [.int (i : Int) tk, u], .cons ⟨tk, rfl⟩ (.cons ru .nil), ⟨_, hT2, rfl, 0, rfl⟩⟩
    have kept : ∀ (b : Addr) (o : Obj), b ∉ [e, it] → s.heap.get? b = some o → h''.get? b = some o := fun b o hb q => by
      have n1 : b ≠ e := fun z => hb (by simp [z])
      have n2 : b ≠ it := fun z => hb (by simp [z])
      exact (sb.2 b n1).trans (hk b o n1 n2 q)
    have I1 := I.turnedNew (t' := tk + 1) kept hf (Nat.le_refl _) new
    refine ⟨.ref s.heap.objs.size, _, I1, rfl, ⟨s.heap.objs.size, x', rfl, I.hok.fresh (Nat.le_refl _), rfl, fun ys hy => ?_⟩, ⟨⟨u, ?_⟩, st'.1.at fun o q => (sb.2 it hne.symm).trans q, hne⟩, fun b hb => ?_⟩
    · obtain ⟨its2, rv2, p2, _⟩ := I.tuple hy
      have ht2 : s.heap.IsTuple a its2.toArray := p2
      have ei : its2.toArray = its.toArray := by
        obtain ⟨o, a1, a2, n, a3⟩ := ht
        obtain ⟨o', b1, b2, n', b3⟩ := ht2
        rw [a1] at b1
        cases b1
        rw [a3] at b3
        cases b3
        rfl
      have ei' : its2 = its := by
        have := congrArg Array.toList ei
        simpa using this
      subst ei'
      obtain ⟨y, hy1, ry⟩ := vals_at rv2 hu'
      rw [RelV.inj ru ry]
      exact hy1
    · have e1 : ((i : Int) + 1) = ((i + 1 : Nat) : Int) := rfl
      rw [← e1]
      exact he'
    · have hb' : b < s.heap.objs.size := by
        rcases List.mem_cons.mp hb with z | hb
        · rw [z]
          exact hel
        · rw [List.mem_singleton.mp hb]
          exact hil
      rw [upd_ne (Nat.ne_of_lt hb')]
      exact (hf b hb).1
  · subst hP hw hK
    obtain ⟨⟨old, he⟩, hit, hne⟩ := st
    obtain ⟨xs, hq, hx⟩ := hg
    obtain ⟨its, rv, p, hz⟩ := I.tuple hq
    have ht : s.heap.IsTuple a its.toArray := p
    have ai := tup_iter_ne ht hit
    obtain ⟨f0, f1, f2, f3, f4, f5⟩ := hf it (by simp)
    have sz : its.toArray.size = i := by rw [List.size_toArray, ← rv.length, hx]
    refine wpAny_pyNext_enum_endD (Draws.tuple (A := X.A.in1) (I.ok.hd hc) it a ai its.toArray) he ⟨by rw [sz]; exact hit, ht⟩ fun h' eb => ⟨rfl, I.turned (fun b o hb q => eb b o hb q) f0 f1 f3 f4 f5⟩
  · obtain ⟨⟨_, he⟩, _⟩ := st
    exact wpAny_pyIter_enum he h
def iEnumT (K : PySem.W.Frag) (ta : TA) : TI := fun σ H R => ta σ H fun vs H1 => ∃ a xs, vs = [.ref a] ∧ SqT K H1 a xs ∧ R (Ietup K a) H1
theorem pi_enumT {X : Cx} {e : Expr} {ta : TA} {p pos tpos : Pos} {elts : List Expr} {kk : Nat} (hg : Gl X "enumerate") (hm : X.mg "enumerate" = none) (ha : PA X [e] ta) (hs : starEach [e] X.env = [(false, eval e X.env)] := by rfl) : PI X (.Tuple elts kk tpos) (.Call (.Name "enumerate" p) [e] [] pos) (iEnumT X.K ta) := by
  refine ⟨fun pins s σ H R I h => Call_ (ld_blt I hg hm boot_enumerate (PyProof.Rows.callWith_type1 (thn (ha.run pos pins s σ H _ I h) fun us s1 ⟨vs, H1, I1, r1, a, xs, ex, hq, q⟩ => ?_) hs rfl) (by decide) (by decide)) rfl⟩
  subst ex
  rw [Vals.ref1 r1]
  obtain ⟨its, rv, p', hz⟩ := I1.tuple hq
  refine call_enumT p' fun h' he hit hsz hk => ?_
  refine wpAny_pyIter_enum he ?_
  have I2 := I1.kept (t' := s1.toks) hk
  refine ⟨s1.heap.objs.size + 1, [s1.heap.objs.size + 1, s1.heap.objs.size], _, Ietup X.K a, H1, rfl, I2, turn_enumT a (s1.heap.objs.size + 1) s1.heap.objs.size, ⟨⟨_, he⟩, hit, Nat.succ_ne_self _⟩, fun b hb => ?_, q⟩
  rcases List.mem_cons.mp hb with z | hb
  · subst z
    exact I1.fpOk (Nat.le_succ _) (I1.hok.fresh (Nat.le_succ _))
  · rw [List.mem_singleton.mp hb]
    exact I1.fpOk (Nat.le_refl _) (I1.hok.fresh (Nat.le_refl _))
end Rw
namespace Rw
open PySem PySem.Spec PyProof.Rows L2
/-! ### walks over enumerate(tuple); instances made of starred arguments -/
theorem for_enumT {K : PySem.W.Frag} {a : Addr} {xs : List V} {g : TG} {tb : TS} {D : Ends} {σ : L2.St} {H : Hp} (Pv : Nat → L2.St → Hp → Prop) (h0 : Pv 0 σ H) (hl : ∀ i σ H, i ≤ xs.length → Pv i σ H → SqT K H a xs)
    (hs : ∀ i x σ H T, xs[i]? = some x → Pv i σ H → H T = none → g (.ref T) σ (upd H T (.tup [.int (i : Int), x])) fun σ2 H2 => tb { nx := Pv (i + 1), rt := D.rt, bk := D.nx, ct := Pv (i + 1) } σ2 H2) (hd : ∀ σ H, Pv xs.length σ H → D.nx σ H) :
    ∃ W : Nat → Nat → L2.St → Hp → Prop, (∃ m, W 0 m σ H) ∧ ∀ i m σ H, W i m σ H → ((Ietup K a).stop i H ∧ D.nx σ H) ∨ ((Ietup K a).go i H ∧ ∃ N : L2.St → Hp → Prop, (∀ σ' H', N σ' H' → ∃ m', m' < m ∧ W (i + 1) m' σ' H') ∧
      ∀ x H', (Ietup K a).yld i H x H' → g x σ H' fun σ2 H2 => tb { nx := N, rt := D.rt, bk := D.nx, ct := N } σ2 H2) := by
  refine ⟨fun i m σ H => m = xs.length - i ∧ i ≤ xs.length ∧ Pv i σ H, ⟨xs.length, by simp, Nat.zero_le _, h0⟩, ?_⟩
  rintro i m σ H ⟨rfl, hi, p⟩
  have hS := hl i σ H hi p
  by_cases hlt : i < xs.length
  · refine .inr ⟨⟨xs, xs[i], hS, List.getElem?_eq_getElem hlt⟩, Pv (i + 1), fun σ' H' p' => ⟨xs.length - (i + 1), by omega, rfl, hlt, p'⟩, fun y H' yy => ?_⟩
    obtain ⟨T, x, rfl, hT, rfl, hx⟩ := yy
    exact hs i x σ H T (hx xs hS) p hT
  · have e : i = xs.length := by omega
    subst e
    exact .inl ⟨⟨xs, hS, rfl⟩, hd σ H p⟩
def tMakeS (K : PySem.W.Frag) (C : Addr) (sp : Sp) (E : XK) (te : TE) : TE := fun σ H Q => te σ H fun y H1 => ∃ a xs, y = V.ref a ∧ (SqT K H1 a xs ∨ SqL K H1 a xs) ∧ ∀ x dx, H1 x = none → H1 dx = none → dx ≠ x → sp (V.ref x :: xs) (upd (upd H1 dx (.own x)) x (.ins C dx [])) (fun v H2 => v = .non ∧ Q (.ref x) H2) E
/-- C(*e), C a class of the module -/
theorem pe_makeS {X : Cx} {CX : CXT} {k : Nat} {f C : Addr} {sp : Sp} {E : XK} {x : Str} {e : Expr} {te : TE} {p sp_ pos : Pos} (M : Mk X.K C f) (F : FnR X.prog X.w X.K X.mg X.base CX k f sp) (hr : Room (k + 1) X.A) (hg : Gl X x) (hm : X.mg x = some (.ref C)) (hx : Passes CX X E) (he : PE X e te)
    (hd : (x == ("__debug__" : Str)) = false := by rfl) (hst : starEach [e.Starred sp_] X.env = [(true, eval e X.env)] := by rfl) : PE X (.Call (.Name x p) [.Starred e sp_] [] pos) (tMakeS X.K C sp E te) :=
  ⟨fun pins s σ H Q I h => wpAny_Call_Name_kw (ld_glob I hg hm (PySem.W.callWith_S I.ok.mod.kin M.kp (thn (he.run pins s σ H _ I h) fun v s1 ⟨y, H1, I1, ry, a, xs, ey, hxs, q⟩ => by
    subst ey
    obtain rfl : v = Value.ref a := ry
    exact StX.star_any I1 hxs fun us s2 I2 rv => ⟨Inv.kIn I2, StX.run_makeR M F hr hx I2 rv q⟩) hst) hd)⟩
/-- cls(*e), cls a local name that holds the class -/
theorem pe_makeSL {X : Cx} {CX : CXT} {k i : Nat} {f C : Addr} {sp : Sp} {E : XK} {x : Str} {e : Expr} {te : TE} {p sp_ pos : Pos} (M : Mk X.K C f) (F : FnR X.prog X.w X.K X.mg X.base CX k f sp) (hr : Room (k + 1) X.A) (hN : X.N[i]? = some x) (hv : Vis X.env.scope x) (hx : Passes CX X E) (he : PE X e te)
    (hd : (x == ("__debug__" : Str)) = false := by rfl) (hcd : (x == ("__classdict__" : Str)) = false := by rfl) (hst : starEach [e.Starred sp_] X.env = [(true, eval e X.env)] := by rfl) :
    PE X (.Call (.Name x p) [.Starred e sp_] [] pos) (fun σ H Q => σ[i]? = some (some (.ref C)) ∧ tMakeS X.K C sp E te σ H Q) := by
  refine ⟨fun pins s σ H Q I ⟨hs, h⟩ => wpAny_Call_Name_kw (thn ((pe_var hN hv hd hcd).run pins s σ H (fun v H1 => v = V.ref C ∧ H1 = H) I ⟨.ref C, hs, rfl, rfl⟩) fun u s1 ⟨v, H0, I1, r1, ev, eH⟩ => ?_)⟩
  subst ev eH
  obtain rfl : u = Value.ref C := r1
  exact PySem.W.callWith_S I1.ok.mod.kin M.kp (thn (he.run pins s1 σ _ _ I1 h) fun v s1 ⟨y, H1, I1, ry, a, xs, ey, hxs, q⟩ => by
    subst ey
    obtain rfl : v = Value.ref a := ry
    exact StX.star_any I1 hxs fun us s2 I2 rv => ⟨Inv.kIn I2, StX.run_makeR M F hr hx I2 rv q⟩) hst
theorem fnr_of {P : Program} {w : World} {K : PySem.W.Frag} {mg : Str → Option Value} {base : Heap} {CX : CXT} {k : Nat} {f : Addr} {fd : FuncData} {ps : List Str} {sp : Sp} (F : FnOk P w K mg base CX k f fd ps sp) (b : Binds K fd ps []) : FnR P w K mg base CX k f sp := fun A outer s H us vs Q E hr e0 r h => by
  have hl := F.len vs H Q E h
  have ul : us.length = ps.length := by rw [← r.length, hl]
  have z := b s us (PySem.W.Frag.In.keeps e0.mod.kin fun b o e => (e0.bs b o e).1) (by rw [List.append_nil]; exact ul)
  rw [List.append_nil] at z
  exact F.run A outer s H _ us vs Q E hr e0 z r h
end Rw
namespace Rw
open PySem PySem.Spec PyProof.Rows L2
/-! ### rules: heads, denied, needs, bars -/
abbrev Rl := W × W × W × W
def parts (r : Rl) : List W := [r.1, r.2.1, r.2.2.1, r.2.2.2]
def rd (r : Rl) : PyData := .tuple ((parts r).map wd)
structure IsR (r : Rl) : Prop where
  h : IsW r.1
  d : IsW r.2.1
  n : IsW r.2.2.1
  b : IsW r.2.2.2
theorem IsR.all {r : Rl} (h : IsR r) : ∀ t ∈ parts r, IsW t := fun t ht => by
  unfold parts at ht
  simp only [List.mem_cons, List.mem_nil_iff, or_false] at ht
  rcases ht with e | e | e | e <;> subst e
  · exact h.h
  · exact h.d
  · exact h.n
  · exact h.b
theorem wds_inj : ∀ {a b : List W}, a.map wd = b.map wd → a = b
  | [], [], _ => rfl
  | [], _ :: _, h => by simp at h
  | _ :: _, [], h => by simp at h
  | x :: a, y :: b, h => by
    simp only [List.map_cons, List.cons.injEq] at h
    rw [wd_inj h.1, wds_inj h.2]
theorem rd_inj {p q : Rl} (h : rd p = rd q) : p = q := by
  unfold rd at h
  injection h with h
  have z := wds_inj h
  unfold parts at z
  simp only [List.cons.injEq, and_true] at z
  obtain ⟨h1, h2, h3, h4⟩ := z
  exact Prod.ext h1 (Prod.ext h2 (Prod.ext h3 h4))
theorem ok_rd (r : Rl) : okD (rd r) = true := by
  unfold rd
  rw [okD]
  exact okDs_wd _
theorem depthAll_wd : ∀ L : List W, PyData.depthAll (L.map wd) ≤ 1
  | [] => by simp [PyData.depthAll]
  | x :: L => by
    have := depthAll_wd L
    rw [List.map_cons, PyData.depthAll, depth_wd]
    omega
theorem depth_rd (r : Rl) : (rd r).depth ≤ 2 := by
  have := depthAll_wd (parts r)
  unfold rd
  rw [PyData.depth]
  omega
theorem good_rd (r : Rl) : Good (rd r) := ⟨ok_rd r, Nat.le_trans (depth_rd r) (by decide), ⟨_, rfl⟩⟩
theorem lay_wds : ∀ {L : List W}, (∀ t ∈ L, IsW t) → PyData.canLayAll0 (L.map wd) = true
  | [], _ => by simp [PyData.canLayAll0]
  | t :: L, h => by
    rw [List.map_cons, PyData.canLayAll0, lay_wds fun y hy => h y (List.mem_cons_of_mem _ hy), lay_wd (h t List.mem_cons_self).names]
    rfl
theorem lay_rd {r : Rl} (h : IsR r) : (rd r).canLay0 = true := by
  unfold rd
  rw [PyData.canLay0]
  exact lay_wds h.all
theorem shaped_rd {r : Rl} (h : IsR r) : SeqAt.shaped (rd r) = true := shaped_of (lay_rd h) (Nat.le_trans (depth_rd r) (by decide))
theorem alike_wds : ∀ a b : List W, PySem.W.alikeAll (a.map wd) (b.map wd) = true
  | [], _ => by simp [PySem.W.alikeAll]
  | _ :: _, [] => by simp [PySem.W.alikeAll]
  | x :: a, y :: b => by
    rw [List.map_cons, List.map_cons, PySem.W.alikeAll, alike_wds a b, alike_wd]
    rfl
theorem alike_rd (p q : Rl) : PySem.W.alike (rd p) (rd q) = true := by
  unfold rd
  rw [PySem.W.alike]
  exact alike_wds _ _
theorem eqv_wds : ∀ a b : List W, PyData.eqvAll (a.map wd) (b.map wd) = decide (a = b)
  | [], [] => by simp [PyData.eqvAll]
  | [], _ :: _ => by simp [PyData.eqvAll]
  | _ :: _, [] => by simp [PyData.eqvAll]
  | x :: a, y :: b => by
    rw [List.map_cons, List.map_cons, PyData.eqvAll, eqv_wds a b, eqv_wd]
    by_cases h : x = y
    · subst h
      by_cases h2 : a = b <;> simp [h2]
    · simp [h]
theorem eqv_rd (p q : Rl) : PyData.eqv (rd p) (rd q) = decide (p = q) := by
  have e : (p = q) ↔ (parts p = parts q) := ⟨fun h => by rw [h], fun h => rd_inj (by unfold rd; rw [h])⟩
  unfold rd
  rw [PyData.eqv, eqv_wds]
  by_cases h : parts p = parts q
  · rw [decide_eq_true h, decide_eq_true (e.mpr h)]
  · rw [decide_eq_false h, decide_eq_false fun z => h (e.mp z)]
theorem rules_one {R R' : List Rl} (r1 : Rising (R.map rd)) (r2 : Rising (R'.map rd)) (n1 : R.Nodup) (n2 : R'.Nodup) (h : ∀ p, p ∈ R ↔ p ∈ R') : R = R' :=
  rising_one alike_rd (fun p q e => by rw [eqv_rd] at e; exact of_decide_eq_true e) r1 r2 n1 n2 h
theorem okDs_rd (R : List Rl) : okDs (R.map rd) = true := okDs_all fun d hd => by
  obtain ⟨p, _, rfl⟩ := List.mem_map.mp hd
  exact ok_rd p
theorem all_rd : ∀ {ds : List PyData}, (∀ d ∈ ds, ∃ p, d = rd p) → ∃ R : List Rl, ds = R.map rd
  | [], _ => ⟨[], rfl⟩
  | d :: ds, h => by
    obtain ⟨p, rfl⟩ := h d List.mem_cons_self
    obtain ⟨R, rfl⟩ := all_rd fun e he => h e (List.mem_cons_of_mem _ he)
    exact ⟨p :: R, rfl⟩
theorem rd_mem {R : List Rl} {p : Rl} : rd p ∈ R.map rd ↔ p ∈ R :=
  ⟨fun h => by obtain ⟨q, hq, e⟩ := List.mem_map.mp h; rw [← rd_inj e]; exact hq, fun h => List.mem_map.mpr ⟨p, h, rfl⟩⟩
theorem Stay.rd {K : PySem.W.Frag} {H H' : Hp} {x : V} {r : Rl} (e : Stay H H') (h : Dp K H x (Rw.rd r)) : Dp K H' x (Rw.rd r) := e.dp _ _ (ok_rd r) h
theorem of_rd {K : PySem.W.Frag} {H : Hp} {x : V} {r : Rl} (h : Dp K H x (rd r)) : ∃ a v1 v2 v3 v4, x = .ref a ∧ SqT K H a [v1, v2, v3, v4] ∧ Dp K H v1 (wd r.1) ∧ Dp K H v2 (wd r.2.1) ∧ Dp K H v3 (wd r.2.2.1) ∧ Dp K H v4 (wd r.2.2.2) := by
  unfold rd parts at h
  cases h with
  | tup h1 h2 =>
    cases h2 with
    | cons a1 t =>
      cases t with
      | cons a2 t =>
        cases t with
        | cons a3 t =>
          cases t with
          | cons a4 t =>
            cases t
            exact ⟨_, _, _, _, _, rfl, h1, a1, a2, a3, a4⟩
theorem to_rd {K : PySem.W.Frag} {H : Hp} {a : Addr} {v1 v2 v3 v4 : V} {r : Rl} (h : SqT K H a [v1, v2, v3, v4]) (h1 : Dp K H v1 (wd r.1)) (h2 : Dp K H v2 (wd r.2.1)) (h3 : Dp K H v3 (wd r.2.2.1)) (h4 : Dp K H v4 (wd r.2.2.2)) : Dp K H (.ref a) (rd r) :=
  .tup h (.cons h1 (.cons h2 (.cons h3 (.cons h4 .nil))))
/-- a sorted list without repetition -/
structure Srt (S L : List Rl) : Prop where
  nd : S.Nodup
  ris : Rising (S.map rd)
  mem : ∀ p, p ∈ S ↔ p ∈ L
theorem Srt.one {S S' L L' : List Rl} (a : Srt S L) (b : Srt S' L') (h : ∀ p, p ∈ L ↔ p ∈ L') : S = S' := rules_one a.ris b.ris a.nd b.nd fun p => (a.mem p).trans ((h p).trans (b.mem p).symm)
/-! ### sorted(set(xs)) of rules -/
section
variable {X : Cx}
/-- set(xs), xs a list or a tuple of rules -/
def rSetR (K : PySem.W.Frag) (w : World) : List V → Hp → VK → Prop := fun vs H Q => ∃ (l : Addr) (xs : List V) (L : List Rl), vs = [.ref l] ∧ (SqL K H l xs ∨ SqT K H l xs) ∧ DpAll K H xs (L.map rd) ∧ L.length < 64 ∧
  ∀ a M, H a = none → (∀ p ∈ M, Good p.2 ∧ Dp K H (.ref p.1) p.2) → (∀ p ∈ M, ∃ r ∈ L, p.2 = rd r) → (∀ r ∈ L, rd r ∈ M.map (·.2)) → Q (.ref a) (upd H a (TSetO w a M))
theorem cr_setR (hc : X.calm = true) (hu : X.A.units + 64 < cLine) : CallR X (.type "set") (rSetR X.K X.w) := fun pins s σ H vs us Q I r ⟨l, xs, L, e, hl, hd, few, q⟩ =>
  cr_setT hc hu pins s σ H vs us Q I r ⟨l, xs, L.map rd, e, hl, hd, (fun d hd => by obtain ⟨p, _, rfl⟩ := List.mem_map.mp hd; exact good_rd p), by rw [List.length_map]; exact few, fun a M ha hM hall => by
    have isP : ∀ e ∈ M, ∃ p ∈ L, e.2 = rd p := fun e he => by
      obtain ⟨p, hp, ep⟩ := List.mem_map.mp (hM e he).1
      exact ⟨p, hp, ep.symm⟩
    refine q a M ha (fun e he => ?_) isP fun r hr => hall _ (List.mem_map.mpr ⟨r, hr, rfl⟩)
    obtain ⟨p, _, ep⟩ := isP e he
    exact ⟨by rw [ep]; exact good_rd p, (hM e he).2⟩⟩
/-- sorted(a set of rules) -/
def rSortR (K : PySem.W.Frag) (w : World) : List V → Hp → VK → Prop := fun vs H Q => ∃ (a : Addr) (M : List (Addr × PyData)) (L : List Rl), vs = [.ref a] ∧ H a = some (TSetO w a M) ∧ (∀ p ∈ M, Good p.2 ∧ Dp K H (.ref p.1) p.2) ∧ (∀ p ∈ M, ∃ r ∈ L, p.2 = rd r) ∧ (∀ r ∈ L, rd r ∈ M.map (·.2)) ∧
  ∀ (ys : List V) (S : List Rl) (p : Addr), Srt S L → S.length < 64 → DpAll K H ys (S.map rd) → H p = none → Q (.ref p) (upd H p (.lst ys))
theorem cr_sortR (hc : X.calm = true) (hu : X.A.units + 64 < cLine) : CallR X (.builtin "sorted") (rSortR X.K X.w) := fun pins s σ H vs us Q I r ⟨a, M, L, e, ha, hM, isP, hall, q⟩ =>
  cr_sortT hc hu pins s σ H vs us Q I r ⟨a, M, e, ha, hM, (fun d hd d' hd' => by
    obtain ⟨e, he, rfl⟩ := List.mem_map.mp hd
    obtain ⟨e', he', rfl⟩ := List.mem_map.mp hd'
    obtain ⟨p, _, ep⟩ := isP e he
    obtain ⟨p', _, ep'⟩ := isP e' he'
    rw [ep, ep']
    exact alike_rd p p'), fun ys ds p perm nd lt ris hys hp' => by
    obtain ⟨S, rfl⟩ := all_rd (ds := ds) fun d hd => by
      obtain ⟨e, he, rfl⟩ := List.mem_map.mp (perm.mem_iff.mp hd)
      obtain ⟨p, _, ep⟩ := isP e he
      exact ⟨p, ep⟩
    rw [List.length_map] at lt
    refine q ys S p ⟨nodup_of_map nd, ris, fun p => ?_⟩ lt hys hp'
    rw [← rd_mem, perm.mem_iff]
    constructor
    · intro hm
      obtain ⟨e, he, ee⟩ := List.mem_map.mp hm
      obtain ⟨p', hp', ep⟩ := isP e he
      rw [← rd_inj (ep.symm.trans ee)]
      exact hp'
    · intro hm
      exact hall _ hm⟩
end
end Rw
namespace Rw
open PySem PySem.Spec PyProof.Rows L2
/-! ### an error that was caught and kept -/
/-- an error of the class cls at a, whose own dict is d -/
def ExH (cls : Value) (d : Option Addr) (a : Addr) : HO := .ext fun h => ∃ oe vs, h.get? a = some oe ∧ Zc cls d oe ∧ oe.data = .fields vs
def wKeep (K : PySem.W.Frag) (c : Value) (i j : Nat) (D : Ends) : WX := fun cls d σ H => PySem.W.exmOne K cls c = some true ∧ ∀ a, H a = none → D.nx (((σ.set i (some (.ref a))).set j (some (.ref a))).set i none) (upd H a (ExH cls d a))
/-- an error's object is tracked from now on -/
theorem keep_inv {X : Cx} {pins : List (Addr × Obj)} {σ : L2.St} {H : Hp} {s : Shared} {a : Addr} {oe : Obj} {cls : Value} {d : Option Addr} {vs : Array Value} (I : Inv X pins σ H s) (he : s.heap.get? a = some oe) (hz : Zc cls d oe) (hd : oe.data = .fields vs) (hH : H a = none) (nL : a ≠ X.env.locals)
    (h0 : X.s_0.heap.get? a = none) (hp : ∀ p ∈ X.pn ++ pins, p.1 ≠ a) : Inv X pins σ (upd H a (ExH cls d a)) s := by
  have cell : ∀ x c, X.env.cells.lookup x = some c → c ≠ a := fun x c e z => by
    obtain ⟨v, o, h1, h2⟩ := I.cell x c e
    rw [z, he] at h1
    cases h1
    rw [hd] at h2
    cases h2
  refine ⟨I.ok, I.os, I.bare, ?_, I.loc, I.cell, ?_, fun x c e => ?_, fun p hpm => ?_, fun b o hb => ?_, I.len⟩
  · have u := I.base
    refine ⟨u.keep, u.slot, fun b o e1 e2 e3 => ?_, u.there, fun b xs e => ?_, fun b o w' e => ?_, fun b ps e => ?_⟩
    · have nb : b ≠ a := fun z => by
        rw [z, h0] at e1
        cases e1
      rw [upd_ne nb]
      exact u.free b o e1 e2 e3
    · have z := u.tups b xs e
      rw [upd_ne (ne_of_none z hH)]
      exact z
    · have z := u.frzs b o w' e
      rw [upd_ne (ne_of_none z hH)]
      exact z
    · obtain ⟨more, z⟩ := u.tbls b ps e
      refine ⟨more, ?_⟩
      rw [upd_ne (ne_of_none z hH)]
      exact z
  · rw [upd_ne nL.symm]
    exact I.free
  · rw [upd_ne (cell x c e)]
    exact I.freeC x c e
  · obtain ⟨p1, p2, p3⟩ := I.pin p hpm
    refine ⟨p1, ?_, p3⟩
    rw [upd_ne (hp p hpm)]
    exact p2
  · have new : ObjOk X.prog X.w (upd H a (ExH cls d a)) s.heap a (ExH cls d a) := ⟨⟨oe, vs, he, hz, hd⟩, ⟨oe, he⟩, fun h1 h2 ⟨oe', vs', e1, e2⟩ kk => ⟨oe', vs', kk oe' e1, e2⟩⟩
    by_cases e : b = a
    · subst e
      rw [upd_same] at hb
      cases hb
      exact new
    · rw [upd_ne e] at hb
      have same : ∀ (b' : Addr) (u : HO), H b' = some u → (upd H a (ExH cls d a)) b' = some u := fun b' u h => by
        rw [upd_ne (ne_of_none h hH)]
        exact h
      exact (I.hok b o hb).stay (fun _ _ _ e => e) (fun b' h => same b' _ h) fun b' xs h => same b' _ h
/-- try: body except x as n: y = n (every error of the body is an x) -/
theorem ps_try_keep {X : Cx} {x n y : Str} {c : Value} {i j : Nat} {body : List Stmt} {np pos pos' p1 p2 p3 : Pos} {tb : WX → TS} (hs : X.stack = X.env :: X.outer) (hf : X.env.frame = some X.env.locals) (hN : X.N.Nodup) (hi : X.N[i]? = some n) (hln : X.env.kindOf n = some .local) (hc : Names X x c)
    (hj : X.N[j]? = some y) (hyl : X.env.scope.names.lookup y = some .local) (hnl : X.env.scope.names.lookup n = some .local) (hex : X.ex = []) (hdb : (n == ("__debug__" : Str)) = false) (hcd : (n == ("__classdict__" : Str)) = false) (hsw : swapsWith (.Name n p2) (some (.Name y p1)) p3.line X.env = pure false)
    (hb : ∀ (W : WX) (pn : List (Addr × Obj)) (xe : Value → Shared → Prop), Takes (X.tr pn xe) W → PassesOwn (model X.prog X.w) X.A X.env xe → PSs (X.tr pn xe) body (tb W)) :
    PS X (.Try body [.ExceptHandler (some (.Name x np)) (some n) [.Assign [.Name y p1] (.Name n p2) p3] pos'] [] [] pos) (fun D σ H => tb (wKeep X.K c i j D) D σ H) := by
  refine ⟨fun pins s σ H D I h => ?_⟩
  have ok := I.ok
  have hfr : X.A.frames = some (X.env :: X.outer) := by rw [ok.frames, hs]
  have hloc : L2.Loc X.env.scope n := Or.inl hln
  refine wpAny_Try_except (wpAny_mono ((hb (wKeep X.K c i j D) (X.pn ++ pins) (fun e s₁ => wpAny (model X.prog X.w) X.A (noteFrame e X.env) (fun _ s₂ => wpAny (model X.prog X.w) X.A (setFlight e none) (fun _ s₃ => wpAny (model X.prog X.w) X.A (handleBy e X.env [.ExceptHandler (some (.Name x np)) (some n) [.Assign [.Name y p1] (.Name n p2) p3] pos']) (SP X pins D) X.xe s₃) X.xe s₂) X.xe s₁) ?_ PassesOwn.looking).run [] s σ H D (I.toTry _) h) ?_ fun e s1 he => he)
  · rintro u s' ⟨a, B, sI, pins', σ', H', cls, d, rfl, J', nb, up, sky, na, os, ag, hb1, hyes⟩
    have J := J'.ofTry ok
    have sky' : Sky B (X.env :: X.outer) a (Zc cls d) X.env.locals s'.heap := by
      rw [← hs]
      exact sky
    refine Sky.land Zc.steady hfr hf sky' fun h3 fl3 up3 => ?_
    have J3 := J.landed (s' := { heap := h3, gens := s'.gens, drawn := s'.drawn, toks := s'.toks, os := s'.os }) nb fl3.left (up.trans up3) os ag
    obtain ⟨oe3, vs3, he3, hz3, hd3⟩ := fl3.there
    have notFr : ∀ {h : Heap} {o : Obj} {vs : Array Value}, h.FunFrames B (X.env :: X.outer) → h.get? a = some o → o.data = .fields vs → a ∉ frs (X.env :: X.outer) := fun ff e dd hm => by
      obtain ⟨_, o', e', hnf⟩ := ff.mem hm
      rw [e] at e'
      cases e'
      exact hnf _ dd
    have nfr := notFr fl3.2.2.1 he3 hd3
    have nL : a ≠ X.env.locals := fun z => nfr (List.mem_filterMap.mpr ⟨X.env, List.mem_cons_self, by rw [hf, z]⟩)
    have nF : a ∉ X.fs := fun hm => by
      obtain ⟨e, he, q⟩ := List.mem_filterMap.mp hm
      exact nfr (List.mem_filterMap.mpr ⟨e, List.mem_cons_of_mem _ he, q⟩)
    have Ba : B.get? a = none := fl3.2.1
    have nfr' : a ∉ frs X.stack := by
      rw [hs]
      exact nfr
    have sIa : sI.heap.get? a = none := by
      cases e : sI.heap.get? a with
      | none => rfl
      | some o =>
        rw [nb a o e nfr'] at Ba
        cases Ba
    have h0 : X.s_0.heap.get? a = none := by
      cases e : X.s_0.heap.get? a with
      | none => rfl
      | some o =>
        obtain ⟨o', e'⟩ := J.base.there a o e (by rw [hex]; exact List.not_mem_nil)
        rw [sIa] at e'
        cases e'
    have hp : ∀ p ∈ X.pn ++ pins, p.1 ≠ a := fun p hpm z => by
      have := (J.pin p hpm).1
      rw [z, sIa] at this
      cases this
    have S3 := J3.suite he3 hd3 na nL nF
    have LT : ∀ (A : Around) (Q : Value → Shared → Prop) (E : Value → Shared → Prop) (s : Shared), (∀ b o, h3.get? b = some o → s.heap.get? b = some o) → Q cls s → wpAny (model X.prog X.w) A (typeOf (.ref a)) Q E s := fun A Q E s k q => wpAny_typeOf_ref (k a oe3 he3) (by rw [hz3.1]; exact q)
    refine wpAny_handleBy_cons (codeAny_handlers_test ?_) (by intro z; cases z)
    have LM := PySem.W.exm_one J3.kIn LT hb1
    have test : ∀ {Q : Value → Shared → Prop} {E : Value → Shared → Prop}, Q c { heap := h3, gens := s'.gens, drawn := s'.drawn, toks := s'.toks, os := s'.os } → wpAny (model X.prog X.w) (X.A.mark (some (.ref a))) (eval (.Name x np) X.env) Q E { heap := h3, gens := s'.gens, drawn := s'.drawn, toks := s'.toks, os := s'.os } := fun {Q E} q => by
      obtain ⟨hg, hdbg, hm | ⟨hm, hv, hnn⟩⟩ := hc
      · exact ld_glob (X := X.suite a ((a, oe3) :: (X.pn ++ pins))) S3 hg hm q hdbg
      · exact ld_blt (X := X.suite a ((a, oe3) :: (X.pn ++ pins))) S3 hg hm hv q hnn hdbg
    refine test (PySem.W.Looks.here LM ?_)
    refine codeAny_handlers_suite_as (HandSPX.lands_againZ fl3 fun h4 fl4 up4 => ?_)
    have J4 := J.landed (s' := { heap := h4, gens := s'.gens, drawn := s'.drawn, toks := s'.toks, os := s'.os }) nb fl4.left ((up.trans up3).trans up4) os ag
    obtain ⟨oe4, vs4, he4, hz4, hd4⟩ := fl4.there
    have S4 := J4.suite he4 hd4 na nL nF
    refine store_ok (X := X.suite a ((a, oe4) :: (X.pn ++ pins))) (v := .ref a) S4 hN hi hloc rfl (fun s5 S5 => ?_) (.inr hnl)
    have suite : PSs (X.suite a ((a, oe4) :: (X.pn ++ pins))) [.Assign [.Name y p1] (.Name n p2) p3] _ := pss_one (ps_asg (pe_var (i := i) hi (.inl hnl) hdb hcd) (pg_name (i := j) hN hj (.inl hyl) (.inr hyl)) hsw)
    have il : i < σ'.length := by
      rw [J.len]
      exact (List.getElem?_eq_some_iff.mp hi).1
    refine wpAny_mono (suite.run [] s5 (σ'.set i (some (.ref a))) H' { nx := fun σ6 H6 => σ6 = (σ'.set i (some (.ref a))).set j (some (.ref a)) ∧ H6 = H', rt := fun _ _ => False } S5 ⟨.ref a, by rw [List.getElem?_set_self il], rfl, rfl⟩) (fun f s6 hsp => ?_) fun e s' z => z.elim
    cases f with
    | next =>
      obtain ⟨σ6, H6, S6, rfl, rfl⟩ := hsp
      have he6 := (S6.pin (a, oe4) (List.mem_append_left _ List.mem_cons_self)).1
      have K6 := keep_inv (Inv.unsuite S6 ok) he6 hz4 hd4 na nL h0 hp
      exact gone_ok K6 hN hi hln fun s7 J7 => ⟨_, _, J7, hyes a na⟩
    | brk =>
      obtain ⟨_, _, _, z⟩ := hsp
      exact z.elim
    | cont =>
      obtain ⟨_, _, _, z⟩ := hsp
      exact z.elim
    | ret v =>
      obtain ⟨_, _, _, _, _, z⟩ := hsp
      exact z.elim
  · intro f s1 hsp
    cases f with
    | next =>
      obtain ⟨σ', H', J', q⟩ := hsp
      exact wpAny_execs_nil ⟨σ', H', J'.ofTry ok, q⟩
    | brk =>
      obtain ⟨σ', H', J', q⟩ := hsp
      exact ⟨σ', H', J'.ofTry ok, q⟩
    | cont =>
      obtain ⟨σ', H', J', q⟩ := hsp
      exact ⟨σ', H', J'.ofTry ok, q⟩
    | ret v =>
      obtain ⟨v', σ', H', J', r, q⟩ := hsp
      exact ⟨v', σ', H', J'.ofTry ok, r, q⟩
end Rw
namespace Rw
open PySem PySem.Spec PyProof.Rows L2
/-! ### what is asked of a kept error -/
open PySem.W in
theorem kin_classD {prog : Program} {w : World} {A : Around} {E : Value → Shared → Prop} {s : Shared} {K : PySem.W.Frag} {x D : Addr} {ox od : Obj} {Q : Option Value → Shared → Prop} (hga : PySem.W.findIn K (.ref D) "__getattribute__" = some (some (.builtin "BaseException.__getattribute__"))) (hgt : PySem.W.findIn K (.ref D) "__getattr__" = some none)
    (hsub : PySem.W.subIn K (.ref D) (.type "BaseException") = some true) (hdct : PySem.W.hasDictIn K D = true) (ha : PySem.W.findIn K (.ref D) "__class__" = some (some (.builtin "object.__class__"))) (hn : PySem.W.specialIn K (.builtin "object.__class__") "__get__" = some (some (.builtin "getset_descriptor.__get__"))) (htk : PySem.W.takesIn K (.builtin "object.__class__") = some true) (hm : PySem.W.mroIn K D (.type "object") = some true)
    (X : K.In s.heap) (I : PySem.W.InstAt s.heap x ox D (some od)) (h : Q (some (.ref D)) { heap := s.heap, gens := s.gens, drawn := s.drawn, toks := s.toks + 1, os := s.os }) : wpAny (model prog w) A (getAttr? (.ref x) "__class__") Q E s := by
  have hf := PySem.W.findObj_data (K := K) (C := D) (od := od) (by obtain ⟨cd, hc, _⟩ := PySem.W.any_some hdct; rw [hc]; rfl) ha hn htk
  obtain ⟨hp, g, d, t, os⟩ := s
  have L0 := PySem.W.InstAt.type (M := model prog w) I
  have L1 := PySem.W.looks_findIn (M := model prog w) X hga
  have L2 := PySem.W.looks_findIn (M := model prog w) X hgt
  have L3 := PySem.W.looks_find (M := model prog w) X I hf
  have sub : PySem.W.Looks (model prog w) hp (typeOf (.ref x) >>= fun t => isSubtype t (.type "BaseException")) true := PySem.W.Looks.andThen L0 (PySem.W.looks_subIn X hsub)
  unfold getAttr?
  refine wpAny_bind (wpAny_mkText (wpAny_bind (wpAny_attempt (wpAny_holding ?_))))
  refine wpAny_bind (PySem.W.Looks.at L0 (wpAny_bind (PySem.W.Looks.at L1 ?_)))
  have c1 : (onTheHeap (Value.ref D) && (Value.builtin "BaseException.__getattribute__" == Value.builtin "object.__getattribute__")) = false := by
    rw [show (Value.builtin "BaseException.__getattribute__" == Value.builtin "object.__getattribute__") = false by decide]
    rfl
  show wpAny _ _ (if (onTheHeap (Value.ref D) && (Value.builtin "BaseException.__getattribute__" == Value.builtin "object.__getattribute__")) = true then _ else _) _ _ _
  rw [c1, if_neg Bool.false_ne_true]
  unfold getAttrByItsOwn
  refine wpAny_bind ?_
  unfold hookBefore
  rw [if_pos (show onTheHeap (Value.ref D) = true from rfl)]
  refine PySem.W.Looks.at L2 (wpAny_bind (wpAny_attempt (wpAny_holding ?_)))
  unfold callGetattribute
  rw [if_neg (show ¬ ((false && onTheHeap (Value.builtin "BaseException.__getattribute__")) = true) from Bool.false_ne_true)]
  unfold boundAndCalled
  rw [F.excAttr_ValueError.ga.bind (Value.ref x)]
  refine wpAny_bind (wpAny_pure ?_)
  show wpAny _ _ (call (Value.builtin "BaseException.__getattribute__") [.ref x, .str "__class__" t]) _ _ _
  refine wpAny_call ?_
  refine codeAny_call_builtin (id := "BaseException.__getattribute__") (b := Builtin.«object.__getattribute__») F.excAttr_ValueError.ga.plain F.entry_bexc_ga ?_
  refine PySem.W.check_slot (i := "BaseException.__getattribute__") (owner := "BaseException") (n := "__getattribute__") (self := .ref x) (rest := [.str "__class__" t]) (kw := []) PySem.W.kin_classE._proof_2 PySem.W.kin_classE._proof_3 sub (F.args_bexc_ga (.ref x) (.str "__class__" t)) ?_
  unfold Builtin.«object.__getattribute__»
  refine wpAny_bind ?_
  refine wpAny_of_eq (a := (Value.ref x, [Value.str "__class__" t])) rfl ?_
  refine wpAny_bind (wpAny_pure (wpAny_bind (PySem.W.Looks.at L0 (wpAny_bind (PySem.W.Looks.at L3 ?_)))))
  unfold Builtin.ObjectAttr.bindTo
  refine wpAny_bind (wpAny_holding (wpAny_call (PySem.W.class_get X I hm (wpAny_pure ?_))))
  show wpAny (model prog w) A (handedOut (.ref D)) _ _ _
  rw [PySem.W.handedOut_of rfl]
  exact wpAny_pure (wpAny_pure h)
theorem cls_at {K : PySem.W.Frag} {D : Addr} (h : PySem.W.hasDictIn K D = true) : ∃ o cd, K.lookup D = some o ∧ o.data = .cls cd := by
  obtain ⟨cd, hc, _⟩ := PySem.W.any_some h
  unfold PySem.W.clsIn at hc
  split at hc
  · rename_i heq
    exact ⟨_, _, heq, rfl⟩
  · cases hc
theorem kitx_excD {K : PySem.W.Frag} {x D : Addr} {ox od : Obj} (C : ExcC K D) : PySem.W.KitX K (.ref x) (.ref D) (fun h => PySem.W.InstAt h x ox D (some od)) := by
  obtain ⟨⟨cl, dc, da, sl⟩, cd, ho, hd⟩ := cls_at C.hd
  refine ⟨fun M h X I => PySem.W.InstAt.type I, fun M h X _ => ?_, fun h tp dd its n sl' X htp => ?_, fun X I k => kin_classD C.hg C.hk C.hs C.hd C.ha C.hn C.ht C.hm X I k⟩
  · subst hd
    intro A' Q' E' s' k q
    exact wpAny_bind (wpAny_loadPart (k D _ (X D _ ho)) (wpAny_pure q))
  · refine Bool.eq_false_iff.mpr fun q => ?_
    have e := Value.ref.inj (beq_iff_eq.mp q)
    subst e
    have z := (X D _ ho).symm.trans htp
    cases z
    cases hd
/-- isinstance(caught, C): None, or a kept error -/
def rIsH (K : PySem.W.Frag) : List V → Hp → VK → Prop := fun xs H Q => ∃ (x c : V) (u : Value), xs = [x, c] ∧ (∀ v, RelV c v → v = u) ∧
  ((x = .non ∧ ∃ b, PySem.W.kitOne K (.type "NoneType") u = some b ∧ Q (.bl b) H) ∨
   (∃ (a D dd : Addr) (fs : List (Str × V)) (b : Bool), x = .ref a ∧ H a = some (ExH (.ref D) (some dd) a) ∧ H dd = some (.xd fs) ∧ ExcC K D ∧ PySem.W.kitOne K (.ref D) u = some b ∧ Q (.bl b) H))
theorem call_isH {X : Cx} : CallR X (.builtin "isinstance") (rIsH X.K) := by
  intro pins s σ H xs us Q I r h
  obtain ⟨x, c, u, rfl, hu, h⟩ := h
  cases r with
  | cons r1 r2 =>
    cases r2 with
    | cons r2 r3 =>
      cases r3
      obtain rfl := hu _ r2
      rcases h with ⟨rfl, b, hk, q⟩ | ⟨a, D, dd, fs, b, rfl, ha, hd, C, hk, q⟩
      · cases r1
        exact PySem.W.kia_one PySem.W.kitx_none I.kIn trivial hk (fun z => nomatch z) fun tk => ⟨.bl b, H, I.tok _, rfl, q⟩
      · obtain ⟨oe, vs, hget, hz, hdat⟩ := (I.hok a _ ha).1
        obtain ⟨mA, hns, hr⟩ := I.hok dd _ hd
        obtain ⟨od, ho, hl⟩ := lookIn_ns hns
        have J : PySem.W.InstAt s.heap a oe D (some od) := ⟨hget, hz.1, by unfold PySem.W.notCls; rw [hdat] <;> rfl, by rw [hz.2]; exact ho⟩
        rw [show _ = Value.ref a from r1]
        exact PySem.W.kia_one (kitx_excD C) I.kIn J hk (fun z => nomatch z) fun tk => ⟨.bl b, H, I.tok _, rfl, q⟩
/-- caught.n -/
def tFldH (C : Addr) (n : Str) (te : TE) : TE := fun σ H Q => te σ H fun x H1 => ∃ (a dd : Addr) (fs : List (Str × V)) (v : V), x = .ref a ∧ H1 a = some (ExH (.ref C) (some dd) a) ∧ H1 dd = some (.xd fs) ∧ fs.lookup n = some v ∧ Q v H1
theorem pe_fldH {X : Cx} {C : Addr} {e : Expr} {te : TE} {pos : Pos} {n : Str} (T : XfC X.K C) (hno : PySem.W.findIn X.K (.ref C) n = some none) (he : PE X e te) (hb : attributeBase e n X.env (eval e X.env) = eval e X.env := by rfl) : PE X (.Attribute e n pos) (tFldH C n te) := by
  refine ⟨fun pins s σ H Q I h => attr_of hb (thn (he.run pins s σ H _ I h) fun u s1 ⟨x, H1, I1, rx, a, dd, fs, v, ex, ha, hdd, l, q⟩ => ?_)⟩
  subst ex
  obtain rfl : u = Value.ref a := rx
  obtain ⟨oe, vs, hget, hz, hdat⟩ := (I1.hok a _ ha).1
  obtain ⟨mA, hns, hr⟩ := I1.hok dd _ hdd
  obtain ⟨od, ho, hl⟩ := lookIn_ns hns
  obtain ⟨u, hu, ru⟩ := RelO.some_of (v := v) (o := mA n) (by rw [← l]; exact hr n)
  have J : PySem.W.InstAt s1.heap a oe C (some od) := ⟨hget, hz.1, by unfold PySem.W.notCls; rw [hdat] <;> rfl, by rw [hz.2]; exact ho⟩
  exact HandSPX.exc_get I1.kIn J T.ga T.gg T.exC (PySem.W.findObj_own T.hdC hno rfl (by rw [hl, hu])) (handed_of ru) ⟨v, H1, I1.tok _, ru, q⟩
end Rw
namespace Rw
open PySem PySem.Spec PyProof.Rows L2
/-! ### own errors with one field -/
/-- __init__(self, n): self.n = n -/
def spErr (C : Addr) (n : Str) : Sp := fun vs H Q _ => ∃ (a : Addr) (v : V), vs = [.ref a, v] ∧ H a = some (exo a C none) ∧ ∀ dx, H dx = none → dx ≠ a → Q .non (upd (upd H dx (exd dx [(n, v)])) a (exo a C (some dx)))
/-- C(v) made: what its making asks -/
theorem err_made {C : Addr} {n : Str} {v : V} {H1 : Hp} {Q : XK} (h : ∀ d, H1 d = none → Q (.ref C) (some d) (upd H1 d (.xd [(n, v)]))) : [v].length ≤ 1000 ∧ ∀ a : Addr, H1 a = none → spErr C n (.ref a :: ([v] ++ [])) (upd H1 a (exo a C none))
    (fun u H2 => u = .non ∧ ∃ d fs, H2 a = some (exo a C (some d)) ∧ H2 d = some (exd d fs) ∧ H1 d = none ∧ Q (.ref C) (some d) (upd (del H2 a) d (.xd fs))) (fun _ _ _ => False) := by
  refine ⟨by simp, fun a ha => ⟨a, v, rfl, upd_same, fun dx hdx ne => ?_⟩⟩
  have hd1 : H1 dx = none := by
    rw [upd_ne ne] at hdx
    exact hdx
  refine ⟨rfl, dx, [(n, v)], upd_same, ?_, hd1, ?_⟩
  · rw [upd_ne ne, upd_same]
  · have e : upd (del (upd (upd (upd H1 a (exo a C none)) dx (exd dx [(n, v)])) a (exo a C (some dx))) a) dx (.xd [(n, v)]) = upd H1 dx (.xd [(n, v)]) := by
      funext b
      by_cases h1 : b = dx
      · subst h1
        rw [upd_same, upd_same]
      · rw [upd_ne h1, upd_ne h1]
        by_cases h2 : b = a
        · subst h2
          unfold del
          rw [ha]
          simp
        · unfold del
          rw [if_neg h2, upd_ne h2, upd_ne h1, upd_ne h2]
    rw [e]
    exact h dx hd1
end Rw
namespace Rw
open PySem PySem.Spec PyProof.Rows L2
/-! ### the text -/
def topS (i : Nat) : Stmt := PySem.Challenge.pw_ruleworlds_k32_splitting.main.body.getD i (.Pass ⟨0, 0, 0, 0⟩)
abbrev sIsName : Stmt := topS 11
abbrev sIsWorld : Stmt := topS 12
abbrev sIsRule : Stmt := topS 13
abbrev sAreNames : Stmt := topS 15
abbrev sSetOf : Stmt := topS 16
abbrev sInit : Stmt := inClass (topS 14) 0
abbrev sOf : Stmt := inClass (topS 14) 1
abbrev sRules : Stmt := inClass (topS 14) 5
theorem scIsName : FnScope ["thing", "letter"] ["thing"] (defScope sIsName) := ⟨rfl, rfl, rfl, by decide +kernel, rfl, by decide +kernel, by decide +kernel⟩
theorem scIsWorld : FnScope ["thing"] ["thing"] (defScope sIsWorld) := ⟨rfl, rfl, rfl, by decide +kernel, rfl, by decide +kernel, by decide +kernel⟩
theorem scIsRule : FnScope ["thing", "part"] ["thing"] (defScope sIsRule) := ⟨rfl, rfl, rfl, by decide +kernel, rfl, by decide +kernel, by decide +kernel⟩
theorem scAreNames : FnScope ["thing", "item"] ["thing"] (defScope sAreNames) := ⟨rfl, rfl, rfl, by decide +kernel, rfl, by decide +kernel, by decide +kernel⟩
theorem scSetOf : FnScope ["names"] ["names"] (defScope sSetOf) := ⟨rfl, rfl, rfl, by decide +kernel, rfl, by decide +kernel, by decide +kernel⟩
theorem scInit : FnScope ["self", "rules", "place", "row"] ["self", "rules"] (defScope sInit) := ⟨rfl, rfl, rfl, by decide +kernel, rfl, by decide +kernel, by decide +kernel⟩
theorem scOf : FnScope ["cls", "rules"] ["cls", "rules"] (defScope sOf) := ⟨rfl, rfl, rfl, by decide +kernel, rfl, by decide +kernel, by decide +kernel⟩
theorem scRules : FnScope ["self"] ["self"] (defScope sRules) := ⟨rfl, rfl, rfl, by decide +kernel, rfl, by decide +kernel, by decide +kernel⟩
/-- the built-in names that the text does not bind -/
structure Bl (mg : Str → Option Value) : Prop where
  len : mg "len" = none
  isi : mg "isinstance" = none
  all : mg "all" = none
  any : mg "any" = none
  tuple : mg "tuple" = none
  list : mg "list" = none
  sorted : mg "sorted" = none
  set : mg "set" = none
  str : mg "str" = none
  int : mg "int" = none
  max : mg "max" = none
  min : mg "min" = none
  range : mg "range" = none
  enum : mg "enumerate" = none
/-! ### odd values -/
def nameD : PyData → Bool
  | .str x => nameB x
  | _ => false
def oddN : PyData → Prop
  | .str x => x.cps.size ≤ 10000
  | .bool _ => False
  | .dict _ => False
  | _ => True
def tyName : PyData → String
  | .none => "NoneType"
  | .bool _ => "bool"
  | .int _ => "int"
  | .str _ => "str"
  | .list _ => "list"
  | .tuple _ => "tuple"
  | .dict _ => "dict"
theorem tyx_dp {K : PySem.W.Frag} {H : Hp} {x : V} {d : PyData} (h : Dp K H x d) : TyX K H x (.type (tyName d)) := by
  cases h with
  | non => exact .base .non
  | bl b => exact .base (.bl b)
  | int i => exact .base (.int i)
  | str x => exact .base (.str x)
  | lst h1 _ =>
    rcases h1 with (h | ⟨o, h⟩) | ⟨o, its, n, h1, h2, _⟩
    · exact .base (.lst h)
    · exact .base (.frz h)
    · exact .kList h1 h2
  | tup h1 _ => exact tyx_tup h1
section
variable {K : PySem.W.Frag} {H H' : Hp}
mutual
theorem dp_same (e : Same H H') : ∀ (d : PyData) (x : V), Dp K H x d → Dp K H' x d
  | .none, _, h => by cases h; exact .non
  | .bool _, _, h => by cases h; exact .bl _
  | .int _, _, h => by cases h; exact .int _
  | .str _, _, h => by cases h; exact .str _
  | .list ds, _, h => by
    cases h with
    | lst h1 h2 => exact .lst (e.seq h1) (dpAll_same e ds _ h2)
  | .tuple ds, _, h => by
    cases h with
    | tup h1 h2 => exact .tup (same_tup e h1) (dpAll_same e ds _ h2)
  | .dict _, _, h => by cases h
theorem dpAll_same (e : Same H H') : ∀ (ds : List PyData) (xs : List V), DpAll K H xs ds → DpAll K H' xs ds
  | [], _, h => by cases h; exact .nil
  | d :: ds, _, h => by
    cases h with
    | cons h1 h2 => exact .cons (dp_same e d _ h1) (dpAll_same e ds _ h2)
end
end
theorem letter_in {c : Nat} : decide (c ∈ lettersS.cps.toList) = letter c := by
  cases h : letter c with
  | true => exact decide_eq_true (in_letters h)
  | false =>
    refine decide_eq_false fun m => ?_
    have all : (lettersS.cps.toList.all letter) = true := by decide +kernel
    rw [List.all_eq_true.mp all c m] at h
    exact nomatch h
section
variable {P : Program} {w : World} {K : PySem.W.Frag} {mg : Str → Option Value} {base : Heap} {f : Addr} {fd : FuncData} {k : Nat}
/-! ### is_name -/
def spIsName (K : PySem.W.Frag) : Sp := fun vs H Q _ => ∃ (x : V) (d : PyData), vs = [x] ∧ Dp K H x d ∧ oddN d ∧ ∀ H', Same H H' → Q (.bl (nameD d)) H'
theorem ok_isName (F : Fun K "is_name" "is_name" sIsName f fd) (T : Bl mg) (mL : ∃ t, mg "LETTERS" = some (.str lettersS t)) : FnOk P w K mg base CX0 (k + 1) f fd ["thing"] (spIsName K) := by
  refine F.ok scIsName (fun vs H Q E h => ?_) (fun cdv A outer s H vs Q E hr h => ?_)
  · obtain ⟨x, d, rfl, _⟩ := h
    rfl
  obtain ⟨x, d, rfl, hd, odd, q⟩ := h
  obtain ⟨tl, mL⟩ := mL
  refine ⟨_, pss_cons (ps_if (PW.pt (pw_or (pt_not (pt_val (pe_callB call_isi (by rfl) T.isi PyProof.Rows.boot_isinstance (pa_cons (pv 0) (pa_cons (pe_bltn (v := .ty "str") (by rfl) T.str (by decide +kernel) rfl) pa_nil)))))
      (pw_or1 (pt_cmpR op_eq (pv 0) pe_str (nomark _))))) (pss_one (ps_ret pe_bl)) pss_nil)
    (pss_one (ps_ret (pe_and (pe_chain op_le op_le pe_int (pe_callB call_len_str (by rfl) T.len PySem.boot_len (pa_cons (pv 0) pa_nil)) pe_int)
      (pe_one (pe_callB (cr_all rfl) (by rfl) T.all (by decide +kernel) (pa_cons (pe_lc (own := [("letter", 1)]) (g := gName 1) (by rfl) scIsName.nd (pi_str (pv 0)) (blkOk_by (N := ["thing", "letter"]) (sc := defScope sIsName) (by decide +kernel))
        (fun _ _ _ _ _ => pg_name (i := 1) scIsName.nd rfl (Or.inl rfl)) (fun _ _ _ _ _ => pts_nil) (fun _ _ _ _ _ => pe_cmpR op_in_sign (pv 1) (pe_glob (v := .str lettersS) (by rfl) mL ⟨_, rfl⟩) (by rfl))) pa_nil)))))), ?_⟩
  have cases' : (∃ t : String, TyX K H x (.type t) ∧ PySem.W.kitOne K (.type t) (.type "str") = some false ∧ nameD d = false) ∨ ∃ z, d = .str z := by
    have ty := tyx_dp hd
    cases d with
    | none => exact .inl ⟨"NoneType", ty, kit_ty (by decide +kernel), rfl⟩
    | bool _ => exact absurd odd id
    | dict _ => exact absurd odd id
    | int i => exact .inl ⟨"int", ty, kit_ty (by decide +kernel), rfl⟩
    | list ds => exact .inl ⟨"list", ty, kit_ty (by decide +kernel), rfl⟩
    | tuple ds => exact .inl ⟨"tuple", ty, kit_ty (by decide +kernel), rfl⟩
    | str z => exact .inr ⟨z, rfl⟩
  rcases cases' with ⟨t, h1, h2, h3⟩ | ⟨z, rfl⟩
  · refine ⟨x, rfl, x, .ty "str", .type t, .type "str", false, rfl, .ty "str", h1, h2, false, rfl, iteT ?_⟩
    have := q H fun _ _ e => e
    rw [h3] at this
    exact this
  · cases hd
    have few : z.cps.size ≤ 10000 := odd
    refine ⟨.str z, rfl, .str z, .ty "str", .type "str", .type "str", true, rfl, .ty "str", .base (.str z), kit_ty (by decide +kernel), true, rfl, ?_⟩
    refine ⟨.str z, rfl, rfl, _, rfl, ?_⟩
    refine ite2 (fun e => ?_) (fun e => ?_)
    · have ez : z = notS := V.str.inj (of_decide_eq_true e)
      have en : nameB z = false := by
        rw [ez]
        decide +kernel
      have := q H fun _ _ e => e
      rw [show nameD (.str z) = nameB z from rfl, en] at this
      exact this
    · have nz : z ≠ notS := fun h => e (decide_eq_true (by rw [h]; rfl))
      have val : nameB z = (decide (1 ≤ z.cps.size) && (decide (z.cps.size ≤ 8) && z.cps.toList.all letter)) := by
        unfold nameB
        rw [decide_eq_false nz]
        cases z.cps.toList.all letter <;> cases decide (1 ≤ z.cps.size) <;> cases decide (z.cps.size ≤ 8) <;> rfl
      have q' : ∀ H', Same H H' → Q (.bl (decide (1 ≤ z.cps.size) && (decide (z.cps.size ≤ 8) && z.cps.toList.all letter))) H' := fun H' s => by
        have := q H' s
        rw [show nameD (.str z) = nameB z from rfl, val] at this
        exact this
      refine ⟨.str z, rfl, z, rfl, small_line few, 1, z.length, rfl, rfl, decide ((1 : Int) ≤ (z.length : Int)), rfl, ite2 (fun e1 => ?_) (fun e1 => ?_)⟩
      · have h1 : decide (1 ≤ z.cps.size) = true := by
          have := of_decide_eq_true e1
          exact decide_eq_true (by have : (1 : Int) ≤ (z.cps.size : Int) := this; omega)
        rw [h1] at q'
        refine ⟨z.length, 8, rfl, rfl, decide ((z.length : Int) ≤ 8), rfl, ite2 (fun e2 => ?_) (fun e2 => ?_)⟩
        · have h2 : decide (z.cps.size ≤ 8) = true := by
            have := of_decide_eq_true e2
            exact decide_eq_true (by have : (z.cps.size : Int) ≤ 8 := this; omega)
          rw [h2] at q'
          refine ⟨.str z, rfl, z, rfl, fun D hD => ?_⟩
          have s1 : Same H (upd H D (.lst [])) := same_new hD _
          refine lc_sgn (x := z) (fun i H1 => Same H H1 ∧ H1 D = some (.lst ((z.cps.toList.take i).map fun c => V.bl (letter c)))) ⟨s1, upd_same⟩ (fun i c H1 hc hI => ?_) (fun H1 hI => ?_)
          · obtain ⟨sm, hd⟩ := hI
            have hc' : z.cps.toList[i]? = some c := by rw [Array.getElem?_toList]; exact hc
            have il : i < z.cps.size := (Array.getElem?_eq_some_iff.mp hc).1
            refine ⟨rfl, .str ⟨#[c]⟩, rfl, c, lettersS, rfl, rfl, ?_⟩
            rw [letter_in]
            refine ⟨_, hd, small_line' (by rw [List.length_map, List.length_take, Array.length_toList]; omega), same_put sm hD, ?_⟩
            rw [upd_same, take_snoc hc', List.map_append]
            rfl
          · obtain ⟨sm, hd⟩ := hI
            rw [show z.cps.size = z.cps.toList.length by rw [Array.length_toList], List.take_length] at hd
            refine ⟨D, z.cps.toList.map letter, rfl, SqL.of (by rw [List.map_map]; exact hd), ?_⟩
            have eq : (z.cps.toList.map letter).all id = z.cps.toList.all letter := by
              rw [List.all_map]
              rfl
            rw [eq]
            exact q' H1 sm
        · have h2 : decide (z.cps.size ≤ 8) = false := decide_eq_false fun h => e2 (decide_eq_true (by show (z.cps.size : Int) ≤ 8; omega))
          rw [h2] at q'
          exact q' H fun _ _ e => e
      · have h1 : decide (1 ≤ z.cps.size) = false := decide_eq_false fun h => e1 (decide_eq_true (by show (1 : Int) ≤ (z.cps.size : Int); omega))
        rw [h1] at q'
        exact ⟨false, rfl, iteF (q' H fun _ _ e => e)⟩
end
end Rw
namespace Rw
open PySem PySem.Spec PyProof.Rows L2
/-! ### worlds of odd values -/
def strOf : PyData → Str
  | .str x => x
  | _ => notS
theorem strs_of : ∀ {ds : List PyData}, ds.all nameD = true → ds = (ds.map strOf).map PyData.str ∧ ∀ x ∈ ds.map strOf, nameB x = true
  | [], _ => ⟨rfl, fun x hx => nomatch hx⟩
  | d :: ds, h => by
    rw [List.all_cons, Bool.and_eq_true] at h
    obtain ⟨h1, h2⟩ := h
    obtain ⟨e, hn⟩ := strs_of h2
    cases d with
    | str x =>
      refine ⟨by rw [List.map_cons, List.map_cons, ← e]; rfl, fun y hy => ?_⟩
      rw [List.map_cons] at hy
      rcases List.mem_cons.mp hy with z | hy
      · rw [z]
        exact h1
      · exact hn y hy
    | _ => exact absurd h1 (by simp [nameD])
instance (ns : W) : Decidable (UpX ns) := inferInstanceAs (Decidable (ns.Pairwise fun a b => a.cps.toList < b.cps.toList))
def worldD : PyData → Bool
  | .tuple ds => ds.all nameD && decide (UpX (ds.map strOf))
  | _ => false
def oddW : PyData → Prop
  | .tuple ds => (∀ d ∈ ds, oddN d) ∧ ds.length ≤ 40
  | .bool _ => False
  | .dict _ => False
  | _ => True
theorem worldD_wd {ns : W} (h : IsW ns) : worldD (wd ns) = true := by
  unfold worldD wd
  have e1 : ((ns.map PyData.str).all nameD) = true := by
    rw [List.all_map, List.all_eq_true]
    exact fun x hx => h.names x hx
  have e2 : (ns.map PyData.str).map strOf = ns := by
    rw [List.map_map]
    exact List.map_id' ns
  show ((ns.map PyData.str).all nameD && decide (UpX ((ns.map PyData.str).map strOf))) = true
  rw [e1, e2, decide_eq_true h.up]
  rfl
theorem worldD_of {d : PyData} (o : oddW d) (h : worldD d = true) : ∃ ns, IsW ns ∧ d = wd ns := by
  cases d with
  | tuple ds =>
    have h' : (ds.all nameD && decide (UpX (ds.map strOf))) = true := h
    rw [Bool.and_eq_true] at h'
    obtain ⟨h1, h2⟩ := h'
    obtain ⟨e, hn⟩ := strs_of h1
    refine ⟨ds.map strOf, ⟨hn, of_decide_eq_true h2, by rw [List.length_map]; exact o.2⟩, ?_⟩
    unfold wd
    rw [← e]
  | _ => exact nomatch h
theorem oddN_name {x : Str} (h : nameB x = true) : oddN (.str x) := by
  obtain ⟨_, _, h3, _⟩ := nameB_iff.mp h
  show x.cps.size ≤ 10000
  omega
theorem oddW_wd {ns : W} (h : IsW ns) : oddW (wd ns) := ⟨fun d hd => by
  obtain ⟨x, hx, rfl⟩ := List.mem_map.mp hd
  exact oddN_name (h.names x hx), by rw [List.length_map]; exact h.few⟩
theorem shaped_names {ns : W} (h : ∀ x ∈ ns, nameB x = true) : SeqAt.shaped (wd ns) = true := shaped_of (lay_wd h) (by rw [depth_wd]; decide)
section
variable {P : Program} {w : World} {K : PySem.W.Frag} {mg : Str → Option Value} {base : Heap} {f : Addr} {fd : FuncData} {k : Nat}
def spAreNames (K : PySem.W.Frag) : Sp := fun vs H Q _ => ∃ (a : Addr) (xs : List V) (ds : List PyData), vs = [.ref a] ∧ SqT K H a xs ∧ DpAll K H xs ds ∧ (∀ d ∈ ds, oddN d) ∧ ds.length ≤ 1000 ∧ ∀ H', Same H H' → Q (.bl (ds.all nameD)) H'
theorem ok_areNames {f1 : Addr} {fd1 : FuncData} (F : Fun K "_are_names" "_are_names" sAreNames f fd) (T : Bl mg) (G : FnOk P w K mg base CX0 k f1 fd1 ["thing"] (spIsName K)) (b1 : Binds K fd1 ["thing"] []) (k1 : PySem.W.keepIn K (.ref f1) = true) (m1 : mg "is_name" = some (.ref f1)) :
    FnOk P w K mg base CX0 (k + 1) f fd ["thing"] (spAreNames K) := by
  refine F.ok scAreNames (fun vs H Q E h => ?_) (fun cdv A outer s H vs Q E hr h => ?_)
  · obtain ⟨a, xs, ds, rfl, _⟩ := h
    rfl
  obtain ⟨a, xs, ds, rfl, hS, hx, odd, few, q⟩ := h
  have xl := dpAll_len hx
  refine ⟨_, pss_one (ps_ret (pe_and (pe_isiTL (pv 0) (by rfl) T.isi (pa_cons (pe_bltn (v := .ty "tuple") (by rfl) T.tuple (by decide +kernel) rfl) (pa_cons (pe_bltn (v := .ty "list") (by rfl) T.list (by decide +kernel) rfl) pa_nil)))
      (pe_one (pe_callB (cr_all rfl) (by rfl) T.all (by decide +kernel) (pa_cons (pe_lc (own := [("item", 1)]) (g := gName 1) (by rfl) scAreNames.nd (pi_tup (pv 0)) (blkOk_by (N := ["thing", "item"]) (sc := defScope sAreNames) (by decide +kernel))
        (fun _ _ _ _ _ => pg_name (i := 1) scAreNames.nd rfl (Or.inl rfl)) (fun _ _ _ _ _ => pts_nil) (fun _ _ _ _ _ => pe_call G hr (by rfl) m1 k1 b1 .nil pass0 (pa_cons (pv 1) pa_nil))) pa_nil))))), ?_⟩
  refine ⟨.ref a, rfl, ⟨a, _, rfl, hS⟩, fun T0 hT => ⟨true, rfl, iteT ?_⟩⟩
  have s0 : Same H (upd H T0 (.tup [.ty "tuple", .ty "list"])) := same_new hT _
  generalize upd H T0 (.tup [.ty "tuple", .ty "list"]) = H0 at s0 ⊢
  refine ⟨.ref a, rfl, a, rfl, ⟨_, same_tup s0 hS⟩, fun D hD => ?_⟩
  have s1 : Same H0 (upd H0 D (.lst [])) := same_new hD _
  refine lc_tup (xs := xs) (fun i H1 => Same H0 H1 ∧ H1 D = some (.lst ((ds.take i).map fun d => V.bl (nameD d)))) ⟨s1, upd_same⟩ (fun i H1 _ hI => same_tup (s0.trans hI.1) hS) (fun i x H1 hxi hI => ?_) (fun H1 hI => ?_)
  · obtain ⟨sm, hd⟩ := hI
    obtain ⟨d, hdi, hxd⟩ := dpAll_at' hx hxi
    have il : i < ds.length := (List.getElem?_eq_some_iff.mp hdi).1
    refine ⟨rfl, x, rfl, x, d, rfl, dp_same (s0.trans sm) _ _ hxd, odd d (List.mem_of_getElem? hdi), fun H2 sm2 => ⟨_, sm2 _ _ hd, small_line' (by rw [List.length_map, List.length_take]; omega), same_put (sm.trans sm2) hD, ?_⟩⟩
    rw [upd_same, take_snoc hdi, List.map_append]
    rfl
  · obtain ⟨sm, hd⟩ := hI
    rw [xl, List.take_length] at hd
    refine ⟨D, ds.map nameD, rfl, SqL.of (by rw [List.map_map]; exact hd), ?_⟩
    have z : (ds.map nameD).all id = ds.all nameD := by
      rw [List.all_map]
      rfl
    rw [z]
    exact q H1 (s0.trans sm)
/-! ### _set_of -/
def spSetOf (K : PySem.W.Frag) : Sp := fun vs H Q _ => ∃ (a : Addr) (ns : W), vs = [.ref a] ∧ (SqL K H a (ns.map V.str) ∨ SqT K H a (ns.map V.str)) ∧ ns.length < 1000 ∧ ∀ (H' : Hp) (p : Addr) (zs : W), Same H H' → H' p = some (.tup (zs.map V.str)) → UpX zs → (∀ z, z ∈ zs ↔ z ∈ ns) → Q (.ref p) H'
theorem ok_setOf (F : Fun K "_set_of" "_set_of" sSetOf f fd) (T : Bl mg) : FnOk P w K mg base CX0 (k + 1) f fd ["names"] (spSetOf K) := by
  refine F.ok scSetOf (fun vs H Q E h => ?_) (fun cdv A outer s H vs Q E hr h => ?_)
  · obtain ⟨a, ns, rfl, _⟩ := h
    rfl
  obtain ⟨a, ns, rfl, hS, few, q⟩ := h
  refine ⟨_, pss_one (ps_ret (pe_callTy call_tuple_of (by rfl) T.tuple (by decide +kernel) (pa_cons (pe_callB (cr_sortX rfl hr.units) (by rfl) T.sorted (by decide +kernel) (pa_cons (pe_callTy (cr_setX rfl hr.units) (by rfl) T.set (by decide +kernel) (pa_cons (pv 0) pa_nil)) pa_nil)) pa_nil))), ?_⟩
  refine ⟨.ref a, rfl, a, ns, rfl, hS, few, fun b ms hb nd hm hl => ?_⟩
  refine ⟨b, ms, rfl, upd_same, by omega, fun zs p hz nz hlz rz hp => ?_⟩
  refine ⟨p, zs.map V.str, rfl, .inl ⟨SqL.of upd_same, fun l hl2 => ?_⟩⟩
  exact q _ l zs ((same_new hb _).trans ((same_new hp _).trans (same_new hl2 _))) upd_same (upX_of rz nz) fun z => (hz z).trans (hm z)
/-! ### is_world -/
def spIsWorld (K : PySem.W.Frag) : Sp := fun vs H Q _ => ∃ (x : V) (d : PyData), vs = [x] ∧ Dp K H x d ∧ oddW d ∧ ∀ H', Same H H' → Q (.bl (worldD d)) H'
theorem ok_isWorld {f1 f2 : Addr} {fd1 fd2 : FuncData} (F : Fun K "is_world" "is_world" sIsWorld f fd) (T : Bl mg) (G1 : FnOk P w K mg base CX0 k f1 fd1 ["thing"] (spAreNames K)) (b1 : Binds K fd1 ["thing"] []) (k1 : PySem.W.keepIn K (.ref f1) = true) (m1 : mg "_are_names" = some (.ref f1))
    (G2 : FnOk P w K mg base CX0 k f2 fd2 ["names"] (spSetOf K)) (b2 : Binds K fd2 ["names"] []) (k2 : PySem.W.keepIn K (.ref f2) = true) (m2 : mg "_set_of" = some (.ref f2)) : FnOk P w K mg base CX0 (k + 1) f fd ["thing"] (spIsWorld K) := by
  refine F.ok scIsWorld (fun vs H Q E h => ?_) (fun cdv A outer s H vs Q E hr h => ?_)
  · obtain ⟨x, d, rfl, _⟩ := h
    rfl
  obtain ⟨x, d, rfl, hx, odd, q⟩ := h
  refine ⟨_, pss_one (ps_ret (pe_and (pe_callB call_isi (by rfl) T.isi PyProof.Rows.boot_isinstance (pa_cons (pv 0) (pa_cons (pe_bltn (v := .ty "tuple") (by rfl) T.tuple (by decide +kernel) rfl) pa_nil)))
    (pe_and (pe_call G1 hr (by rfl) m1 k1 b1 .nil pass0 (pa_cons (pv 0) pa_nil)) (pe_one (pe_cmpR (op_eqD hr.units) (pv 0) (pe_call G2 hr (by rfl) m2 k2 b2 .nil pass0 (pa_cons (pv 0) pa_nil)) (nomark _)))))), ?_⟩
  have cases' : (∃ t : String, TyX K H x (.type t) ∧ PySem.W.kitOne K (.type t) (.type "tuple") = some false ∧ worldD d = false) ∨ ∃ ds, d = .tuple ds := by
    have ty := tyx_dp hx
    cases d with
    | none => exact .inl ⟨"NoneType", ty, kit_ty (by decide +kernel), rfl⟩
    | bool _ => exact absurd odd id
    | dict _ => exact absurd odd id
    | int i => exact .inl ⟨"int", ty, kit_ty (by decide +kernel), rfl⟩
    | list ds => exact .inl ⟨"list", ty, kit_ty (by decide +kernel), rfl⟩
    | str z => exact .inl ⟨"str", ty, kit_ty (by decide +kernel), rfl⟩
    | tuple ds => exact .inr ⟨ds, rfl⟩
  rcases cases' with ⟨t, h1, h2, h3⟩ | ⟨ds, rfl⟩
  · refine ⟨x, rfl, x, .ty "tuple", .type t, .type "tuple", false, rfl, .ty "tuple", h1, h2, false, rfl, iteF ?_⟩
    have := q H fun _ _ e => e
    rw [h3] at this
    exact this
  obtain ⟨o1, o2⟩ := odd
  cases hx with
  | @tup a xs _ hS hxs =>
    refine ⟨.ref a, rfl, .ref a, .ty "tuple", .type "tuple", .type "tuple", true, rfl, .ty "tuple", tyx_tup hS, kit_ty (by decide +kernel), true, rfl, iteT ?_⟩
    refine ⟨.ref a, rfl, a, xs, ds, rfl, hS, hxs, o1, by omega, fun H1 s1 => ⟨_, rfl, ?_⟩⟩
    have val : ∀ b, ds.all nameD = b → worldD (.tuple ds) = (b && decide (UpX (ds.map strOf))) := fun b e => by
      rw [← e]
      rfl
    refine ite2 (fun c => ?_) (fun c => ?_)
    · rw [val _ c] at q
      obtain ⟨e, hn⟩ := strs_of c
      have ex : xs = (ds.map strOf).map V.str := dps_str (K := K) (H := H) (by rw [← e]; exact hxs)
      rw [ex] at hS
      refine ⟨.ref a, rfl, .ref a, rfl, a, ds.map strOf, rfl, .inr (same_tup s1 hS), by rw [List.length_map]; omega, fun H2 p zs s2 hp hu hm => ?_⟩
      have hz : ∀ x ∈ zs, nameB x = true := fun x hx => hn x ((hm x).mp hx)
      refine ⟨wd (ds.map strOf), wd zs, to_wd (same_tup (s1.trans s2) hS), to_wd (SqT.of hp), shaped_names hn, shaped_names hz, ?_⟩
      rw [eqv_wd]
      have ed : decide (ds.map strOf = zs) = decide (UpX (ds.map strOf)) := by
        by_cases u : UpX (ds.map strOf)
        · rw [decide_eq_true u, decide_eq_true (upX_one u hu fun z => (hm z).symm)]
        · rw [decide_eq_false u, decide_eq_false fun z => u (by rw [z]; exact hu)]
      rw [ed]
      exact q H2 (s1.trans s2)
    · rw [val false (by simpa using c)] at q
      exact q H1 s1
/-! ### is_rule -/
def spIsRule (K : PySem.W.Frag) : Sp := fun vs H Q _ => ∃ (x : V) (r : Rl), vs = [x] ∧ Dp K H x (rd r) ∧ IsR r ∧ ∀ H', Same H H' → Q (.bl true) H'
theorem ok_isRule {f1 : Addr} {fd1 : FuncData} (F : Fun K "is_rule" "is_rule" sIsRule f fd) (T : Bl mg) (G1 : FnOk P w K mg base CX0 k f1 fd1 ["thing"] (spIsWorld K)) (b1 : Binds K fd1 ["thing"] []) (k1 : PySem.W.keepIn K (.ref f1) = true) (m1 : mg "is_world" = some (.ref f1)) :
    FnOk P w K mg base CX0 (k + 1) f fd ["thing"] (spIsRule K) := by
  refine F.ok scIsRule (fun vs H Q E h => ?_) (fun cdv A outer s H vs Q E hr h => ?_)
  · obtain ⟨x, r, rfl, _⟩ := h
    rfl
  obtain ⟨x, r, rfl, hx, hr', q⟩ := h
  refine ⟨_, pss_one (ps_ret (pe_and (pe_callB call_isi (by rfl) T.isi PyProof.Rows.boot_isinstance (pa_cons (pv 0) (pa_cons (pe_bltn (v := .ty "tuple") (by rfl) T.tuple (by decide +kernel) rfl) pa_nil)))
    (pe_and (pe_cmpR op_eq (pe_callB call_len_seq (by rfl) T.len PySem.boot_len (pa_cons (pv 0) pa_nil)) pe_int (nomark _)) (pe_one (pe_callB (cr_all rfl) (by rfl) T.all (by decide +kernel) (pa_cons (pe_lc (own := [("part", 1)]) (g := gName 1) (by rfl) scIsRule.nd (pi_tup (pv 0)) (blkOk_by (N := ["thing", "part"]) (sc := defScope sIsRule) (by decide +kernel))
        (fun _ _ _ _ _ => pg_name (i := 1) scIsRule.nd rfl (Or.inl rfl)) (fun _ _ _ _ _ => pts_nil) (fun _ _ _ _ _ => pe_call G1 hr (by rfl) m1 k1 b1 .nil pass0 (pa_cons (pv 1) pa_nil))) pa_nil)))))), ?_⟩
  unfold rd at hx
  cases hx with
  | @tup a xs _ hS hxs =>
    have xl : xs.length = 4 := by
      rw [dpAll_len hxs, List.length_map]
      rfl
    refine ⟨.ref a, rfl, .ref a, .ty "tuple", .type "tuple", .type "tuple", true, rfl, .ty "tuple", tyx_tup hS, kit_ty (by decide +kernel), true, rfl, iteT ?_⟩
    refine ⟨.ref a, rfl, a, xs, rfl, .inr hS, rfl, true, congrArg V.bl (decide_eq_true (by rw [xl]; rfl)), iteT ?_⟩
    refine ⟨.ref a, rfl, a, rfl, ⟨_, hS⟩, fun D hD => ?_⟩
    refine lc_tup (xs := xs) (fun i H1 => Same H H1 ∧ H1 D = some (.lst (List.replicate i (V.bl true)))) ⟨same_new hD _, upd_same⟩ (fun i H1 _ hI => same_tup hI.1 hS) (fun i x H1 hxi hI => ?_) (fun H1 hI => ?_)
    · obtain ⟨sm, hd⟩ := hI
      obtain ⟨d, hdi, hxd⟩ := dpAll_at' hxs hxi
      obtain ⟨t, ht, rfl⟩ := map_at hdi
      have wt := hr'.all t (List.mem_of_getElem? ht)
      have il : i < (parts r).length := (List.getElem?_eq_some_iff.mp ht).1
      have il' : i < 4 := il
      refine ⟨rfl, x, rfl, x, wd t, rfl, (Stay.same sm).wd hxd, oddW_wd wt, fun H2 sm2 => ?_⟩
      rw [worldD_wd wt]
      refine ⟨_, sm2 _ _ hd, small_line' (by rw [List.length_replicate]; omega), same_put (sm.trans sm2) hD, ?_⟩
      rw [upd_same, show List.replicate (i + 1) (V.bl true) = List.replicate i (V.bl true) ++ [V.bl true] from List.replicate_succ']
    · obtain ⟨sm, hd⟩ := hI
      refine ⟨D, List.replicate xs.length true, rfl, SqL.of (by rw [List.map_replicate]; exact hd), ?_⟩
      have z : (List.replicate xs.length true).all id = true := by simp
      rw [z]
      exact q H1 sm
end
end Rw
namespace Rw
open PySem PySem.Spec PyProof.Rows L2
/-! ### programs -/
/-- an instance of the class at C whose rules are S -/
def PgAt (K : PySem.W.Frag) (C : Addr) (H : Hp) (v : V) (S : List Rl) : Prop := ∃ a dx t ys, v = .ref a ∧ H a = some (.ins C dx [(("_rules" : Str), .ref t)]) ∧ SqT K H t ys ∧ DpAll K H ys (S.map rd)
theorem PgAt.same {K : PySem.W.Frag} {C : Addr} {H H' : Hp} {v : V} {S : List Rl} (h : PgAt K C H v S) (e : Same H H') : PgAt K C H' v S := by
  obtain ⟨a, dx, t, ys, h1, h2, h3, h4⟩ := h
  exact ⟨a, dx, t, ys, h1, e _ _ h2, same_tup e h3, dpAll_same e _ _ h4⟩
theorem mut_ins {H : Hp} {p C dx : Addr} {fs : List (Str × V)} (h : H p = some (.ins C dx fs)) : Mut (H p) := by
  rw [h]
  exact True.intro
section
variable {P : Program} {w : World} {K : PySem.W.Frag} {mg : Str → Option Value} {base : Heap} {f : Addr} {fd : FuncData} {k : Nat}
/-- Program.__init__(self, *rules) -/
def spInit (K : PySem.W.Frag) (C : Addr) : Sp := fun vs H Q _ => ∃ (x dx : Addr) (xs : List V) (L : List Rl), vs = .ref x :: xs ∧ H x = some (.ins C dx []) ∧ DpAll K H xs (L.map rd) ∧ (∀ r ∈ L, IsR r) ∧ L.length < 64 ∧
  ∀ H' S, (∀ b u, b ≠ x → H b = some u → H' b = some u) → Srt S L → S.length < 64 → PgAt K C H' (.ref x) S → Q .non H'
theorem ok_init {C f1 : Addr} {fd1 : FuncData} {name qual : Str} {kV doc pm cdv ct oc : Value} {an od : Option Addr} {osl : Array (Option Value)}
    (lk : K.lookup f = some ⟨oc, od, .func (PySem.W.fnOf name qual (defArgs sInit) (defBody sInit) (defScope sInit) .none kV doc pm an cdv ct), osl⟩) (hcd : PySem.W.codeIn K cdv qual = true) (T : Bl mg) (c : Cls K C) (n : NoAttr K C "_rules")
    (G1 : FnOk P w K mg base CX0 k f1 fd1 ["thing"] (spIsRule K)) (b1 : Binds K fd1 ["thing"] []) (k1 : PySem.W.keepIn K (.ref f1) = true) (m1 : mg "is_rule" = some (.ref f1)) : FnR P w K mg base CX0 (k + 1) f (spInit K C) := by
  have main := StX.fn_star (CX := CX0) (P := P) (w := w) (mg := mg) (base := base) (k := k) (N := ["self", "rules", "place", "row"]) (ps := ["self"]) (pv := "rules") (sp := fun vs H Q E => ∃ (x p dx : Addr) (xs : List V) (L : List Rl), vs = [.ref x, .ref p] ∧ H x = some (.ins C dx []) ∧ SqT K H p xs ∧ DpAll K H xs (L.map rd) ∧ (∀ r ∈ L, IsR r) ∧ L.length < 64 ∧
      ∀ H' S, (∀ b u, b ≠ x → H b = some u → H' b = some u) → Srt S L → S.length < 64 → PgAt K C H' (.ref x) S → Q .non H') lk hcd scInit StX.cxUp_none (StX.bind_star1 (p1 := "self") (pv := "rules") (B := fun vs => bindArgs (PySem.W.fnOf name qual (defArgs sInit) (defBody sInit) (defScope sInit) .none kV doc pm an cdv ct) { pos := vs }) (fun _ => by first | rfl | with_unfolding_all rfl) (fun _ _ _ => by first | rfl | with_unfolding_all rfl)) (fun A outer s H vs Q E hr h => ?_)
  · intro A outer s H us vs Q E hr e0 r h
    refine main A outer s H us vs Q E hr e0 r ?_
    obtain ⟨x, dx, xs, L, rfl, hx, hxs, hL, few, q⟩ := h
    refine ⟨[.ref x], xs, rfl, rfl, small_line (by rw [dpAll_len hxs, List.length_map]; omega), fun p hp => ?_⟩
    have sp := same_new hp (.tup xs)
    exact ⟨x, p, dx, xs, L, rfl, sp _ _ hx, SqT.of upd_same, dpAll_same sp _ _ hxs, hL, few, fun H' S hb hs hl hg => q H' S (fun b u nb e => hb b u nb (sp _ _ e)) hs hl hg⟩
  obtain ⟨x, p, dx, xs, L, rfl, hx, hp, hxs, hL, few, q⟩ := h
  have xl : xs.length = L.length := by rw [dpAll_len hxs, List.length_map]
  refine ⟨_, PSs.nox (pss_cons (ps_for PassesOwn.never rfl (pi_enumT (by rfl) T.enum (pa_cons (pv 1) pa_nil)) (pg_tup (by rfl) (pgs_cons (pg_name (i := 2) scInit.nd rfl (.inl rfl)) (pgs_cons (pg_name (i := 3) scInit.nd rfl (.inl rfl)) pgs_nil)))
      (pss_one (ps_if (pt_not (pt_val (pe_call G1 hr (by rfl) m1 k1 b1 .nil pass0 (pa_cons (pv 3) pa_nil)))) pss_never pss_nil)))
    (pss_one (ps_fld (pv 0) (pe_callTy call_tuple_of (by rfl) T.tuple (by decide +kernel) (pa_cons (pe_callB (cr_sortR rfl hr.units) (by rfl) T.sorted (by decide +kernel) (pa_cons (pe_callTy (cr_setR rfl hr.units) (by rfl) T.set (by decide +kernel) (pa_cons (pv 1) pa_nil)) pa_nil)) pa_nil)) rfl))), ?_⟩
  refine ⟨.ref p, rfl, p, xs, rfl, hp, for_enumT (xs := xs) (fun i σ H1 => (∃ y2 y3, σ = [some (.ref x), some (.ref p), y2, y3]) ∧ Same H H1) ⟨⟨none, none, rfl⟩, fun _ _ e => e⟩ (fun i σ H1 _ hI => same_tup hI.2 hp) (fun i v σ H1 T0 hv hI hT => ?_) (fun σ H1 hI => ?_)⟩
  · obtain ⟨⟨y2, y3, rfl⟩, sm⟩ := hI
    obtain ⟨d, hd, hvd⟩ := dpAll_at' hxs hv
    obtain ⟨r, hr', rfl⟩ := map_at hd
    have st := same_new hT (.tup [.int (i : Int), v])
    refine ⟨T0, [.int (i : Int), v], rfl, SqT.of upd_same, rfl, .int (i : Int), [v], rfl, v, [], rfl, rfl, ?_⟩
    refine ⟨v, rfl, v, r, rfl, dp_same (sm.trans st) _ _ hvd, hL r (List.mem_of_getElem? hr'), fun H2 s2 => ⟨true, rfl, iteF ⟨⟨_, _, rfl⟩, sm.trans (st.trans s2)⟩⟩⟩
  · obtain ⟨⟨y2, y3, rfl⟩, sm⟩ := hI
    refine ⟨.ref p, rfl, p, xs, L, rfl, .inr (same_tup sm hp), dpAll_same sm _ _ hxs, few, fun a M ha hM isP hall => ?_⟩
    have sa := same_new ha (TSetO w a M)
    refine ⟨a, M, L, rfl, upd_same, (fun e he => ⟨(hM e he).1, (Stay.same sa).dp _ _ (hM e he).1.ok (hM e he).2⟩), isP, hall, fun ys S l hS hSl hys hl => ?_⟩
    have sl := same_new hl (.lst ys)
    refine ⟨l, ys, rfl, .inl ⟨SqL.of upd_same, fun t ht => ?_⟩⟩
    have st := same_new ht (.tup ys)
    have all := sm.trans (sa.trans (sl.trans st))
    refine ⟨.ref x, rfl, x, C, dx, _, rfl, all _ _ hx, c, n, by show 0 < 1000; decide, ?_⟩
    have hx' := all _ _ hx
    have stp := Stay.put (mut_ins hx') (.ins C dx [(("_rules" : Str), .ref t)])
    refine q _ S (fun b u nb e => ?_) hS hSl ⟨x, dx, t, ys, rfl, upd_same, stp.seq (SqT.of upd_same), (Stay.same st |>.trans stp).dpAll _ _ (okDs_rd S) ((Stay.same sl).dpAll _ _ (okDs_rd S) hys)⟩
    rw [upd_ne nb]
    exact all _ _ e
/-- a program made: where the class is called with the rules L -/
theorem made_ok {C : Addr} {H : Hp} {xs : List V} {L : List Rl} {Q : VK} {E : XK} (hx : DpAll K H xs (L.map rd)) (hL : ∀ r ∈ L, IsR r) (few : L.length < 64) (q : ∀ H' v S, Same H H' → Srt S L → S.length < 64 → PgAt K C H' v S → Q v H') :
    ∀ x dx, H x = none → H dx = none → dx ≠ x → spInit K C (.ref x :: xs) (upd (upd H dx (.own x)) x (.ins C dx [])) (fun v H2 => v = .non ∧ Q (.ref x) H2) E := fun x dx hx0 hd0 ne => by
  have s1 := same_new hd0 (.own x)
  have hx1 : (upd H dx (.own x)) x = none := by
    rw [upd_ne ne.symm]
    exact hx0
  have s2 := s1.trans (same_new hx1 (.ins C dx []))
  refine ⟨x, dx, xs, L, rfl, upd_same, (Stay.same s2).dpAll _ _ (okDs_rd L) hx, hL, few, fun H' S hb hS hl hg => ⟨rfl, q H' _ S (fun b u e => ?_) hS hl hg⟩⟩
  exact hb b u (ne_of_none e hx0) (s2 _ _ e)
/-- Program.of(cls, rules) -/
def spOf (K : PySem.W.Frag) (C : Addr) : Sp := fun vs H Q _ => ∃ (l : Addr) (xs : List V) (L : List Rl), vs = [.ref C, .ref l] ∧ (SqT K H l xs ∨ SqL K H l xs) ∧ DpAll K H xs (L.map rd) ∧ (∀ r ∈ L, IsR r) ∧ L.length < 64 ∧ ∀ H' v S, Same H H' → Srt S L → S.length < 64 → PgAt K C H' v S → Q v H'
theorem ok_of {C f1 : Addr} (F : Fun K "of" "Program.of" sOf f fd) (M : Mk K C f1) (G : FnR P w K mg base CX0 k f1 (spInit K C)) : FnOk P w K mg base CX0 (k + 2) f fd ["cls", "rules"] (spOf K C) := by
  refine F.ok scOf (fun vs H Q E h => ?_) (fun cdv A outer s H vs Q E hr h => ?_)
  · obtain ⟨l, xs, L, rfl, _⟩ := h
    rfl
  obtain ⟨l, xs, L, rfl, hS, hx, hL, few, q⟩ := h
  refine ⟨_, pss_one (ps_ret (pe_makeSL (i := 0) M G hr rfl (.inl rfl) pass0 (pv 1))), ?_⟩
  exact ⟨rfl, .ref l, rfl, l, xs, rfl, hS, made_ok hx hL few q⟩
/-- program.rules -/
def spRules (K : PySem.W.Frag) (C : Addr) : Sp := fun vs H Q _ => ∃ (v : V) (S : List Rl), vs = [v] ∧ PgAt K C H v S ∧ ∀ t ys, SqT K H t ys → DpAll K H ys (S.map rd) → Q (.ref t) H
theorem ok_rules {C : Addr} (F : Fun K "rules" "Program.rules" sRules f fd) (c : Cls K C) (n : NoAttr K C "_rules") : FnOk P w K mg base CX0 (k + 1) f fd ["self"] (spRules K C) := by
  refine F.ok scRules (fun vs H Q E h => ?_) (fun cdv A outer s H vs Q E hr h => ?_)
  · obtain ⟨v, S, rfl, _⟩ := h
    rfl
  obtain ⟨v, S, rfl, ⟨a, dx, t, ys, rfl, h1, h2, h3⟩, q⟩ := h
  refine ⟨_, pss_one (ps_ret (pe_fld (pv 0) rfl)), ?_⟩
  exact ⟨.ref a, rfl, a, C, dx, _, .ref t, rfl, h1, c, n, rfl, q t ys h2 h3⟩
end
end Rw
namespace Rw
open PySem PySem.Spec PyProof.Rows L2
/-! ### names in and out -/
abbrev sHasAll : Stmt := topS 23
abbrev sMeet : Stmt := topS 24
abbrev sWithout : Stmt := topS 25
abbrev sNamesIn : Stmt := topS 33
abbrev sRowWithout : Stmt := topS 34
abbrev sAsked : Stmt := topS 35
abbrev sIsAskedFor : Stmt := topS 36
theorem scHasAll : FnScope ["names", "wanted", "name"] ["names", "wanted"] (defScope sHasAll) := ⟨rfl, rfl, rfl, by decide +kernel, rfl, by decide +kernel, by decide +kernel⟩
theorem scMeet : FnScope ["one", "other", "name"] ["one", "other"] (defScope sMeet) := ⟨rfl, rfl, rfl, by decide +kernel, rfl, by decide +kernel, by decide +kernel⟩
theorem scWithout : FnScope ["names", "left_out", "name"] ["names", "left_out"] (defScope sWithout) := ⟨rfl, rfl, rfl, by decide +kernel, rfl, by decide +kernel, by decide +kernel⟩
theorem scNamesIn : FnScope ["row", "part", "name"] ["row"] (defScope sNamesIn) := ⟨rfl, rfl, rfl, by decide +kernel, rfl, by decide +kernel, by decide +kernel⟩
theorem scRowWithout : FnScope ["row", "names", "part"] ["row", "names"] (defScope sRowWithout) := ⟨rfl, rfl, rfl, by decide +kernel, rfl, by decide +kernel, by decide +kernel⟩
/-- a list or a tuple of names -/
def Ws (K : PySem.W.Frag) (H : Hp) (v : V) (ns : W) : Prop := ∃ a, v = .ref a ∧ (SqL K H a (ns.map V.str) ∨ SqT K H a (ns.map V.str))
theorem Ws.same {K : PySem.W.Frag} {H H' : Hp} {v : V} {ns : W} (h : Ws K H v ns) (e : Same H H') : Ws K H' v ns := by
  obtain ⟨a, rfl, h⟩ := h
  exact ⟨a, rfl, h.elim (fun z => .inl (e.seq z)) (fun z => .inr (same_tup e z))⟩
theorem Ws.wd {K : PySem.W.Frag} {H : Hp} {v : V} {ns : W} (h : Dp K H v (Rw.wd ns)) : Ws K H v ns := by
  obtain ⟨a, rfl, h'⟩ := of_wd h
  exact ⟨a, rfl, .inr h'⟩
def meets (ns ms : W) : Bool := ns.any fun z => decide (z ∈ ms)
def minus (ns ms : W) : W := ns.filter fun z => !decide (z ∈ ms)
section
variable {P : Program} {w : World} {K : PySem.W.Frag} {mg : Str → Option Value} {base : Heap} {f : Addr} {fd : FuncData} {k : Nat}
def spHasAll (K : PySem.W.Frag) : Sp := fun vs H Q _ => ∃ (x y : V) (ns ms : W), vs = [x, y] ∧ Ws K H x ns ∧ Ws K H y ms ∧ ms.length ≤ 1000 ∧ ∀ H', Same H H' → Q (.bl (sub ms ns)) H'
theorem ok_hasAll (F : Fun K "has_all" "has_all" sHasAll f fd) (T : Bl mg) : FnOk P w K mg base CX0 (k + 1) f fd ["names", "wanted"] (spHasAll K) := by
  refine F.ok scHasAll (fun vs H Q E h => ?_) (fun cdv A outer s H vs Q E hr h => ?_)
  · obtain ⟨x, y, ns, ms, rfl, _⟩ := h
    rfl
  obtain ⟨x, y, ns, ms, rfl, ⟨a, rfl, hS⟩, ⟨b, rfl, hT⟩, few, q⟩ := h
  have turn : ∀ (D : Addr) (i : Nat) (z : Str) (H1 : Hp), ms[i]? = some z → H D = none → Same H H1 ∧ H1 D = some (.lst ((ms.take i).map fun z => V.bl (decide (z ∈ ns)))) → SqL K H1 a (ns.map V.str) ∨ SqT K H1 a (ns.map V.str) := fun D i z H1 _ _ ⟨sm, _⟩ => hS.elim (fun z => .inl (sm.seq z)) (fun z => .inr (same_tup sm z))
  have step : ∀ (D : Addr) (i : Nat) (z : Str) (H1 : Hp), ms[i]? = some z → H D = none → Same H H1 ∧ H1 D = some (.lst ((ms.take i).map fun z => V.bl (decide (z ∈ ns)))) → ∃ acc, H1 D = some (.lst acc) ∧ acc.length < sizeLine ∧ (Same H (upd H1 D (.lst (acc ++ [V.bl (inV (.str z) (ns.map V.str))]))) ∧ (upd H1 D (.lst (acc ++ [V.bl (inV (.str z) (ns.map V.str))]))) D = some (.lst ((ms.take (i + 1)).map fun z => V.bl (decide (z ∈ ns))))) := fun D i z H1 hz hD ⟨sm, hd⟩ => by
    refine ⟨_, hd, small_line' (by rw [List.length_map, List.length_take]; omega), same_put sm hD, ?_⟩
    rw [upd_same, take_snoc hz, List.map_append, inV_str]
    rfl
  have fin : ∀ (D : Addr) (H1 : Hp), Same H H1 → H1 D = some (.lst ((ms.take ms.length).map fun z => V.bl (decide (z ∈ ns)))) → ∃ (a : Addr) (bs : List Bool), [V.ref D] = [V.ref a] ∧ SqL K H1 a (bs.map V.bl) ∧ Q (.bl (bs.all id)) H1 := fun D H1 sm hd => by
    rw [List.take_length] at hd
    refine ⟨D, ms.map fun z => decide (z ∈ ns), rfl, SqL.of (by rw [List.map_map]; exact hd), ?_⟩
    have z : (ms.map fun z => decide (z ∈ ns)).all id = sub ms ns := by
      unfold sub
      rw [List.all_map]
      rfl
    rw [z]
    exact q H1 sm
  rcases hT with hT | hT
  · refine ⟨_, pss_one (ps_ret (pe_callB (cr_all rfl) (by rfl) T.all (by decide +kernel) (pa_cons (pe_lc (own := [("name", 2)]) (g := gName 2) (by rfl) scHasAll.nd (pi_list (pv 1)) (blkOk_by (N := ["names", "wanted", "name"]) (sc := defScope sHasAll) (by decide +kernel))
        (fun _ _ _ _ _ => pg_name (i := 2) scHasAll.nd rfl (Or.inl rfl)) (fun _ _ _ _ _ => pts_nil) (fun _ _ _ _ _ => pe_cmpR (r := rIn K false) op_in_seq (pv 2) (pv 0) (by rfl))) pa_nil))), ?_⟩
    refine ⟨.ref b, rfl, b, rfl, ⟨_, hT⟩, fun D hD => ?_⟩
    refine lc_list (xs := ms.map V.str) (fun i H1 => Same H H1 ∧ H1 D = some (.lst ((ms.take i).map fun z => V.bl (decide (z ∈ ns))))) ⟨same_new hD _, upd_same⟩ (fun i H1 _ hI => hI.1.seq hT) (fun i x H1 hx hI => ?_) (fun H1 hI => ?_)
    · obtain ⟨z, hz, rfl⟩ := map_at hx
      exact ⟨rfl, .str z, rfl, .ref a, rfl, a, ns.map V.str, rfl, turn D i z H1 hz hD hI, rfl, flat_strs ns, step D i z H1 hz hD hI⟩
    · obtain ⟨sm, hd⟩ := hI
      rw [List.length_map] at hd
      exact fin D H1 sm hd
  · refine ⟨_, pss_one (ps_ret (pe_callB (cr_all rfl) (by rfl) T.all (by decide +kernel) (pa_cons (pe_lc (own := [("name", 2)]) (g := gName 2) (by rfl) scHasAll.nd (pi_tup (pv 1)) (blkOk_by (N := ["names", "wanted", "name"]) (sc := defScope sHasAll) (by decide +kernel))
        (fun _ _ _ _ _ => pg_name (i := 2) scHasAll.nd rfl (Or.inl rfl)) (fun _ _ _ _ _ => pts_nil) (fun _ _ _ _ _ => pe_cmpR (r := rIn K false) op_in_seq (pv 2) (pv 0) (by rfl))) pa_nil))), ?_⟩
    refine ⟨.ref b, rfl, b, rfl, ⟨_, hT⟩, fun D hD => ?_⟩
    refine lc_tup (xs := ms.map V.str) (fun i H1 => Same H H1 ∧ H1 D = some (.lst ((ms.take i).map fun z => V.bl (decide (z ∈ ns))))) ⟨same_new hD _, upd_same⟩ (fun i H1 _ hI => same_tup hI.1 hT) (fun i x H1 hx hI => ?_) (fun H1 hI => ?_)
    · obtain ⟨z, hz, rfl⟩ := map_at hx
      exact ⟨rfl, .str z, rfl, .ref a, rfl, a, ns.map V.str, rfl, turn D i z H1 hz hD hI, rfl, flat_strs ns, step D i z H1 hz hD hI⟩
    · obtain ⟨sm, hd⟩ := hI
      rw [List.length_map] at hd
      exact fin D H1 sm hd
def spMeet (K : PySem.W.Frag) : Sp := fun vs H Q _ => ∃ (x y : V) (ns ms : W), vs = [x, y] ∧ Dp K H x (wd ns) ∧ Ws K H y ms ∧ ns.length ≤ 1000 ∧ ∀ H', Same H H' → Q (.bl (meets ns ms)) H'
theorem ok_meet (F : Fun K "meet" "meet" sMeet f fd) (T : Bl mg) : FnOk P w K mg base CX0 (k + 1) f fd ["one", "other"] (spMeet K) := by
  refine F.ok scMeet (fun vs H Q E h => ?_) (fun cdv A outer s H vs Q E hr h => ?_)
  · obtain ⟨x, y, ns, ms, rfl, _⟩ := h
    rfl
  obtain ⟨x, y, ns, ms, rfl, hx, ⟨b, rfl, hT⟩, few, q⟩ := h
  obtain ⟨a, rfl, hS⟩ := of_wd hx
  refine ⟨_, pss_one (ps_ret (pe_callB (cr_any rfl) (by rfl) T.any (by decide +kernel) (pa_cons (pe_lc (own := [("name", 2)]) (g := gName 2) (by rfl) scMeet.nd (pi_tup (pv 0)) (blkOk_by (N := ["one", "other", "name"]) (sc := defScope sMeet) (by decide +kernel))
        (fun _ _ _ _ _ => pg_name (i := 2) scMeet.nd rfl (Or.inl rfl)) (fun _ _ _ _ _ => pts_nil) (fun _ _ _ _ _ => pe_cmpR (r := rIn K false) op_in_seq (pv 2) (pv 1) (by rfl))) pa_nil))), ?_⟩
  refine ⟨.ref a, rfl, a, rfl, ⟨_, hS⟩, fun D hD => ?_⟩
  refine lc_tup (xs := ns.map V.str) (fun i H1 => Same H H1 ∧ H1 D = some (.lst ((ns.take i).map fun z => V.bl (decide (z ∈ ms))))) ⟨same_new hD _, upd_same⟩ (fun i H1 _ hI => same_tup hI.1 hS) (fun i x H1 hx hI => ?_) (fun H1 hI => ?_)
  · obtain ⟨sm, hd⟩ := hI
    obtain ⟨z, hz, rfl⟩ := map_at hx
    refine ⟨rfl, .str z, rfl, .ref b, rfl, b, ms.map V.str, rfl, hT.elim (fun z => .inl (sm.seq z)) (fun z => .inr (same_tup sm z)), rfl, flat_strs ms, ?_⟩
    refine ⟨_, hd, small_line' (by rw [List.length_map, List.length_take]; omega), same_put sm hD, ?_⟩
    rw [upd_same, take_snoc hz, List.map_append]
    show some (HO.lst (_ ++ [V.bl (inV (.str z) (ms.map V.str))])) = _
    rw [inV_str]
    rfl
  · obtain ⟨sm, hd⟩ := hI
    rw [List.length_map, List.take_length] at hd
    refine ⟨D, ns.map fun z => decide (z ∈ ms), rfl, SqL.of (by rw [List.map_map]; exact hd), ?_⟩
    have z : (ns.map fun z => decide (z ∈ ms)).any id = meets ns ms := by
      unfold meets
      rw [List.any_map]
      rfl
    rw [z]
    exact q H1 sm
def spWithout (K : PySem.W.Frag) : Sp := fun vs H Q _ => ∃ (x y : V) (ns ms : W), vs = [x, y] ∧ Dp K H x (wd ns) ∧ Ws K H y ms ∧ ns.length ≤ 1000 ∧ ∀ H' v, Same H H' → Dp K H' v (wd (minus ns ms)) → Q v H'
theorem ok_without (F : Fun K "without" "without" sWithout f fd) (T : Bl mg) : FnOk P w K mg base CX0 (k + 1) f fd ["names", "left_out"] (spWithout K) := by
  refine F.ok scWithout (fun vs H Q E h => ?_) (fun cdv A outer s H vs Q E hr h => ?_)
  · obtain ⟨x, y, ns, ms, rfl, _⟩ := h
    rfl
  obtain ⟨x, y, ns, ms, rfl, hx, ⟨b, rfl, hT⟩, few, q⟩ := h
  obtain ⟨a, rfl, hS⟩ := of_wd hx
  refine ⟨_, pss_one (ps_ret (pe_callTy call_tuple_of (by rfl) T.tuple (by decide +kernel) (pa_cons (pe_lc (own := [("name", 2)]) (g := gName 2) (by rfl) scWithout.nd (pi_tup (pv 0)) (blkOk_by (N := ["names", "left_out", "name"]) (sc := defScope sWithout) (by decide +kernel))
        (fun _ _ _ _ _ => pg_name (i := 2) scWithout.nd rfl (Or.inl rfl)) (fun _ _ _ _ _ => pts_one (pt_cmpR (r := rIn K true) op_notIn_seq (pv 2) (pv 1) (by rfl))) (fun _ _ _ _ _ => pv 2)) pa_nil))), ?_⟩
  refine ⟨.ref a, rfl, a, rfl, ⟨_, hS⟩, fun D hD => ?_⟩
  refine lc_tup (xs := ns.map V.str) (fun i H1 => Same H H1 ∧ H1 D = some (.lst (((ns.take i).filter fun z => !decide (z ∈ ms)).map V.str))) ⟨same_new hD _, upd_same⟩ (fun i H1 _ hI => same_tup hI.1 hS) (fun i x H1 hx hI => ?_) (fun H1 hI => ?_)
  · obtain ⟨sm, hd⟩ := hI
    obtain ⟨z, hz, rfl⟩ := map_at hx
    refine ⟨rfl, .str z, rfl, .ref b, rfl, b, ms.map V.str, rfl, hT.elim (fun z => .inl (sm.seq z)) (fun z => .inr (same_tup sm z)), rfl, flat_strs ms, _, rfl, ?_⟩
    rw [inV_str]
    refine ite2 (fun e => ?_) (fun e => ?_)
    · refine ⟨.str z, rfl, _, hd, small_line' ?_, same_put sm hD, ?_⟩
      · rw [List.length_map]
        have := List.length_filter_le (fun z => !decide (z ∈ ms)) (ns.take i)
        rw [List.length_take] at this
        omega
      · rw [upd_same, filt_t hz (show (!decide (z ∈ ms)) = true by simpa using e), List.map_append]
        rfl
    · refine ⟨sm, ?_⟩
      rw [filt_f hz (show (!decide (z ∈ ms)) = false by simpa using e)]
      exact hd
  · obtain ⟨sm, hd⟩ := hI
    rw [List.length_map, List.take_length] at hd
    refine ⟨D, _, rfl, .inl ⟨SqL.of hd, fun l hl => ?_⟩⟩
    exact q _ _ (sm.trans (same_new hl _)) (to_wd (SqT.of upd_same))
end
end Rw
namespace Rw
open PySem PySem.Spec PyProof.Rows L2
/-- a walk over a tuple, whatever each turn does -/
theorem walk_tup {K : PySem.W.Frag} {a : Addr} {xs : List V} {H0 : Hp} {Qd : Hp → Prop} {B : V → Hp → (Hp → Prop) → Prop} (Pv : Nat → Hp → Prop) (h0 : Pv 0 H0) (hl : ∀ i H, i ≤ xs.length → Pv i H → SqT K H a xs) (hs : ∀ i x H, xs[i]? = some x → Pv i H → B x H (Pv (i + 1))) (hd : ∀ H, Pv xs.length H → Qd H) :
    ∃ W : Nat → Nat → Hp → Prop, (∃ m, W 0 m H0) ∧ ∀ i m H, W i m H → ((Itt K a).stop i H ∧ Qd H) ∨ ((Itt K a).go i H ∧ ∃ Nx : Hp → Prop, (∀ H', Nx H' → ∃ m', m' < m ∧ W (i + 1) m' H') ∧ ∀ x H', (Itt K a).yld i H x H' → B x H' Nx) := by
  refine ⟨fun i m H => m = xs.length - i ∧ i ≤ xs.length ∧ Pv i H, ⟨xs.length, by simp, Nat.zero_le _, h0⟩, ?_⟩
  rintro i m H ⟨rfl, hi, p⟩
  have hS := hl i H hi p
  by_cases hlt : i < xs.length
  · refine .inr ⟨⟨xs, xs[i], hS, List.getElem?_eq_getElem hlt⟩, Pv (i + 1), fun H' p' => ⟨xs.length - (i + 1), by omega, rfl, hlt, p'⟩, fun y H' yy => ?_⟩
    obtain ⟨rfl, fv⟩ := yy
    exact hs i y _ (fv xs hS) p
  · have e : i = xs.length := by omega
    subst e
    exact .inl ⟨⟨xs, hS, Nat.le_refl _⟩, hd H p⟩
/-- all names of a rule, in order, with repetition -/
def own (r : Rl) : W := (parts r).flatMap id
theorem own_mem {r : Rl} {z : Str} : z ∈ own r ↔ ∃ t ∈ parts r, z ∈ t := by
  unfold own
  rw [List.mem_flatMap]
  rfl
theorem own_len {r : Rl} (h : IsR r) : (own r).length ≤ 160 := by
  unfold own parts
  simp only [List.flatMap_cons, List.flatMap_nil, List.length_append, List.length_nil, id]
  have := h.h.few
  have := h.d.few
  have := h.n.few
  have := h.b.few
  omega
section
variable {P : Program} {w : World} {K : PySem.W.Frag} {mg : Str → Option Value} {base : Heap} {f : Addr} {fd : FuncData} {k : Nat}
def spNamesIn (K : PySem.W.Frag) : Sp := fun vs H Q _ => ∃ (x : V) (r : Rl), vs = [x] ∧ Dp K H x (rd r) ∧ IsR r ∧ ∀ H' v, Same H H' → Ws K H' v (own r) → Q v H'
theorem ok_namesIn (F : Fun K "_names_in" "_names_in" sNamesIn f fd) : FnOk P w K mg base CX0 (k + 1) f fd ["row"] (spNamesIn K) := by
  refine F.ok scNamesIn (fun vs H Q E h => ?_) (fun cdv A outer s H vs Q E hr h => ?_)
  · obtain ⟨x, r, rfl, _⟩ := h
    rfl
  obtain ⟨x, r, rfl, hx, hr', q⟩ := h
  refine ⟨_, pss_one (ps_ret (pe_lc2 (own := [("part", 1), ("name", 2)]) (vs1 := [2]) (g := gName 1) (g1 := gName 2) (wi1 := iTup K (tVar 1)) (te := tVar 2) (by rfl) scNamesIn.nd (pi_tup (pv 0)) (blkOk_by (N := ["row", "part", "name"]) (sc := defScope sNamesIn) (by decide +kernel)) (by decide)
    (fun _ _ _ _ _ => pg_name (i := 1) scNamesIn.nd rfl (Or.inl rfl)) (fun _ _ _ _ _ => pts_nil) (fun _ _ _ _ _ => pi_tup (pv 1)) (fun _ _ _ _ _ => pg_name (i := 2) scNamesIn.nd rfl (Or.inl rfl)) (fun _ _ _ _ _ => pts_nil) (fun _ _ _ _ _ => pv 2))), ?_⟩
  have lim := own_len hr'
  unfold rd at hx
  cases hx with
  | @tup a xs _ hS hxs =>
    have xl : xs.length = (parts r).length := by rw [dpAll_len hxs, List.length_map]
    refine ⟨.ref a, rfl, a, rfl, ⟨_, hS⟩, fun D hD => ?_⟩
    refine walk_tup (xs := xs) (fun i H1 => Same H H1 ∧ H1 D = some (.lst ((((parts r).take i).flatMap id).map V.str))) ⟨same_new hD _, upd_same⟩ (fun i H1 _ hI => same_tup hI.1 hS) (fun i x H1 hxi hI => ?_) (fun H1 hI => ?_)
    · obtain ⟨sm, hd⟩ := hI
      obtain ⟨d, hdi, hxd⟩ := dpAll_at' hxs hxi
      obtain ⟨t, ht, rfl⟩ := map_at hdi
      obtain ⟨b, rfl, hb⟩ := of_wd hxd
      refine ⟨rfl, .ref b, rfl, b, rfl, ⟨_, same_tup sm hb⟩, ?_⟩
      refine walk_tup (xs := t.map V.str) (fun j H2 => Same H H2 ∧ H2 D = some (.lst ((((parts r).take i).flatMap id ++ t.take j).map V.str))) ⟨sm, by rw [List.take_zero, List.append_nil]; exact hd⟩ (fun j H2 _ hI => same_tup hI.1 hb) (fun j y H2 hy hI => ?_) (fun H2 hI => ?_)
      · obtain ⟨sm2, hd2⟩ := hI
        obtain ⟨z, hz, rfl⟩ := map_at hy
        refine ⟨rfl, .str z, rfl, _, hd2, small_line' ?_, same_put sm2 hD, ?_⟩
        · have e1 : (((parts r).take i).flatMap id).length + t.length ≤ (own r).length := by
            have e2 : own r = ((parts r).take i).flatMap id ++ ((parts r).drop i).flatMap id := by
              unfold own
              rw [← List.flatMap_append, List.take_append_drop]
            have e3 : (parts r).drop i = t :: (parts r).drop (i + 1) := by
              obtain ⟨hi, ei⟩ := List.getElem?_eq_some_iff.mp ht
              rw [← ei]
              exact List.drop_eq_getElem_cons hi
            rw [e2, e3, List.flatMap_cons, List.length_append, List.length_append]
            show _ + t.length ≤ _ + (t.length + _)
            omega
          rw [List.length_map, List.length_append, List.length_take]
          omega
        · rw [upd_same, take_snoc hz, ← List.append_assoc, List.map_append (f := V.str) (l₂ := [z])]
          rfl
      · obtain ⟨sm2, hd2⟩ := hI
        refine ⟨sm2, ?_⟩
        rw [List.length_map, List.take_length] at hd2
        rw [take_snoc ht, List.flatMap_append]
        have e : List.flatMap id [t] = t := by simp
        rw [e]
        exact hd2
    · obtain ⟨sm, hd⟩ := hI
      rw [xl, List.take_length] at hd
      exact q H1 _ sm ⟨D, rfl, .inl (SqL.of hd)⟩
/-! ### _row_without -/
def lessR (r : Rl) (ms : W) : Rl := (minus r.1 ms, minus r.2.1 ms, minus r.2.2.1 ms, minus r.2.2.2 ms)
theorem parts_less (r : Rl) (ms : W) : parts (lessR r ms) = (parts r).map fun t => minus t ms := rfl
def spRowWithout (K : PySem.W.Frag) : Sp := fun vs H Q _ => ∃ (x y : V) (r : Rl) (ms : W), vs = [x, y] ∧ Dp K H x (rd r) ∧ IsR r ∧ Ws K H y ms ∧ ∀ H' v, Same H H' → Dp K H' v (rd (lessR r ms)) → Q v H'
theorem ok_rowWithout {f1 : Addr} {fd1 : FuncData} (F : Fun K "_row_without" "_row_without" sRowWithout f fd) (T : Bl mg) (G1 : FnOk P w K mg base CX0 k f1 fd1 ["names", "left_out"] (spWithout K)) (b1 : Binds K fd1 ["names", "left_out"] []) (k1 : PySem.W.keepIn K (.ref f1) = true) (m1 : mg "without" = some (.ref f1)) :
    FnOk P w K mg base CX0 (k + 1) f fd ["row", "names"] (spRowWithout K) := by
  refine F.ok scRowWithout (fun vs H Q E h => ?_) (fun cdv A outer s H vs Q E hr h => ?_)
  · obtain ⟨x, y, r, ms, rfl, _⟩ := h
    rfl
  obtain ⟨x, y, r, ms, rfl, hx, hr', hy, q⟩ := h
  refine ⟨_, pss_one (ps_ret (pe_callTy call_tuple_of (by rfl) T.tuple (by decide +kernel) (pa_cons (pe_lc (own := [("part", 2)]) (g := gName 2) (by rfl) scRowWithout.nd (pi_tup (pv 0)) (blkOk_by (N := ["row", "names", "part"]) (sc := defScope sRowWithout) (by decide +kernel))
        (fun _ _ _ _ _ => pg_name (i := 2) scRowWithout.nd rfl (Or.inl rfl)) (fun _ _ _ _ _ => pts_nil) (fun _ _ _ _ _ => pe_call G1 hr (by rfl) m1 k1 b1 .nil pass0 (pa_cons (pv 2) (pa_cons (pv 1) pa_nil)))) pa_nil))), ?_⟩
  unfold rd at hx
  cases hx with
  | @tup a xs _ hS hxs =>
    have xl : xs.length = (parts r).length := by rw [dpAll_len hxs, List.length_map]
    refine ⟨.ref a, rfl, a, rfl, ⟨_, hS⟩, fun D hD => ?_⟩
    refine lc_tup (xs := xs) (fun i H1 => Same H H1 ∧ ∃ zs, H1 D = some (.lst zs) ∧ DpAll K H1 zs ((((parts r).take i).map fun t => minus t ms).map wd)) ⟨same_new hD _, [], upd_same, .nil⟩ (fun i H1 _ hI => same_tup hI.1 hS) (fun i x H1 hxi hI => ?_) (fun H1 hI => ?_)
    · obtain ⟨sm, zs, hd, hzs⟩ := hI
      obtain ⟨d, hdi, hxd⟩ := dpAll_at' hxs hxi
      obtain ⟨t, ht, rfl⟩ := map_at hdi
      have wt := (hr'.all t (List.mem_of_getElem? ht)).few
      have il : i < 4 := (List.getElem?_eq_some_iff.mp ht).1
      refine ⟨rfl, x, rfl, y, rfl, x, y, t, ms, rfl, (Stay.same sm).wd hxd, hy.same sm, by omega, fun H2 v s2 hv => ?_⟩
      have hd2 := s2 _ _ hd
      have st : Stay H2 (upd H2 D (.lst (zs ++ [v]))) := .put (by rw [hd2]; exact True.intro) _
      refine ⟨zs, hd2, small_line' (by rw [dpAll_len hzs, List.length_map, List.length_map, List.length_take]; omega), same_put (sm.trans s2) hD, _, upd_same, ?_⟩
      rw [take_snoc ht, List.map_append, List.map_append]
      exact dpAll_app (((Stay.same s2).trans st).dpAll _ _ (okDs_wd _) hzs) (.cons (st.wd hv) .nil)
    · obtain ⟨sm, zs, hd, hzs⟩ := hI
      rw [xl, List.take_length, ← parts_less] at hzs
      refine ⟨D, zs, rfl, .inl ⟨SqL.of hd, fun l hl => ?_⟩⟩
      have sl := same_new hl (.tup zs)
      exact q _ _ (sm.trans sl) (.tup (SqT.of upd_same) ((Stay.same sl).dpAll _ _ (okDs_wd _) hzs))
end
end Rw
namespace Rw
open PySem PySem.Spec PyProof.Rows L2
theorem scAsked : FnScope ["row", "names", "_", "denied", "needs", "bars", "wanted", "name"] ["row", "names"] (defScope sAsked) := ⟨rfl, rfl, rfl, by decide +kernel, rfl, by decide +kernel, by decide +kernel⟩
theorem scIsAskedFor : FnScope ["asked", "world", "wanted", "unwanted"] ["asked", "world"] (defScope sIsAskedFor) := ⟨rfl, rfl, rfl, by decide +kernel, rfl, by decide +kernel, by decide +kernel⟩
abbrev sENotProg : Stmt := inClass (topS 4) 0
abbrev sEWorld : Stmt := inClass (topS 5) 0
abbrev sESplit : Stmt := inClass (topS 7) 0
theorem scENotProg : FnScope ["self", "thing"] ["self", "thing"] (defScope sENotProg) := ⟨rfl, rfl, rfl, by decide +kernel, rfl, by decide +kernel, by decide +kernel⟩
theorem scEWorld : FnScope ["self", "thing"] ["self", "thing"] (defScope sEWorld) := ⟨rfl, rfl, rfl, by decide +kernel, rfl, by decide +kernel, by decide +kernel⟩
theorem scESplit : FnScope ["self", "thing"] ["self", "thing"] (defScope sESplit) := ⟨rfl, rfl, rfl, by decide +kernel, rfl, by decide +kernel, by decide +kernel⟩
def inn (ns ms : W) : W := ns.filter fun z => decide (z ∈ ms)
theorem catA_w {K : PySem.W.Frag} {H : Hp} {a b : Addr} {xs ys : List V} {Q : VK} (ha : SqT K H a xs) (hb : SqT K H b ys) (hz : xs.length + ys.length ≤ sizeLine) (q : ∀ c H0, Same H H0 → SqT K H0 c (xs ++ ys) → Q (.ref c) H0) : rCatA K (.ref a) (.ref b) H Q := by
  refine ⟨a, b, xs, ys, rfl, rfl, ha, hb, hz, fun e => ?_, fun _ e => ?_, fun _ _ p hp => ?_⟩
  · subst e
    exact q b H (fun _ _ e => e) hb
  · subst e
    exact q a H (fun _ _ e => e) (by rw [List.append_nil]; exact ha)
  · exact q p _ (same_new hp _) (SqT.of upd_same)
section
variable {P : Program} {w : World} {K : PySem.W.Frag} {mg : Str → Option Value} {base : Heap} {f : Addr} {fd : FuncData} {k : Nat}
/-! ### _asked, _is_asked_for -/
def spAsked (K : PySem.W.Frag) : Sp := fun vs H Q _ => ∃ (x y : V) (r : Rl) (ms : W), vs = [x, y] ∧ Dp K H x (rd r) ∧ IsR r ∧ Ws K H y ms ∧ ∀ H' a v1 v2, Same H H' → SqT K H' a [v1, v2] → Dp K H' v1 (wd (inn (r.2.1 ++ r.2.2.1) ms)) → Dp K H' v2 (wd (inn r.2.2.2 ms)) → Q (.ref a) H'
theorem ok_asked (F : Fun K "_asked" "_asked" sAsked f fd) (T : Bl mg) : FnOk P w K mg base CX0 (k + 1) f fd ["row", "names"] (spAsked K) := by
  refine F.ok scAsked (fun vs H Q E h => ?_) (fun cdv A outer s H vs Q E hr h => ?_)
  · obtain ⟨x, y, r, ms, rfl, _⟩ := h
    rfl
  obtain ⟨x, y, r, ms, rfl, hx, hr', ⟨b, rfl, hT⟩, q⟩ := h
  obtain ⟨a, v1, v2, v3, v4, rfl, hS, h1, h2, h3, h4⟩ := of_rd hx
  refine ⟨_, pss_cons (ps_asg (pv 0) (pg_tup (by rfl) (pgs_cons (pg_name (i := 2) scAsked.nd rfl (.inl rfl)) (pgs_cons (pg_name (i := 3) scAsked.nd rfl (.inl rfl)) (pgs_cons (pg_name (i := 4) scAsked.nd rfl (.inl rfl)) (pgs_cons (pg_name (i := 5) scAsked.nd rfl (.inl rfl)) pgs_nil))))))
    (pss_cons (ps_setLc (i := 6) (own := [("name", 7)]) (g := gName 7) (by rfl) scAsked.nd rfl rfl (sw_true rfl rfl rfl (by decide +kernel)) (pi_tup (pe_op op_catA (pv 3) (pv 4))) (blkOk_by (N := ["row", "names", "_", "denied", "needs", "bars", "wanted", "name"]) (sc := defScope sAsked) (by decide +kernel))
        (fun _ _ _ _ _ => pg_name (i := 7) scAsked.nd rfl (Or.inl rfl)) (fun _ _ _ _ _ => pts_one (pt_cmpR (r := rIn K false) op_in_seq (pv 7) (pv 1) (by rfl))) (fun _ _ _ _ _ => pv 7))
    (pss_one (ps_ret (pe_tup (pa_cons (pe_callTy call_tuple_of (by rfl) T.tuple (by decide +kernel) (pa_cons (pv 6) pa_nil)) (pa_cons (pe_callTy call_tuple_of (by rfl) T.tuple (by decide +kernel) (pa_cons (pe_lc (own := [("name", 7)]) (g := gName 7) (by rfl) scAsked.nd (pi_tup (pv 5)) (blkOk_by (N := ["row", "names", "_", "denied", "needs", "bars", "wanted", "name"]) (sc := defScope sAsked) (by decide +kernel))
        (fun _ _ _ _ _ => pg_name (i := 7) scAsked.nd rfl (Or.inl rfl)) (fun _ _ _ _ _ => pts_one (pt_cmpR (r := rIn K false) op_in_seq (pv 7) (pv 1) (by rfl))) (fun _ _ _ _ _ => pv 7)) pa_nil)) pa_nil)))))), ?_⟩
  obtain ⟨a2, rfl, t2⟩ := of_wd h2
  obtain ⟨a3, rfl, t3⟩ := of_wd h3
  obtain ⟨a4, rfl, t4⟩ := of_wd h4
  have f2 := hr'.d.few
  have f3 := hr'.n.few
  have f4 := hr'.b.few
  refine ⟨.ref a, rfl, a, [v1, .ref a2, .ref a3, .ref a4], rfl, hS, rfl, v1, _, rfl, .ref a2, _, rfl, .ref a3, _, rfl, .ref a4, [], rfl, rfl, ?_⟩
  refine ⟨.ref a2, rfl, .ref a3, rfl, catA_w t2 t3 (small_line (by rw [List.length_map, List.length_map]; omega)) fun c H0 s0 hc0 => ?_⟩
  · have hc : SqT K H0 c ((r.2.1 ++ r.2.2.1).map V.str) := by
      rw [List.map_append]
      exact hc0
    refine ⟨c, rfl, ⟨_, hc⟩, fun D hD => ?_⟩
    refine lc_tup (xs := (r.2.1 ++ r.2.2.1).map V.str) (fun i H1 => Same H0 H1 ∧ H1 D = some (.lst (((((r.2.1 ++ r.2.2.1).take i).filter fun z => decide (z ∈ ms))).map V.str))) ⟨same_new hD _, upd_same⟩ (fun i H1 _ hI => same_tup hI.1 hc) (fun i x H1 hxi hI => ?_) (fun H1 hI => ?_)
    · obtain ⟨sm, hd⟩ := hI
      obtain ⟨z, hz, rfl⟩ := map_at hxi
      have sa := s0.trans sm
      refine ⟨rfl, .str z, rfl, .ref b, rfl, b, ms.map V.str, rfl, hT.elim (fun z => .inl (sa.seq z)) (fun z => .inr (same_tup sa z)), rfl, flat_strs ms, _, rfl, ?_⟩
      rw [inV_str]
      refine ite2 (fun e => ?_) (fun e => ?_)
      · refine ⟨.str z, rfl, _, hd, small_line' ?_, same_put sm hD, ?_⟩
        · rw [List.length_map]
          have := List.length_filter_le (fun z => decide (z ∈ ms)) ((r.2.1 ++ r.2.2.1).take i)
          rw [List.length_take, List.length_append] at this
          omega
        · rw [upd_same, filt_t hz (show decide (z ∈ ms) = true by simpa using e), List.map_append]
          rfl
      · refine ⟨sm, ?_⟩
        rw [filt_f hz (show decide (z ∈ ms) = false by simpa using e)]
        exact hd
    · obtain ⟨sm, hd⟩ := hI
      rw [List.length_map, List.take_length] at hd
      have sa := s0.trans sm
      -- tuple(wanted)
      refine ⟨.ref D, rfl, D, _, rfl, .inl ⟨SqL.of hd, fun t ht => ?_⟩⟩
      have st := same_new ht (.tup ((inn (r.2.1 ++ r.2.2.1) ms).map V.str))
      have sb := sa.trans st
      refine ⟨.ref a4, rfl, a4, rfl, ⟨_, same_tup sb t4⟩, fun D2 hD2 => ?_⟩
      refine lc_tup (xs := r.2.2.2.map V.str) (fun i H2 => Same _ H2 ∧ H2 D2 = some (.lst (((r.2.2.2.take i).filter fun z => decide (z ∈ ms)).map V.str))) ⟨same_new hD2 _, upd_same⟩ (fun i H2 _ hI => same_tup (sb.trans hI.1) t4) (fun i x H2 hxi hI => ?_) (fun H2 hI => ?_)
      · obtain ⟨sm2, hd2⟩ := hI
        obtain ⟨z, hz, rfl⟩ := map_at hxi
        have sc := sb.trans sm2
        refine ⟨rfl, .str z, rfl, .ref b, rfl, b, ms.map V.str, rfl, hT.elim (fun z => .inl (sc.seq z)) (fun z => .inr (same_tup sc z)), rfl, flat_strs ms, _, rfl, ?_⟩
        rw [inV_str]
        refine ite2 (fun e => ?_) (fun e => ?_)
        · refine ⟨.str z, rfl, _, hd2, small_line' ?_, same_put sm2 hD2, ?_⟩
          · rw [List.length_map]
            have := List.length_filter_le (fun z => decide (z ∈ ms)) (r.2.2.2.take i)
            rw [List.length_take] at this
            omega
          · rw [upd_same, filt_t hz (show decide (z ∈ ms) = true by simpa using e), List.map_append]
            rfl
        · refine ⟨sm2, ?_⟩
          rw [filt_f hz (show decide (z ∈ ms) = false by simpa using e)]
          exact hd2
      · obtain ⟨sm2, hd2⟩ := hI
        rw [List.length_map, List.take_length] at hd2
        refine ⟨D2, _, rfl, .inl ⟨SqL.of hd2, fun t2' ht2 => ?_⟩⟩
        have s3 := same_new ht2 (.tup ((inn r.2.2.2 ms).map V.str))
        refine ⟨by show 2 ≤ sizeLine; decide, fun t5 ht5 => ?_⟩
        have s4 := same_new ht5 (.tup [.ref t, .ref t2'])
        exact q _ t5 _ _ (sb.trans (sm2.trans (s3.trans s4))) (SqT.of upd_same) (to_wd (SqT.of ((sm2.trans (s3.trans s4)) _ _ upd_same))) (to_wd (SqT.of (s4 _ _ upd_same)))
def askedFor (r : Rl) (ms st : W) : Bool := sub (inn (r.2.1 ++ r.2.2.1) ms) st && !meets (inn r.2.2.2 ms) st
def spIsAskedFor (K : PySem.W.Frag) : Sp := fun vs H Q _ => ∃ (a : Addr) (v1 v2 y : V) (as bs st : W), vs = [.ref a, y] ∧ SqT K H a [v1, v2] ∧ Dp K H v1 (wd as) ∧ Dp K H v2 (wd bs) ∧ Ws K H y st ∧ as.length ≤ 1000 ∧ bs.length ≤ 1000 ∧ ∀ H', Same H H' → Q (.bl (sub as st && !meets bs st)) H'
theorem ok_isAskedFor {f1 f2 : Addr} {fd1 fd2 : FuncData} (F : Fun K "_is_asked_for" "_is_asked_for" sIsAskedFor f fd) (G1 : FnOk P w K mg base CX0 k f1 fd1 ["names", "wanted"] (spHasAll K)) (b1 : Binds K fd1 ["names", "wanted"] []) (k1 : PySem.W.keepIn K (.ref f1) = true) (m1 : mg "has_all" = some (.ref f1))
    (G2 : FnOk P w K mg base CX0 k f2 fd2 ["one", "other"] (spMeet K)) (b2 : Binds K fd2 ["one", "other"] []) (k2 : PySem.W.keepIn K (.ref f2) = true) (m2 : mg "meet" = some (.ref f2)) : FnOk P w K mg base CX0 (k + 1) f fd ["asked", "world"] (spIsAskedFor K) := by
  refine F.ok scIsAskedFor (fun vs H Q E h => ?_) (fun cdv A outer s H vs Q E hr h => ?_)
  · obtain ⟨a, v1, v2, y, as, bs, st, rfl, _⟩ := h
    rfl
  obtain ⟨a, v1, v2, y, as, bs, st, rfl, hS, h1, h2, hy, l1, l2, q⟩ := h
  refine ⟨_, pss_cons (ps_asg (pv 0) (pg_tup (by rfl) (pgs_cons (pg_name (i := 2) scIsAskedFor.nd rfl (.inl rfl)) (pgs_cons (pg_name (i := 3) scIsAskedFor.nd rfl (.inl rfl)) pgs_nil))))
    (pss_one (ps_ret (pe_and (pe_call G1 hr (by rfl) m1 k1 b1 .nil pass0 (pa_cons (pv 1) (pa_cons (pv 2) pa_nil))) (pe_one (pe_not (pe_call G2 hr (by rfl) m2 k2 b2 .nil pass0 (pa_cons (pv 3) (pa_cons (pv 1) pa_nil)))))))), ?_⟩
  refine ⟨.ref a, rfl, a, [v1, v2], rfl, hS, rfl, v1, [v2], rfl, v2, [], rfl, rfl, ?_⟩
  refine ⟨y, rfl, v1, rfl, y, v1, st, as, rfl, hy, .wd h1, l1, fun H1 s1 => ⟨_, rfl, ite2 (fun e => ?_) (fun e => ?_)⟩⟩
  · rw [e] at q
    exact ⟨v2, rfl, y, rfl, v2, y, bs, st, rfl, (Stay.same s1).wd h2, hy.same s1, l2, fun H2 s2 => ⟨_, rfl, q H2 (s1.trans s2)⟩⟩
  · have e' : sub as st = false := by simpa using e
    rw [e'] at q
    exact q H1 s1
/-! ### the errors -/
theorem ok_eNotProg {C : Addr} (F : FunD K "__init__" "NotAProgram.__init__" (defArgs sENotProg) (defBody sENotProg) (defScope sENotProg) [.non] [] f fd) (O : OexC K C) (no : PySem.W.findIn K (.ref C) "thing" = some none) : FnOk P w K mg base CX0 (k + 1) f fd ["self", "thing"] (spErr C "thing") := by
  refine F.ok scENotProg (fun vs H Q E h => ?_) (fun cdv A outer s H vs Q E hr h => ?_)
  · obtain ⟨a, v, rfl, _⟩ := h
    rfl
  obtain ⟨a, v, rfl, ha, q⟩ := h
  exact ⟨_, PSs.nox (pss_one (ps_ost (pv 0) (pv 1))), v, rfl, .ref a, rfl, a, C, rfl, O, no, .inl ⟨ha, fun dx h1 h2 => q dx h1 h2⟩⟩
theorem ok_eWorld {C : Addr} (F : FunD K "__init__" "InvalidWorld.__init__" (defArgs sEWorld) (defBody sEWorld) (defScope sEWorld) [.non] [] f fd) (O : OexC K C) (no : PySem.W.findIn K (.ref C) "thing" = some none) : FnOk P w K mg base CX0 (k + 1) f fd ["self", "thing"] (spErr C "thing") := by
  refine F.ok scEWorld (fun vs H Q E h => ?_) (fun cdv A outer s H vs Q E hr h => ?_)
  · obtain ⟨a, v, rfl, _⟩ := h
    rfl
  obtain ⟨a, v, rfl, ha, q⟩ := h
  exact ⟨_, PSs.nox (pss_one (ps_ost (pv 0) (pv 1))), v, rfl, .ref a, rfl, a, C, rfl, O, no, .inl ⟨ha, fun dx h1 h2 => q dx h1 h2⟩⟩
theorem ok_eSplit {C : Addr} (F : FunD K "__init__" "NotASplit.__init__" (defArgs sESplit) (defBody sESplit) (defScope sESplit) [.non] [] f fd) (O : OexC K C) (no : PySem.W.findIn K (.ref C) "thing" = some none) : FnOk P w K mg base CX0 (k + 1) f fd ["self", "thing"] (spErr C "thing") := by
  refine F.ok scESplit (fun vs H Q E h => ?_) (fun cdv A outer s H vs Q E hr h => ?_)
  · obtain ⟨a, v, rfl, _⟩ := h
    rfl
  obtain ⟨a, v, rfl, ha, q⟩ := h
  exact ⟨_, PSs.nox (pss_one (ps_ost (pv 0) (pv 1))), v, rfl, .ref a, rfl, a, C, rfl, O, no, .inl ⟨ha, fun dx h1 h2 => q dx h1 h2⟩⟩
end
end Rw
namespace Rw
open PySem PySem.Spec PyProof.Rows L2
/-! ### refusals -/
abbrev sCheckProgram : Stmt := topS 26
abbrev sCheckWorld : Stmt := topS 27
theorem scCheckProgram : FnScope ["thing"] ["thing"] (defScope sCheckProgram) := ⟨rfl, rfl, rfl, by decide +kernel, rfl, by decide +kernel, by decide +kernel⟩
theorem scCheckWorld : FnScope ["thing"] ["thing"] (defScope sCheckWorld) := ⟨rfl, rfl, rfl, by decide +kernel, rfl, by decide +kernel, by decide +kernel⟩
/-- what the text's own error class with one field is -/
structure ErrT (P : Program) (w : World) (K : PySem.W.Frag) (mg : Str → Option Value) (base : Heap) (k : Nat) (x : Str) (n : Str) (C : Addr) : Prop where
  oex : OexC K C
  ex : ∃ (fI : Addr) (fd : FuncData), PySem.W.findIn K (.ref C) "__init__" = some (some (.ref fI)) ∧ PySem.W.typeIn K (.ref fI) = some (.type "function") ∧ FnOk P w K mg base CX0 k fI fd ["self", n] (spErr C n) ∧ Binds K fd ["self", n] []
  m : mg x = some (.ref C)
/-- what a program's class says of what is no program -/
structure PgC (K : PySem.W.Frag) (mg : Str → Option Value) (C : Addr) : Prop where
  yes : PySem.W.kitOne K (.ref C) (.ref C) = some true
  non : PySem.W.kitOne K (.type "NoneType") (.ref C) = some false
  bool : PySem.W.kitOne K (.type "bool") (.ref C) = some false
  int : PySem.W.kitOne K (.type "int") (.ref C) = some false
  str : PySem.W.kitOne K (.type "str") (.ref C) = some false
  list : PySem.W.kitOne K (.type "list") (.ref C) = some false
  tuple : PySem.W.kitOne K (.type "tuple") (.ref C) = some false
  dict : PySem.W.kitOne K (.type "dict") (.ref C) = some false
  m : mg "Program" = some (.ref C)
  cls : Cls K C
  cg : PySem.W.findIn K (.ref C) "__class__" = some (some (.builtin "object.__class__"))
  sp : PySem.W.specialIn K (.builtin "object.__class__") "__get__" = some (some (.builtin "getset_descriptor.__get__"))
  tk : PySem.W.takesIn K (.builtin "object.__class__") = some true
  mro : PySem.W.mroIn K C (.type "object") = some true
section
variable {P : Program} {w : World} {K : PySem.W.Frag} {mg : Str → Option Value} {base : Heap} {f : Addr} {fd : FuncData} {k : Nat}
theorem PgC.odd {C : Addr} (T : PgC K mg C) : ∀ d : PyData, PySem.W.kitOne K (.type (tyName d)) (.ref C) = some false
  | .none => T.non
  | .bool _ => T.bool
  | .int _ => T.int
  | .str _ => T.str
  | .list _ => T.list
  | .tuple _ => T.tuple
  | .dict _ => T.dict
def spCheckProgram (K : PySem.W.Frag) (C CE : Addr) : Sp := fun vs H Q E => ∃ v : V, vs = [v] ∧ ((∃ S, PgAt K C H v S ∧ Q .non H) ∨ (∃ d, Dp K H v d ∧ ∀ dx, H dx = none → E (.ref CE) (some dx) (upd H dx (.xd [(("thing" : Str), v)]))))
theorem ok_checkProgram {C CE : Addr} (F : Fun K "check_program" "check_program" sCheckProgram f fd) (T : Bl mg) (G : PgC K mg C) (X : ErrT P w K mg base k "NotAProgram" "thing" CE) : FnOk P w K mg base (L2.CX P w) (k + 2) f fd ["thing"] (spCheckProgram K C CE) := by
  obtain ⟨fI, fdI, i1, i2, i3, i4⟩ := X.ex
  refine F.okX scCheckProgram (fun vs H Q E h => ?_) (fun cdv A outer s H vs Q E hr h => ?_)
  · obtain ⟨v, rfl, _⟩ := h
    rfl
  obtain ⟨v, rfl, h⟩ := h
  refine ⟨_, pss_one (ps_if (pt_not (pt_val (pe_callB call_isi (by rfl) T.isi PyProof.Rows.boot_isinstance (pa_cons (pv 0) (pa_cons (pe_glob (v := .ref C) (by rfl) G.m rfl) pa_nil)))))
    (pss_one (ps_raise rfl (takes_of rfl rfl rfl rfl) (pmk_oex X.oex i1 i2 i3 hr i4 .nil pass0 (by rfl) X.m (pa_cons (pv 0) pa_nil)))) pss_nil), ?_⟩
  rcases h with ⟨S, hS, q⟩ | ⟨d, hd, q⟩
  · obtain ⟨a, dx, t, ys, rfl, h1, h2, h3⟩ := hS
    exact ⟨.ref a, rfl, .ref a, .ref C, .ref C, .ref C, true, rfl, .own C, .base (.ins h1 G.cls G.cg G.sp G.tk G.mro), G.yes, true, rfl, iteF q⟩
  · exact ⟨v, rfl, v, .ref C, .type (tyName d), .ref C, false, rfl, .own C, tyx_dp hd, G.odd d, false, rfl, iteT ⟨v, rfl, err_made q⟩⟩
def spCheckWorld (K : PySem.W.Frag) (CE : Addr) : Sp := fun vs H Q E => ∃ (v : V) (d : PyData), vs = [v] ∧ Dp K H v d ∧ oddW d ∧ ∀ H', Same H H' → (worldD d = true → Q .non H') ∧ (worldD d = false → ∀ dx, H' dx = none → E (.ref CE) (some dx) (upd H' dx (.xd [(("thing" : Str), v)])))
theorem ok_checkWorld {f1 CE : Addr} {fd1 : FuncData} (F : Fun K "check_world" "check_world" sCheckWorld f fd) (G1 : FnOk P w K mg base CX0 (k + 1) f1 fd1 ["thing"] (spIsWorld K)) (b1 : Binds K fd1 ["thing"] []) (k1 : PySem.W.keepIn K (.ref f1) = true) (m1 : mg "is_world" = some (.ref f1)) (X : ErrT P w K mg base k "InvalidWorld" "thing" CE) :
    FnOk P w K mg base (L2.CX P w) (k + 2) f fd ["thing"] (spCheckWorld K CE) := by
  obtain ⟨fI, fdI, i1, i2, i3, i4⟩ := X.ex
  refine F.okX scCheckWorld (fun vs H Q E h => ?_) (fun cdv A outer s H vs Q E hr h => ?_)
  · obtain ⟨v, d, rfl, _⟩ := h
    rfl
  obtain ⟨v, d, rfl, hd, odd, q⟩ := h
  refine ⟨_, pss_one (ps_if (pt_not (pt_val (pe_call G1 hr (by rfl) m1 k1 b1 .nil pass0 (pa_cons (pv 0) pa_nil))))
    (pss_one (ps_raise rfl (takes_of rfl rfl rfl rfl) (pmk_oex X.oex i1 i2 i3 hr i4 .nil pass0 (by rfl) X.m (pa_cons (pv 0) pa_nil)))) pss_nil), ?_⟩
  refine ⟨v, rfl, v, d, rfl, hd, odd, fun H1 s1 => ⟨_, rfl, ?_⟩⟩
  cases e : worldD d with
  | true => exact iteF ((q H1 s1).1 e)
  | false => exact iteT ⟨v, rfl, err_made ((q H1 s1).2 e)⟩
end
end Rw
namespace Rw
open PySem PySem.Spec PyProof.Rows L2
/-! ### splits, _check_split -/
abbrev sSplits : Stmt := topS 29
abbrev sCheckSplit : Stmt := topS 32
theorem scSplits : FnScope ["program", "names", "row"] ["program", "names"] (defScope sSplits) := ⟨rfl, rfl, rfl, by decide +kernel, rfl, by decide +kernel, by decide +kernel⟩
theorem scCheckSplit : FnScope ["program", "names"] ["program", "names"] (defScope sCheckSplit) := ⟨rfl, rfl, rfl, by decide +kernel, rfl, by decide +kernel, by decide +kernel⟩
def splitR (r : Rl) (ns : W) : Bool := !(meets r.1 ns) || sub (own r) ns
def splitsB (S : List Rl) (ns : W) : Bool := S.all fun r => splitR r ns
theorem all_take {α : Type} {p : α → Bool} {S : List α} {i : Nat} {r : α} (hr : S[i]? = some r) (h : (S.take i).all p = true) (b : p r = true) : (S.take (i + 1)).all p = true := by
  rw [take_snoc hr, List.all_append, h]
  simp [b]
theorem all_no {α : Type} {p : α → Bool} {S : List α} {i : Nat} {r : α} (hr : S[i]? = some r) (b : p r = false) : S.all p = false := by
  rw [List.all_eq_false]
  exact ⟨r, List.mem_of_getElem? hr, by simp [b]⟩
section
variable {P : Program} {w : World} {K : PySem.W.Frag} {mg : Str → Option Value} {base : Heap} {f : Addr} {fd : FuncData} {k : Nat}
def spSplits (K : PySem.W.Frag) (C CP CW : Addr) : Sp := fun vs H Q E => ∃ v nm : V, vs = [v, nm] ∧ ((∃ (S : List Rl) (d : PyData), PgAt K C H v S ∧ (∀ r ∈ S, IsR r) ∧ S.length < 64 ∧ Dp K H nm d ∧ oddW d ∧ ∀ H', Same H H' → (∀ ns, IsW ns → d = wd ns → Q (.bl (splitsB S ns)) H') ∧ (worldD d = false → ∀ dx, H' dx = none → E (.ref CW) (some dx) (upd H' dx (.xd [(("thing" : Str), nm)])))) ∨
  (∃ d, Dp K H v d ∧ ∀ dx, H dx = none → E (.ref CP) (some dx) (upd H dx (.xd [(("thing" : Str), v)]))))
theorem ok_splits {C CP CW pr f1 f2 f3 f4 f5 f6 : Addr} {fd1 fd2 fd3 fd4 fd5 fd6 : FuncData} (F : Fun K "splits" "splits" sSplits f fd) (c : Cls K C) (hp : PropOf K C "rules" pr f3)
    (G1 : FnOk P w K mg base (L2.CX P w) (k + 1) f1 fd1 ["thing"] (spCheckProgram K C CP)) (b1 : Binds K fd1 ["thing"] []) (k1 : PySem.W.keepIn K (.ref f1) = true) (m1 : mg "check_program" = some (.ref f1))
    (G2 : FnOk P w K mg base (L2.CX P w) (k + 1) f2 fd2 ["thing"] (spCheckWorld K CW)) (b2 : Binds K fd2 ["thing"] []) (k2 : PySem.W.keepIn K (.ref f2) = true) (m2 : mg "check_world" = some (.ref f2))
    (G3 : FnOk P w K mg base CX0 k f3 fd3 ["self"] (spRules K C)) (b3 : Binds K fd3 ["self"] [])
    (G4 : FnOk P w K mg base CX0 (k + 1) f4 fd4 ["one", "other"] (spMeet K)) (b4 : Binds K fd4 ["one", "other"] []) (k4 : PySem.W.keepIn K (.ref f4) = true) (m4 : mg "meet" = some (.ref f4))
    (G5 : FnOk P w K mg base CX0 (k + 1) f5 fd5 ["names", "wanted"] (spHasAll K)) (b5 : Binds K fd5 ["names", "wanted"] []) (k5 : PySem.W.keepIn K (.ref f5) = true) (m5 : mg "has_all" = some (.ref f5))
    (G6 : FnOk P w K mg base CX0 (k + 1) f6 fd6 ["row"] (spNamesIn K)) (b6 : Binds K fd6 ["row"] []) (k6 : PySem.W.keepIn K (.ref f6) = true) (m6 : mg "_names_in" = some (.ref f6)) :
    FnOk P w K mg base (L2.CX P w) (k + 2) f fd ["program", "names"] (spSplits K C CP CW) := by
  refine F.okX scSplits (fun vs H Q E h => ?_) (fun cdv A outer s H vs Q E hr h => ?_)
  · obtain ⟨v, nm, rfl, _⟩ := h
    rfl
  obtain ⟨v, nm, rfl, h⟩ := h
  refine ⟨_, pss_cons (ps_expr (pe_call G1 hr (by rfl) m1 k1 b1 .nil (passes_call (takes_of rfl rfl rfl rfl) (fun _ _ _ _ h => h)) (pa_cons (pv 0) pa_nil)))
    (pss_cons (ps_expr (pe_call G2 hr (by rfl) m2 k2 b2 .nil (passes_call (takes_of rfl rfl rfl rfl) (fun _ _ _ _ h => h)) (pa_cons (pv 1) pa_nil)))
    (pss_cons (ps_for (passes_of rfl) rfl (pi_tup (pe_prop (pv 0) c hp G3 hr b3 .nil pass0 rfl)) (pg_name (i := 2) scSplits.nd rfl (.inl rfl))
      (pss_one (ps_if (PW.pt (pw_and (pt_val (pe_call G4 hr (by rfl) m4 k4 b4 .nil pass0 (pa_cons (pe_ix ix_tup (pv 2) pe_int (fun _ _ => rfl)) (pa_cons (pv 1) pa_nil)))) (pw_and1 (pt_not (pt_val (pe_call G5 hr (by rfl) m5 k5 b5 .nil pass0 (pa_cons (pv 1) (pa_cons (pe_call G6 hr (by rfl) m6 k6 b6 .nil pass0 (pa_cons (pv 2) pa_nil)) pa_nil))))))))
        (pss_one (ps_ret pe_bl)) pss_nil)))
    (pss_one (ps_ret pe_bl)))), ?_⟩
  rcases h with ⟨S, d, hS, hI, few, hd, odd, q⟩ | ⟨d, hd, q⟩
  · refine ⟨v, rfl, v, rfl, .inl ⟨S, hS, ?_⟩⟩
    refine ⟨nm, rfl, nm, d, rfl, hd, odd, fun H1 s1 => ⟨fun e => ?_, (q H1 s1).2⟩⟩
    obtain ⟨ns, hn, rfl⟩ := worldD_of odd e
    have hS1 := hS.same s1
    obtain ⟨a, dx, t0, ys0, rfl, i1, i2, i3⟩ := id hS1
    refine ⟨.ref a, rfl, a, dx, _, rfl, i1, .ref a, S, rfl, hS1, fun t ys ht hys => ?_⟩
    have yl : ys.length = S.length := by rw [dpAll_len hys, List.length_map]
    refine ⟨t, rfl, ⟨_, ht⟩, ?_⟩
    refine for_tup (xs := ys) (fun i σ H2 => (∃ y2, σ = [some (.ref a), some nm, y2]) ∧ Same H1 H2 ∧ (S.take i).all (fun r => splitR r ns) = true) ⟨⟨none, rfl⟩, fun _ _ e => e, rfl⟩ (fun i σ H2 _ hI2 => same_tup hI2.2.1 ht) (fun i x σ H2 hx hI2 => ?_) (fun σ H2 hI2 => ?_)
    · obtain ⟨⟨y2, rfl⟩, sm, hall⟩ := hI2
      obtain ⟨dd, hdd, hxd⟩ := dpAll_at' hys hx
      obtain ⟨r, hr0, rfl⟩ := map_at hdd
      have hr' := hI r (List.mem_of_getElem? hr0)
      have hxd2 := dp_same sm _ _ hxd
      obtain ⟨b, v1, v2, v3, v4, rfl, hT, h1, _⟩ := of_rd hxd2
      refine ⟨.ref b, rfl, b, [v1, v2, v3, v4], 0, v1, rfl, rfl, hT, rfl, ?_⟩
      have hn2 := dp_same (s1.trans sm) _ _ hd
      have f1' := hr'.h.few
      refine ⟨nm, rfl, v1, nm, r.1, ns, rfl, h1, .wd hn2, by omega, fun H3 s3 => ⟨_, rfl, ite2 (fun e1 => ?_) (fun e1 => ?_)⟩⟩
      · have lim := own_len hr'
        refine ⟨nm, rfl, .ref b, rfl, .ref b, r, rfl, dp_same s3 _ _ hxd2, hr', fun H4 v5 s4 h5 => ?_⟩
        refine ⟨nm, v5, ns, own r, rfl, .wd (dp_same (s3.trans s4) _ _ hn2), h5, by omega, fun H5 s5 => ⟨_, rfl, ?_⟩⟩
        have all5 := s3.trans (s4.trans s5)
        cases e2 : sub (own r) ns with
        | true => exact iteF ⟨⟨_, rfl⟩, sm.trans all5, all_take hr0 hall (by show (!(meets r.1 ns) || sub (own r) ns) = true; rw [e2, Bool.or_true])⟩
        | false =>
          refine iteT ?_
          have z := (q H5 (s1.trans (sm.trans all5))).1 ns hn rfl
          rw [show splitsB S ns = false from all_no hr0 (by show (!(meets r.1 ns) || sub (own r) ns) = false; rw [e1, e2]; rfl)] at z
          exact z
      · have e1' : meets r.1 ns = false := by simpa using e1
        exact iteF ⟨⟨_, rfl⟩, sm.trans s3, all_take hr0 hall (by show (!(meets r.1 ns) || sub (own r) ns) = true; rw [e1']; rfl)⟩
    · obtain ⟨_, sm, hall⟩ := hI2
      rw [yl, List.take_length] at hall
      have z := (q H2 (s1.trans sm)).1 ns hn rfl
      rw [show splitsB S ns = true from hall] at z
      exact z
  · exact ⟨v, rfl, v, rfl, .inr ⟨d, hd, q⟩⟩
end
end Rw
namespace Rw
open PySem PySem.Spec PyProof.Rows L2
/-! ### _check_split, lower -/
abbrev sLower : Stmt := topS 30
abbrev sRest : Stmt := topS 31
theorem scLower : FnScope ["program", "names", "rows", "row"] ["program", "names"] (defScope sLower) := ⟨rfl, rfl, rfl, by decide +kernel, rfl, by decide +kernel, by decide +kernel⟩
theorem scRest : FnScope ["program", "names", "world", "upper", "rows", "row"] ["program", "names", "world"] (defScope sRest) := ⟨rfl, rfl, rfl, by decide +kernel, rfl, by decide +kernel, by decide +kernel⟩
def lowerL (S : List Rl) (ns : W) : List Rl := S.filter fun r => sub (own r) ns
/-- what is asked where a program is to be split; R is what holds when it is -/
def SpX (K : PySem.W.Frag) (C CP CW CS : Addr) (v nm : V) (H : Hp) (E : XK) (R : List Rl → W → Hp → Prop) : Prop :=
  (∃ (S : List Rl) (d : PyData), PgAt K C H v S ∧ (∀ r ∈ S, IsR r) ∧ S.length < 64 ∧ Dp K H nm d ∧ oddW d ∧ ∀ H', Same H H' → (∀ ns, IsW ns → d = wd ns → (splitsB S ns = true → R S ns H') ∧ (splitsB S ns = false → ∀ dx, H' dx = none → E (.ref CS) (some dx) (upd H' dx (.xd [(("thing" : Str), nm)])))) ∧
    (worldD d = false → ∀ dx, H' dx = none → E (.ref CW) (some dx) (upd H' dx (.xd [(("thing" : Str), nm)])))) ∨
  (∃ d, Dp K H v d ∧ ∀ dx, H dx = none → E (.ref CP) (some dx) (upd H dx (.xd [(("thing" : Str), v)])))
theorem SpX.mono {K : PySem.W.Frag} {C CP CW CS : Addr} {v nm : V} {H : Hp} {E : XK} {R R' : List Rl → W → Hp → Prop} (h : SpX K C CP CW CS v nm H E R) (m : ∀ S ns H' d, PgAt K C H v S → (∀ r ∈ S, IsR r) → S.length < 64 → Dp K H nm d → d = wd ns → IsW ns → Same H H' → R S ns H' → R' S ns H') : SpX K C CP CW CS v nm H E R' := by
  rcases h with ⟨S, d, h1, h2, h3, h4, h5, h6⟩ | h
  · exact .inl ⟨S, d, h1, h2, h3, h4, h5, fun H' s => ⟨fun ns hn e => ⟨fun b => m S ns H' d h1 h2 h3 h4 e hn s (((h6 H' s).1 ns hn e).1 b), ((h6 H' s).1 ns hn e).2⟩, (h6 H' s).2⟩⟩
  · exact .inr h
section
variable {P : Program} {w : World} {K : PySem.W.Frag} {mg : Str → Option Value} {base : Heap} {f : Addr} {fd : FuncData} {k : Nat}
def spCheckSplit (K : PySem.W.Frag) (C CP CW CS : Addr) : Sp := fun vs H Q E => ∃ v nm : V, vs = [v, nm] ∧ SpX K C CP CW CS v nm H E fun _ _ H' => Q .non H'
theorem ok_checkSplit {C CP CW CS f1 : Addr} {fd1 : FuncData} (F : Fun K "_check_split" "_check_split" sCheckSplit f fd)
    (G1 : FnOk P w K mg base (L2.CX P w) (k + 1) f1 fd1 ["program", "names"] (spSplits K C CP CW)) (b1 : Binds K fd1 ["program", "names"] []) (k1 : PySem.W.keepIn K (.ref f1) = true) (m1 : mg "splits" = some (.ref f1)) (X : ErrT P w K mg base k "NotASplit" "thing" CS) :
    FnOk P w K mg base (L2.CX P w) (k + 2) f fd ["program", "names"] (spCheckSplit K C CP CW CS) := by
  obtain ⟨fI, fdI, i1, i2, i3, i4⟩ := X.ex
  refine F.okX scCheckSplit (fun vs H Q E h => ?_) (fun cdv A outer s H vs Q E hr h => ?_)
  · obtain ⟨v, nm, rfl, _⟩ := h
    rfl
  obtain ⟨v, nm, rfl, h⟩ := h
  refine ⟨_, pss_one (ps_if (pt_not (pt_val (pe_call G1 hr (by rfl) m1 k1 b1 .nil (passes_call (takes_of rfl rfl rfl rfl) (fun _ _ _ _ h => h)) (pa_cons (pv 0) (pa_cons (pv 1) pa_nil)))))
    (pss_one (ps_raise rfl (takes_of rfl rfl rfl rfl) (pmk_oex X.oex i1 i2 i3 hr i4 .nil pass0 (by rfl) X.m (pa_cons (pv 1) pa_nil)))) pss_nil), ?_⟩
  rcases h with ⟨S, d, hS, hI, few, hd, odd, q⟩ | ⟨d, hd, q⟩
  · refine ⟨v, rfl, nm, rfl, v, nm, rfl, .inl ⟨S, d, hS, hI, few, hd, odd, fun H1 s1 => ⟨fun ns hn e => ⟨_, rfl, ?_⟩, (q H1 s1).2⟩⟩⟩
    cases e2 : splitsB S ns with
    | true => exact iteF (((q H1 s1).1 ns hn e).1 e2)
    | false => exact iteT ⟨nm, rfl, err_made (((q H1 s1).1 ns hn e).2 e2)⟩
  · exact ⟨v, rfl, nm, rfl, v, nm, rfl, .inr ⟨d, hd, q⟩⟩
def spLower (K : PySem.W.Frag) (C CP CW CS : Addr) : Sp := fun vs H Q E => ∃ v nm : V, vs = [v, nm] ∧ SpX K C CP CW CS v nm H E fun S ns H' => ∀ H2 u S2, Same H' H2 → Srt S2 (lowerL S ns) → S2.length < 64 → PgAt K C H2 u S2 → Q u H2
theorem ok_lower {C CP CW CS pr f1 f3 f5 f6 fI : Addr} {fd1 fd3 fd5 fd6 : FuncData} (F : Fun K "lower" "lower" sLower f fd) (c : Cls K C) (hp : PropOf K C "rules" pr f3) (M : Mk K C fI) (GI : FnR P w K mg base CX0 k fI (spInit K C)) (mC : mg "Program" = some (.ref C))
    (G1 : FnOk P w K mg base (L2.CX P w) (k + 1) f1 fd1 ["program", "names"] (spCheckSplit K C CP CW CS)) (b1 : Binds K fd1 ["program", "names"] []) (k1 : PySem.W.keepIn K (.ref f1) = true) (m1 : mg "_check_split" = some (.ref f1))
    (G3 : FnOk P w K mg base CX0 k f3 fd3 ["self"] (spRules K C)) (b3 : Binds K fd3 ["self"] [])
    (G5 : FnOk P w K mg base CX0 (k + 1) f5 fd5 ["names", "wanted"] (spHasAll K)) (b5 : Binds K fd5 ["names", "wanted"] []) (k5 : PySem.W.keepIn K (.ref f5) = true) (m5 : mg "has_all" = some (.ref f5))
    (G6 : FnOk P w K mg base CX0 (k + 1) f6 fd6 ["row"] (spNamesIn K)) (b6 : Binds K fd6 ["row"] []) (k6 : PySem.W.keepIn K (.ref f6) = true) (m6 : mg "_names_in" = some (.ref f6)) :
    FnOk P w K mg base (L2.CX P w) (k + 2) f fd ["program", "names"] (spLower K C CP CW CS) := by
  refine F.okX scLower (fun vs H Q E h => ?_) (fun cdv A outer s H vs Q E hr h => ?_)
  · obtain ⟨v, nm, rfl, _⟩ := h
    rfl
  obtain ⟨v, nm, rfl, h⟩ := h
  refine ⟨_, pss_cons (ps_expr (pe_call G1 hr (by rfl) m1 k1 b1 .nil (passes_call (takes_of rfl rfl rfl rfl) (fun _ _ _ _ h => h)) (pa_cons (pv 0) (pa_cons (pv 1) pa_nil))))
    (PSs.nox (pss_cons (ps_setLc (i := 2) (own := [("row", 3)]) (g := gName 3) (by rfl) scLower.nd rfl rfl (sw_true rfl rfl rfl (by decide +kernel)) (pi_tup (pe_prop (pv 0) c hp G3 hr b3 .nil pass0 rfl)) (blkOk_by (N := ["program", "names", "rows", "row"]) (sc := defScope sLower) (by decide +kernel))
        (fun _ _ _ _ _ => pg_name (i := 3) scLower.nd rfl (Or.inl rfl)) (fun _ _ _ _ _ => pts_one (pt_val (pe_call G5 hr (by rfl) m5 k5 b5 .nil pass0 (pa_cons (pv 1) (pa_cons (pe_call G6 hr (by rfl) m6 k6 b6 .nil pass0 (pa_cons (pv 3) pa_nil)) pa_nil))))) (fun _ _ _ _ _ => pv 3))
    (pss_one (ps_ret (pe_makeS M GI hr (by rfl) mC pass0 (pv 2)))))), ?_⟩
  refine ⟨v, rfl, nm, rfl, v, nm, rfl, h.mono fun S ns H1 d hS hI few hd ed hn s1 q => ?_⟩
  subst ed
  have hS1 := hS.same s1
  obtain ⟨a, dx, t0, ys0, rfl, i1, i2, i3⟩ := id hS1
  refine ⟨.ref a, rfl, a, dx, _, rfl, i1, .ref a, S, rfl, hS1, fun t ys ht hys => ?_⟩
  have yl : ys.length = S.length := by rw [dpAll_len hys, List.length_map]
  refine ⟨t, rfl, ⟨_, ht⟩, fun D hD => ?_⟩
  refine lc_tup (xs := ys) (fun i H2 => Same H1 H2 ∧ ∃ zs, H2 D = some (.lst zs) ∧ DpAll K H2 zs (((S.take i).filter fun r => sub (own r) ns).map rd)) ⟨same_new hD _, [], upd_same, .nil⟩ (fun i H2 _ hI2 => same_tup hI2.1 ht) (fun i x H2 hx hI2 => ?_) (fun H2 hI2 => ?_)
  · obtain ⟨sm, zs, hz, hzs⟩ := hI2
    obtain ⟨dd, hdd, hxd⟩ := dpAll_at' hys hx
    obtain ⟨r, hr0, rfl⟩ := map_at hdd
    have hr' := hI r (List.mem_of_getElem? hr0)
    have hxd2 := dp_same sm _ _ hxd
    have hn2 := dp_same (s1.trans sm) _ _ hd
    have lim := own_len hr'
    have il : i < S.length := (List.getElem?_eq_some_iff.mp hr0).1
    refine ⟨rfl, nm, rfl, x, rfl, x, r, rfl, hxd2, hr', fun H3 v5 s3 h5 => ?_⟩
    refine ⟨nm, v5, ns, own r, rfl, .wd (dp_same s3 _ _ hn2), h5, by omega, fun H4 s4 => ⟨_, rfl, ?_⟩⟩
    have s34 := s3.trans s4
    have hz4 := s34 _ _ hz
    have hzs4 := (Stay.same s34).dpAll _ _ (okDs_rd _) hzs
    refine ite2 (fun e => ?_) (fun e => ?_)
    · have st : Stay H4 (upd H4 D (.lst (zs ++ [x]))) := .put (by rw [hz4]; exact True.intro) _
      refine ⟨x, rfl, zs, hz4, small_line' ?_, same_put (sm.trans s34) hD, _, upd_same, ?_⟩
      · rw [dpAll_len hzs, List.length_map]
        have := List.length_filter_le (fun r => sub (own r) ns) (S.take i)
        rw [List.length_take] at this
        omega
      · rw [filt_t hr0 e, List.map_append]
        exact dpAll_app (st.dpAll _ _ (okDs_rd _) hzs4) (.cons (st.dp _ _ (ok_rd r) (dp_same s34 _ _ hxd2)) .nil)
    · refine ⟨sm.trans s34, zs, hz4, ?_⟩
      rw [filt_f hr0 (by simpa using e)]
      exact hzs4
  · obtain ⟨sm, zs, hz, hzs⟩ := hI2
    rw [yl, List.take_length] at hzs
    have fl : (lowerL S ns).length < 64 := Nat.lt_of_le_of_lt (List.length_filter_le _ _) few
    exact ⟨.ref D, rfl, D, zs, rfl, .inr (SqL.of hz), made_ok hzs (fun r hr => hI r (List.mem_filter.mp hr).1) fl fun H5 u S2 s5 a1 a2 a3 => q H5 u S2 (sm.trans s5) a1 a2 a3⟩
end
end Rw
namespace Rw
open PySem PySem.Spec PyProof.Rows L2
/-! ### rest -/
theorem isW_minus {t : W} (ms : W) (h : IsW t) : IsW (minus t ms) := ⟨fun x hx => h.names x (List.mem_filter.mp hx).1, List.Pairwise.filter _ h.up, Nat.le_trans (List.length_filter_le _ _) h.few⟩
theorem isR_less {r : Rl} (ms : W) (h : IsR r) : IsR (lessR r ms) := ⟨isW_minus ms h.h, isW_minus ms h.d, isW_minus ms h.n, isW_minus ms h.b⟩
def upperL (S : List Rl) (ns : W) : List Rl := S.filter fun r => !sub (own r) ns
def restL (S : List Rl) (ns ws : W) : List Rl := ((upperL S ns).filter fun r => askedFor r ns ws).map fun r => lessR r ns
theorem restL_isR {S : List Rl} {ns ws : W} (h : ∀ r ∈ S, IsR r) : ∀ r ∈ restL S ns ws, IsR r := fun r hr => by
  obtain ⟨q, hq, rfl⟩ := List.mem_map.mp hr
  exact isR_less ns (h q (List.mem_filter.mp (List.mem_filter.mp hq).1).1)
theorem upperL_len (S : List Rl) (ns : W) : (upperL S ns).length ≤ S.length := List.length_filter_le _ _
theorem restL_len (S : List Rl) (ns ws : W) : (restL S ns ws).length ≤ S.length := by
  unfold restL
  rw [List.length_map]
  exact Nat.le_trans (List.length_filter_le _ _) (upperL_len S ns)
theorem okDs_less (L : List Rl) (ns : W) : okDs (L.map fun r => rd (lessR r ns)) = true := by
  have := okDs_rd (L.map fun r => lessR r ns)
  rw [List.map_map] at this
  exact this
section
variable {P : Program} {w : World} {K : PySem.W.Frag} {mg : Str → Option Value} {base : Heap} {f : Addr} {fd : FuncData} {k : Nat}
def spRest (K : PySem.W.Frag) (C CP CW CS : Addr) : Sp := fun vs H Q E => ∃ (v nm wv : V) (dw : PyData), vs = [v, nm, wv] ∧ Dp K H wv dw ∧ oddW dw ∧ SpX K C CP CW CS v nm H E fun S ns H' => ∀ H2, Same H' H2 →
  (∀ ws, IsW ws → dw = wd ws → sub ws ns = true → ∀ H3 u S2, Same H2 H3 → Srt S2 (restL S ns ws) → S2.length < 64 → PgAt K C H3 u S2 → Q u H3) ∧
  ((∀ ws, IsW ws → dw = wd ws → sub ws ns = false) → ∀ dx, H2 dx = none → E (.ref CW) (some dx) (upd H2 dx (.xd [(("thing" : Str), wv)])))
theorem ok_rest {C CP CW CS pr f1 f2 f3 f4 f5 f6 f7 f8 fI : Addr} {fd1 fd2 fd3 fd4 fd5 fd6 fd7 fd8 : FuncData} (F : Fun K "rest" "rest" sRest f fd) (c : Cls K C) (hp : PropOf K C "rules" pr f3) (M : Mk K C fI) (GI : FnR P w K mg base CX0 k fI (spInit K C)) (mC : mg "Program" = some (.ref C))
    (G1 : FnOk P w K mg base (L2.CX P w) (k + 1) f1 fd1 ["program", "names"] (spCheckSplit K C CP CW CS)) (b1 : Binds K fd1 ["program", "names"] []) (k1 : PySem.W.keepIn K (.ref f1) = true) (m1 : mg "_check_split" = some (.ref f1))
    (G2 : FnOk P w K mg base CX0 (k + 1) f2 fd2 ["thing"] (spIsWorld K)) (b2 : Binds K fd2 ["thing"] []) (k2 : PySem.W.keepIn K (.ref f2) = true) (m2 : mg "is_world" = some (.ref f2)) (X : ErrT P w K mg base k "InvalidWorld" "thing" CW)
    (G3 : FnOk P w K mg base CX0 k f3 fd3 ["self"] (spRules K C)) (b3 : Binds K fd3 ["self"] [])
    (G4 : FnOk P w K mg base CX0 (k + 1) f4 fd4 ["row", "names"] (spRowWithout K)) (b4 : Binds K fd4 ["row", "names"] []) (k4 : PySem.W.keepIn K (.ref f4) = true) (m4 : mg "_row_without" = some (.ref f4))
    (G5 : FnOk P w K mg base CX0 (k + 1) f5 fd5 ["names", "wanted"] (spHasAll K)) (b5 : Binds K fd5 ["names", "wanted"] []) (k5 : PySem.W.keepIn K (.ref f5) = true) (m5 : mg "has_all" = some (.ref f5))
    (G6 : FnOk P w K mg base CX0 (k + 1) f6 fd6 ["row"] (spNamesIn K)) (b6 : Binds K fd6 ["row"] []) (k6 : PySem.W.keepIn K (.ref f6) = true) (m6 : mg "_names_in" = some (.ref f6))
    (G7 : FnOk P w K mg base CX0 (k + 1) f7 fd7 ["row", "names"] (spAsked K)) (b7 : Binds K fd7 ["row", "names"] []) (k7 : PySem.W.keepIn K (.ref f7) = true) (m7 : mg "_asked" = some (.ref f7))
    (G8 : FnOk P w K mg base CX0 (k + 1) f8 fd8 ["asked", "world"] (spIsAskedFor K)) (b8 : Binds K fd8 ["asked", "world"] []) (k8 : PySem.W.keepIn K (.ref f8) = true) (m8 : mg "_is_asked_for" = some (.ref f8)) :
    FnOk P w K mg base (L2.CX P w) (k + 2) f fd ["program", "names", "world"] (spRest K C CP CW CS) := by
  obtain ⟨fE, fdE, i1, i2, i3, i4⟩ := X.ex
  refine F.okX scRest (fun vs H Q E h => ?_) (fun cdv A outer s H vs Q E hr h => ?_)
  · obtain ⟨v, nm, wv, dw, rfl, _⟩ := h
    rfl
  obtain ⟨v, nm, wv, dw, rfl, hw, oddw, h⟩ := h
  refine ⟨_, pss_cons (ps_expr (pe_call G1 hr (by rfl) m1 k1 b1 .nil (passes_call (takes_of rfl rfl rfl rfl) (fun _ _ _ _ h => h)) (pa_cons (pv 0) (pa_cons (pv 1) pa_nil))))
    (pss_cons (ps_if (PW.pt (pw_or (pt_not (pt_val (pe_call G2 hr (by rfl) m2 k2 b2 .nil pass0 (pa_cons (pv 2) pa_nil)))) (pw_or1 (pt_not (pt_val (pe_call G5 hr (by rfl) m5 k5 b5 .nil pass0 (pa_cons (pv 1) (pa_cons (pv 2) pa_nil))))))))
      (pss_one (ps_raise rfl (takes_of rfl rfl rfl rfl) (pmk_oex X.oex i1 i2 i3 hr i4 .nil pass0 (by rfl) X.m (pa_cons (pv 2) pa_nil)))) pss_nil)
    (PSs.nox (pss_cons (ps_setLc (i := 3) (own := [("row", 5)]) (g := gName 5) (by rfl) scRest.nd rfl rfl (sw_true rfl rfl rfl (by decide +kernel)) (pi_tup (pe_prop (pv 0) c hp G3 hr b3 .nil pass0 rfl)) (blkOk_by (N := ["program", "names", "world", "upper", "rows", "row"]) (sc := defScope sRest) (by decide +kernel))
        (fun _ _ _ _ _ => pg_name (i := 5) scRest.nd rfl (Or.inl rfl)) (fun _ _ _ _ _ => pts_one (pt_not (pt_val (pe_call G5 hr (by rfl) m5 k5 b5 .nil pass0 (pa_cons (pv 1) (pa_cons (pe_call G6 hr (by rfl) m6 k6 b6 .nil pass0 (pa_cons (pv 5) pa_nil)) pa_nil)))))) (fun _ _ _ _ _ => pv 5))
    (pss_cons (ps_setLc (i := 4) (own := [("row", 5)]) (g := gName 5) (by rfl) scRest.nd rfl rfl (sw_true rfl rfl rfl (by decide +kernel)) (pi_list (pv 3)) (blkOk_by (N := ["program", "names", "world", "upper", "rows", "row"]) (sc := defScope sRest) (by decide +kernel))
        (fun _ _ _ _ _ => pg_name (i := 5) scRest.nd rfl (Or.inl rfl)) (fun _ _ _ _ _ => pts_one (pt_val (pe_call G8 hr (by rfl) m8 k8 b8 .nil pass0 (pa_cons (pe_call G7 hr (by rfl) m7 k7 b7 .nil pass0 (pa_cons (pv 5) (pa_cons (pv 1) pa_nil))) (pa_cons (pv 2) pa_nil))))) (fun _ _ _ _ _ => pe_call G4 hr (by rfl) m4 k4 b4 .nil pass0 (pa_cons (pv 5) (pa_cons (pv 1) pa_nil))))
    (pss_one (ps_ret (pe_makeS M GI hr (by rfl) mC pass0 (pv 4)))))))), ?_⟩
  refine ⟨v, rfl, nm, rfl, v, nm, rfl, h.mono fun S ns H1 d hS hI few hd ed hn s1 q => ?_⟩
  subst ed
  have hS1 := hS.same s1
  -- is the world one, and one of these names?
  refine ⟨wv, rfl, wv, dw, rfl, dp_same s1 _ _ hw, oddw, fun H2 s2 => ⟨_, rfl, ?_⟩⟩
  have hS2 := hS1.same s2
  have s12 := s1.trans s2
  have bad : worldD dw = false → ∀ ws, IsW ws → dw = wd ws → sub ws ns = false := fun e ws hws ew => by
    rw [ew, worldD_wd hws] at e
    cases e
  cases e0 : worldD dw with
  | false => exact iteT (iteT ⟨wv, rfl, err_made ((q H2 s2).2 (bad e0))⟩)
  | true =>
    obtain ⟨ws, hws, rfl⟩ := worldD_of oddw e0
    refine iteF ?_
    have l5 := hws.few
    refine ⟨nm, rfl, wv, rfl, nm, wv, ns, ws, rfl, .wd (dp_same s12 _ _ hd), .wd (dp_same s12 _ _ hw), by omega, fun H3 s3 => ⟨_, rfl, ?_⟩⟩
    have s13 := s12.trans s3
    have s23 := s2.trans s3
    cases e1 : sub ws ns with
    | false =>
      refine iteT ⟨wv, rfl, err_made ((q H3 s23).2 fun ws' hws' ew => ?_)⟩
      have := wd_inj ew
      subst this
      exact e1
    | true =>
      refine iteF ?_
      have q' := (q H3 s23).1 ws hws rfl e1
      have hS3 := hS2.same s3
      obtain ⟨a, dx, t0, ys0, rfl, j1, j2, j3⟩ := id hS3
      refine ⟨.ref a, rfl, a, dx, _, rfl, j1, .ref a, S, rfl, hS3, fun t ys ht hys => ?_⟩
      have yl : ys.length = S.length := by rw [dpAll_len hys, List.length_map]
      refine ⟨t, rfl, ⟨_, ht⟩, fun D hD => ?_⟩
      refine lc_tup (xs := ys) (fun i H4 => Same H3 H4 ∧ ∃ zs, H4 D = some (.lst zs) ∧ DpAll K H4 zs (((S.take i).filter fun r => !sub (own r) ns).map rd)) ⟨same_new hD _, [], upd_same, .nil⟩ (fun i H4 _ hI2 => same_tup hI2.1 ht) (fun i x H4 hx hI2 => ?_) (fun H4 hI2 => ?_)
      · obtain ⟨sm, zs, hz, hzs⟩ := hI2
        obtain ⟨dd, hdd, hxd⟩ := dpAll_at' hys hx
        obtain ⟨r, hr0, rfl⟩ := map_at hdd
        have hr' := hI r (List.mem_of_getElem? hr0)
        have hxd2 := dp_same sm _ _ hxd
        have hn2 := dp_same (s13.trans sm) _ _ hd
        have lim := own_len hr'
        have il : i < S.length := (List.getElem?_eq_some_iff.mp hr0).1
        refine ⟨rfl, nm, rfl, x, rfl, x, r, rfl, hxd2, hr', fun H5 v5 s5 h5 => ?_⟩
        refine ⟨nm, v5, ns, own r, rfl, .wd (dp_same s5 _ _ hn2), h5, by omega, fun H6 s6 => ⟨_, rfl, ?_⟩⟩
        have s56 := s5.trans s6
        have hz6 := s56 _ _ hz
        have hzs6 := (Stay.same s56).dpAll _ _ (okDs_rd _) hzs
        cases e2 : sub (own r) ns with
        | false =>
          refine iteT ?_
          have st : Stay H6 (upd H6 D (.lst (zs ++ [x]))) := .put (by rw [hz6]; exact True.intro) _
          refine ⟨x, rfl, zs, hz6, small_line' ?_, same_put (sm.trans s56) hD, _, upd_same, ?_⟩
          · rw [dpAll_len hzs, List.length_map]
            have := List.length_filter_le (fun r => !sub (own r) ns) (S.take i)
            rw [List.length_take] at this
            omega
          · rw [filt_t hr0 (show (!sub (own r) ns) = true by rw [e2]; rfl), List.map_append]
            exact dpAll_app (st.dpAll _ _ (okDs_rd _) hzs6) (.cons (st.dp _ _ (ok_rd r) (dp_same s56 _ _ hxd2)) .nil)
        | true =>
          refine iteF ⟨sm.trans s56, zs, hz6, ?_⟩
          rw [filt_f hr0 (show (!sub (own r) ns) = false by rw [e2]; rfl)]
          exact hzs6
      · obtain ⟨sm, zs, hz, hzs⟩ := hI2
        rw [yl, List.take_length] at hzs
        have hzs' : DpAll K H4 zs ((upperL S ns).map rd) := hzs
        have zl : zs.length = (upperL S ns).length := by rw [dpAll_len hzs', List.length_map]
        have ul := upperL_len S ns
        have s14 := s13.trans sm
        -- the rows
        refine ⟨.ref D, rfl, D, rfl, ⟨_, SqL.of hz⟩, fun D2 hD2 => ?_⟩
        refine lc_list (xs := zs) (fun i H5 => Same H4 H5 ∧ ∃ us, H5 D2 = some (.lst us) ∧ DpAll K H5 us ((((upperL S ns).take i).filter fun r => askedFor r ns ws).map fun r => rd (lessR r ns))) ⟨same_new hD2 _, [], upd_same, .nil⟩ (fun i H5 _ hI2 => SqL.of (hI2.1 _ _ hz)) (fun i x H5 hx hI2 => ?_) (fun H5 hI2 => ?_)
        · obtain ⟨sm5, us, hu, hus⟩ := hI2
          obtain ⟨dd, hdd, hxd⟩ := dpAll_at' hzs' hx
          obtain ⟨r, hr0, rfl⟩ := map_at hdd
          have hr' := hI r (List.mem_filter.mp (List.mem_of_getElem? hr0)).1
          have il : i < (upperL S ns).length := (List.getElem?_eq_some_iff.mp hr0).1
          have hxd5 := dp_same sm5 _ _ hxd
          have hn5 := dp_same (s14.trans sm5) _ _ hd
          have hw5 := dp_same (s14.trans sm5) _ _ hw
          have g1 := hr'.d.few
          have g2 := hr'.n.few
          have g3 := hr'.b.few
          refine ⟨rfl, x, rfl, nm, rfl, x, nm, r, ns, rfl, hxd5, hr', .wd hn5, fun H6 b v1 v2 s6 hb hv1 hv2 => ?_⟩
          refine ⟨wv, rfl, b, v1, v2, wv, _, _, ws, rfl, hb, hv1, hv2, .wd (dp_same s6 _ _ hw5), ?_, ?_, fun H7 s7 => ⟨_, rfl, ?_⟩⟩
          · have := List.length_filter_le (fun z => decide (z ∈ ns)) (r.2.1 ++ r.2.2.1)
            rw [List.length_append] at this
            unfold inn
            omega
          · have := List.length_filter_le (fun z => decide (z ∈ ns)) r.2.2.2
            unfold inn
            omega
          have s67 := s6.trans s7
          have hu7 := s67 _ _ hu
          refine ite2 (fun e => ?_) (fun e => ?_)
          · refine ⟨x, rfl, nm, rfl, x, nm, r, ns, rfl, dp_same s67 _ _ hxd5, hr', .wd (dp_same s67 _ _ hn5), fun H8 v8 s8 hv8 => ?_⟩
            have s68 := s67.trans s8
            have hu8 := s8 _ _ hu7
            have st : Stay H8 (upd H8 D2 (.lst (us ++ [v8]))) := .put (by rw [hu8]; exact True.intro) _
            refine ⟨us, hu8, small_line' ?_, same_put (sm5.trans s68) hD2, _, upd_same, ?_⟩
            · rw [dpAll_len hus, List.length_map]
              have := List.length_filter_le (fun r => askedFor r ns ws) ((upperL S ns).take i)
              rw [List.length_take] at this
              omega
            · rw [filt_t hr0 (show askedFor r ns ws = true from e), List.map_append]
              exact dpAll_app (((Stay.same s68).trans st).dpAll _ _ (okDs_less _ _) hus) (.cons (st.dp _ _ (ok_rd _) hv8) .nil)
          · refine ⟨sm5.trans s67, us, hu7, ?_⟩
            rw [filt_f hr0 (show askedFor r ns ws = false from Bool.eq_false_iff.mpr e)]
            exact (Stay.same s67).dpAll _ _ (okDs_less _ _) hus
        · obtain ⟨sm5, us, hu, hus⟩ := hI2
          rw [zl, List.take_length] at hus
          have hus' : DpAll K H5 us ((restL S ns ws).map rd) := by
            unfold restL
            rw [List.map_map]
            exact hus
          exact ⟨.ref D2, rfl, D2, us, rfl, .inr (SqL.of hu), made_ok hus' (restL_isR hI) (Nat.lt_of_le_of_lt (restL_len S ns ws) few) fun H6 u S2 s6 a1 a2 a3 => q' H6 u S2 (sm.trans (sm5.trans s6)) a1 a2 a3⟩
end
end Rw
namespace Rw
open PySem PySem.Spec PyProof.Rows L2
/-! ### the law's own defs: numbers -/
abbrev sLawAt : Stmt := topS 38
abbrev sLawMixed : Stmt := topS 39
abbrev sLawPurse : Stmt := topS 40
abbrev sLawDraw : Stmt := topS 41
theorem scLawAt : FnScope ["script", "k"] ["script", "k"] (defScope sLawAt) := ⟨rfl, rfl, rfl, by decide +kernel, rfl, by decide +kernel, by decide +kernel⟩
theorem scLawMixed : FnScope ["cell", "k", "number"] ["cell", "k"] (defScope sLawMixed) := ⟨rfl, rfl, rfl, by decide +kernel, rfl, by decide +kernel, by decide +kernel⟩
theorem scLawPurse : FnScope ["script", "at", "cell"] ["script", "at"] (defScope sLawPurse) := ⟨rfl, rfl, rfl, by decide +kernel, rfl, by decide +kernel, by decide +kernel⟩
theorem scLawDraw : FnScope ["purse", "out_of", "drawn", "number", "k"] ["purse", "out_of"] (defScope sLawDraw) := ⟨rfl, rfl, rfl, by decide +kernel, rfl, by decide +kernel, by decide +kernel⟩
theorem bits_small {n : Int} (h0 : 1 ≤ n) (h1 : n ≤ 1000) : (Builtin.Int.intBits n : Nat) < 30 := by
  have h : Builtin.Int.intBits n ≤ 29 := PySem.intBits_le_iff.mpr (by omega)
  omega
section
variable {P : Program} {w : World} {K : PySem.W.Frag} {mg : Str → Option Value} {base : Heap} {f : Addr} {fd : FuncData} {k : Nat}
def spLawAt (K : PySem.W.Frag) : Sp := fun vs H Q _ => ∃ (a : Addr) (ns : List Int) (j : Nat), vs = [.ref a, .int j] ∧ SqL K H a (ns.map V.int) ∧ ns.length ≤ 63 ∧ ∀ r, Q (.int r) H
theorem ok_lawAt (F : Fun K "_law_at" "_law_at" sLawAt f fd) (T : Bl mg) : FnOk P w K mg base CX0 (k + 1) f fd ["script", "k"] (spLawAt K) := by
  refine F.ok scLawAt (fun vs H Q E h => ?_) (fun cdv A outer s H vs Q E hr h => ?_)
  · obtain ⟨a, ns, j, rfl, _⟩ := h
    rfl
  obtain ⟨a, ns, j, rfl, hS, hl, q⟩ := h
  refine ⟨_, pss_cons (ps_if (pt_cmpR op_lt (pv 1) (pe_callB call_len_seq (by rfl) T.len PySem.boot_len (pa_cons (pv 0) pa_nil)) (nomark _)) (pss_one (ps_ret (pe_ix ix_list (pv 0) (pv 1) (fun _ _ => rfl)))) pss_nil) (pss_one (ps_ret pe_int)), ?_⟩
  refine ⟨.int j, rfl, .ref a, rfl, a, _, rfl, .inl hS, j, _, rfl, rfl, _, rfl, ite2 (fun e => ?_) (fun _ => ?_)⟩
  · have hlt : j < (ns.map V.int).length := by
      have := of_decide_eq_true e
      omega
    have hlt' : j < ns.length := by rwa [List.length_map] at hlt
    refine ⟨.ref a, rfl, .int j, rfl, a, _, j, .int ns[j], rfl, rfl, hS, atI_nat (j := j) ?_, q _⟩
    rw [List.getElem?_map, List.getElem?_eq_getElem hlt']
    rfl
  · exact q _
def spLawMixed : Sp := fun vs H Q _ => ∃ c k : Int, vs = [.int c, .int k] ∧ 0 ≤ c ∧ c < 2147483647 ∧ 0 ≤ k ∧ k ≤ 2000000 ∧ ∀ r, 0 ≤ r → Q (.int r) H
theorem ok_lawMixed (F : Fun K "_law_mixed" "_law_mixed" sLawMixed f fd) (T : Bl mg) : FnOk P w K mg base CX0 (k + 1) f fd ["cell", "k"] spLawMixed := by
  refine F.ok scLawMixed (fun vs H Q E h => ?_) (fun cdv A outer s H vs Q E hr h => ?_)
  · obtain ⟨c, k, rfl, _⟩ := h
    rfl
  obtain ⟨c, k, rfl, c0, c1, k0, k1, q⟩ := h
  refine ⟨_, pss_cons (ps_set (i := 2) scLawMixed.nd rfl (.inl rfl) (pe_op op_mod (pe_callTy call_int1 (by rfl) T.int (by decide +kernel) (pa_cons (pe_op op_add (pe_op op_add (pe_op op_add (pe_op op_mul (pv 0) pe_int) (pe_op op_mul (pe_op op_mul pe_int (pv 1)) (pv 1))) (pv 1)) pe_int) pa_nil)) pe_int))
    (pss_cons (ps_set (i := 2) scLawMixed.nd rfl (.inl rfl) (pe_op op_mod (pe_callTy call_int1 (by rfl) T.int (by decide +kernel) (pa_cons (pe_op op_add (pe_op op_mul (pv 2) (pv 2)) pe_int) pa_nil)) pe_int))
    (pss_one (ps_ret (pe_op op_mod (pe_callTy call_int1 (by rfl) T.int (by decide +kernel) (pa_cons (pe_op op_mul (pv 2) pe_int) pa_nil)) pe_int)))), ?_⟩
  refine ⟨.int c, rfl, c, _, rfl, rfl, .inl ⟨by omega, by omega⟩, .int k, rfl, _, k, rfl, rfl, .inl ⟨by decide, by decide⟩, .int k, rfl, _, k, rfl, rfl, .inl ⟨by omega, by omega⟩, ?_⟩
  refine ⟨_, _, rfl, rfl, .int k, rfl, _, k, rfl, rfl, _, _, rfl, rfl, .inl ⟨_, rfl, _, _, rfl, rfl, by show (0 : Int) < 2147483647; decide, ?_⟩⟩
  refine ⟨_, rfl, _, rfl, _, _, rfl, rfl, .inl (b64 (Int.emod_nonneg _ (by decide)) (Int.emod_lt_of_pos _ (by decide))), _, _, rfl, rfl, .inl ⟨_, rfl, _, _, rfl, rfl, by show (0 : Int) < 2147483629; decide, ?_⟩⟩
  refine ⟨_, rfl, _, _, rfl, rfl, .inl (b64 (Int.emod_nonneg _ (by decide)) (Int.lt_trans (Int.emod_lt_of_pos _ (by decide)) (by decide))), .inl ⟨_, rfl, _, _, rfl, rfl, by show (0 : Int) < 2147483587; decide, q _ (Int.emod_nonneg _ (by decide))⟩⟩
def spLawPurse (K : PySem.W.Frag) : Sp := fun vs H Q _ => ∃ (a : Addr) (ns : List Int) (j : Nat), vs = [.ref a, .int j] ∧ SqL K H a (ns.map V.int) ∧ ns.length ≤ 63 ∧ j ≤ 100 ∧ ∀ H' p, Same H H' → H p = none → Pur H' p 100000 → Q (.ref p) H'
theorem ok_lawPurse {f1 : Addr} {fd1 : FuncData} (F : Fun K "_law_purse" "_law_purse" sLawPurse f fd) (T : Bl mg) (G1 : FnOk P w K mg base CX0 k f1 fd1 ["script", "k"] (spLawAt K)) (b1 : Binds K fd1 ["script", "k"] []) (k1 : PySem.W.keepIn K (.ref f1) = true) (m1 : mg "_law_at" = some (.ref f1)) :
    FnOk P w K mg base CX0 (k + 1) f fd ["script", "at"] (spLawPurse K) := by
  refine F.ok scLawPurse (fun vs H Q E h => ?_) (fun cdv A outer s H vs Q E hr h => ?_)
  · obtain ⟨a, ns, j, rfl, _⟩ := h
    rfl
  obtain ⟨a, ns, j, rfl, hS, hl, hj, q⟩ := h
  refine ⟨_, pss_cons (ps_set (i := 2) scLawPurse.nd rfl (.inl rfl) (pe_call G1 hr (by rfl) m1 k1 b1 .nil pass0 (pa_cons (pv 0) (pa_cons (pv 1) pa_nil))))
    (pss_one (ps_ret (pe_lst (pa_cons (pe_op op_mod (pe_callTy call_int1 (by rfl) T.int (by decide +kernel) (pa_cons (pe_callB (call_max2 rfl) (by rfl) T.max (by decide +kernel) (pa_cons (pe_op op_sub (pv 2) (pe_op op_pow pe_int pe_int)) (pa_cons pe_int pa_nil))) pa_nil)) (pe_op op_powB (pe_op op_pow pe_int pe_int) pe_int))
      (pa_cons (pe_op op_mod (pe_callTy call_int1 (by rfl) T.int (by decide +kernel) (pa_cons (pv 2) pa_nil)) pe_int) (pa_cons (pe_op op_mul pe_int (pv 1)) pa_nil)))))), ?_⟩
  refine ⟨.ref a, rfl, .int j, rfl, a, ns, j, rfl, hS, hl, fun c => ?_⟩
  refine ⟨.int c, rfl, _, _, rfl, rfl, ⟨by decide, by decide, by decide⟩, _, _, rfl, rfl, _, _, rfl, .inl ⟨_, rfl, _, _, rfl, rfl, ⟨by decide, by decide, by decide⟩, _, _, rfl, rfl, ⟨by decide, by decide +kernel⟩, _, _, rfl, rfl, by show (0 : Int) < (10 ^ Int.toNat 60) ^ Int.toNat 10; decide +kernel, ?_⟩⟩
  refine ⟨.int c, rfl, .inl ⟨_, rfl, _, _, rfl, rfl, by show (0 : Int) < 2147483647; decide, .int j, rfl, _, _, rfl, rfl, .inl ⟨by decide, by decide⟩, by show 3 ≤ sizeLine; decide, fun p hp => ?_⟩⟩
  refine q _ p (same_new hp _) hp ⟨_, _, _, upd_same, Int.emod_nonneg _ (by decide +kernel), Int.emod_nonneg _ (by decide), Int.emod_lt_of_pos _ (by decide), ?_, ?_⟩
  · show (0 : Int) ≤ 1000 * (j : Int)
    omega
  · show 1000 * (j : Int) ≤ 100000
    omega
def spLawDraw : Sp := fun vs H Q _ => ∃ (p : Addr) (n c : Int), vs = [.ref p, .int n] ∧ Pur H p c ∧ c ≤ 1000000 ∧ 1 ≤ n ∧ n ≤ 1000 ∧ ∀ r us, 0 ≤ r → r < n → Pur (upd H p (.lst us)) p (c + 1) → Q (.int r) (upd H p (.lst us))
theorem ok_lawDraw {f1 : Addr} {fd1 : FuncData} (F : Fun K "_law_draw" "_law_draw" sLawDraw f fd) (T : Bl mg) (G1 : FnOk P w K mg base CX0 k f1 fd1 ["cell", "k"] spLawMixed) (b1 : Binds K fd1 ["cell", "k"] []) (k1 : PySem.W.keepIn K (.ref f1) = true) (m1 : mg "_law_mixed" = some (.ref f1)) :
    FnOk P w K mg base CX0 (k + 1) f fd ["purse", "out_of"] spLawDraw := by
  refine F.ok scLawDraw (fun vs H Q E h => ?_) (fun cdv A outer s H vs Q E hr h => ?_)
  · obtain ⟨p, n, c, rfl, _⟩ := h
    rfl
  obtain ⟨p, n, c, rfl, ⟨a, b, e, hp, a0, b0, b1', e0, e1⟩, c1, n0, n1, q⟩ := h
  refine ⟨_, pss_cons (ps_if (pt_cmpR op_gt (pe_ix ix_list (pv 0) pe_int (fun _ _ => rfl)) pe_int (nomark _))
      (pss_cons (ps_set (i := 2) scLawDraw.nd rfl (.inl rfl) (pe_op op_mod (pe_callTy call_int1 (by rfl) T.int (by decide +kernel) (pa_cons (pe_ix ix_list (pv 0) pe_int (fun _ _ => rfl)) pa_nil)) (pv 1)))
      (pss_cons (ps_asg (pe_op op_fdiv (pe_ix ix_list (pv 0) pe_int (fun _ _ => rfl)) (pv 1)) (pg_sub (pv 0) pe_int set_list)) (pss_one (ps_ret (pv 2))))) pss_nil)
    (pss_cons (ps_set (i := 3) scLawDraw.nd rfl (.inl rfl) pe_int)
    (pss_cons (ps_for PassesOwn.never rfl (pi_range1 rfl T.range (pa_cons (pe_op op_add pe_int (pe_op op_fdiv (pe_bits (pv 1)) pe_int)) pa_nil)) (pg_name (i := 4) scLawDraw.nd rfl (.inl rfl))
      (pss_cons (ps_asg (pe_op op_add (pe_ix ix_list (pv 0) pe_int (fun _ _ => rfl)) pe_int) (pg_sub (pv 0) pe_int set_list))
      (pss_one (ps_set (i := 3) scLawDraw.nd rfl (.inl rfl) (pe_op op_add (pe_op op_mul (pv 3) pe_int) (pe_call G1 hr (by rfl) m1 k1 b1 .nil pass0 (pa_cons (pe_ix ix_list (pv 0) pe_int (fun _ _ => rfl)) (pa_cons (pe_ix ix_list (pv 0) pe_int (fun _ _ => rfl)) pa_nil))))))))
    (pss_one (ps_ret (pe_op op_mod (pe_callTy call_int1 (by rfl) T.int (by decide +kernel) (pa_cons (pv 3) pa_nil)) (pv 1)))))), ?_⟩
  have hS : SqL K H p [.int a, .int b, .int e] := SqL.of hp
  refine ⟨.ref p, rfl, p, _, 0, .int a, rfl, rfl, hS, atI_nat (j := 0) rfl, _, _, rfl, rfl, _, rfl, ite2 (fun g => ?_) (fun _ => ?_)⟩
  · refine ⟨.ref p, rfl, p, _, 0, .int a, rfl, rfl, hS, atI_nat (j := 0) rfl, .inl ⟨_, rfl, .int n, rfl, _, _, rfl, rfl, by show 0 < n; omega, ?_⟩⟩
    refine ⟨.ref p, rfl, p, _, 0, .int a, rfl, rfl, hS, atI_nat (j := 0) rfl, .int n, rfl, _, _, rfl, rfl, ⟨by omega, by omega⟩, .ref p, rfl, p, _, 0, 0, rfl, rfl, hp, rfl, ?_⟩
    refine ⟨.int (a % n), rfl, q _ _ (Int.emod_nonneg _ (by omega)) (Int.emod_lt_of_pos _ (by omega)) ⟨a / n, b, e, upd_same, Int.ediv_nonneg a0 (by omega), b0, b1', e0, by omega⟩⟩
  · have bs := bits_small n0 n1
    have one : (1 : Int) + ((Builtin.Int.intBits n : Nat) : Int) / 30 = 1 := by omega
    refine ⟨.int n, rfl, n, rfl, _, _, rfl, rfl, ⟨by decide, by decide⟩, _, _, rfl, rfl, ?_⟩
    refine ⟨1, congrArg (fun z => [V.int z]) one, by decide, by decide, for_range (n := 1) (fun i σ H1 => (i = 0 ∧ σ = [some (.ref p), some (.int n), none, some (.int 0), none] ∧ H1 = H) ∨ (i = 1 ∧ ∃ r, 0 ≤ r ∧ σ = [some (.ref p), some (.int n), none, some (.int r), some (.int 0)] ∧ H1 = upd H p (.lst [.int a, .int b, .int (e + 1)]))) (.inl ⟨rfl, rfl, rfl⟩) (fun i σ H1 il hI => ?_) (fun σ H1 hI => ?_)⟩
    · rcases hI with ⟨rfl, rfl, rfl⟩ | ⟨rfl, _⟩
      · refine ⟨.ref p, rfl, p, _, 2, .int e, rfl, rfl, hS, atI_nat (j := 2) rfl, _, _, rfl, rfl, .ref p, rfl, p, _, 2, 2, rfl, rfl, hp, rfl, ?_⟩
        have hS2 : SqL K (upd H1 p (.lst [.int a, .int b, .int (e + 1)])) p [.int a, .int b, .int (e + 1)] := SqL.of upd_same
        refine ⟨.int 0, rfl, _, _, rfl, rfl, .inl ⟨by decide, by decide⟩, .ref p, rfl, p, _, 1, .int b, rfl, rfl, hS2, atI_nat (j := 1) rfl, .ref p, rfl, p, _, 2, .int (e + 1), rfl, rfl, hS2, atI_nat (j := 2) rfl, b, e + 1, rfl, b0, b1', by omega, by omega, fun r r0 => ?_⟩
        exact ⟨_, _, rfl, rfl, .inr ⟨rfl, 0 * 2147483587 + r, by omega, rfl, rfl⟩⟩
      · omega
    · rcases hI with ⟨z, _⟩ | ⟨_, r, r0, rfl, rfl⟩
      · omega
      · refine ⟨.int r, rfl, .inl ⟨r, rfl, .int n, rfl, _, _, rfl, rfl, by show 0 < n; omega, ?_⟩⟩
        exact q _ _ (Int.emod_nonneg _ (by omega)) (Int.emod_lt_of_pos _ (by omega)) ⟨a, b, e + 1, upd_same, a0, b0, b1', by omega, by omega⟩
end
end Rw
namespace Rw
open PySem PySem.Spec PyProof.Rows L2
/-! ### _law_some -/
def rLenK (K : PySem.W.Frag) : List V → Hp → VK → Prop := fun xs H Q => ∃ p ys, xs = [V.ref p] ∧ (SqL K H p ys ∨ SqT K H p ys) ∧ Q (.int ys.length) H
abbrev sLawSome : Stmt := topS 42
theorem scLawSome : FnScope ["purse", "letters", "most", "found", "name"] ["purse", "letters", "most"] (defScope sLawSome) := ⟨rfl, rfl, rfl, by decide +kernel, rfl, by decide +kernel, by decide +kernel⟩
section
variable {P : Program} {w : World} {K : PySem.W.Frag} {mg : Str → Option Value} {base : Heap} {f : Addr} {fd : FuncData} {k : Nat}
def spLawSome (K : PySem.W.Frag) : Sp := fun vs H Q _ => ∃ (p l : Addr) (c m : Int) (ns : W), vs = [.ref p, .ref l, .int m] ∧ Pur H p c ∧ c ≤ 900000 ∧ l ≠ p ∧ H l = some (.lst (ns.map V.str)) ∧ 1 ≤ ns.length ∧ ns.length ≤ 40 ∧
  ∀ (H' : Hp) (t : Addr) (zs : W), Bar p H H' → Pur H' p (c + 40) → SqT K H' t (zs.map V.str) → zs.Sublist ns → Q (.ref t) H'
theorem ok_lawSome {f1 : Addr} {fd1 : FuncData} (F : Fun K "_law_some" "_law_some" sLawSome f fd) (T : Bl mg) (G1 : FnOk P w K mg base CX0 k f1 fd1 ["purse", "out_of"] spLawDraw) (b1 : Binds K fd1 ["purse", "out_of"] []) (k1 : PySem.W.keepIn K (.ref f1) = true) (m1 : mg "_law_draw" = some (.ref f1)) :
    FnOk P w K mg base CX0 (k + 1) f fd ["purse", "letters", "most"] (spLawSome K) := by
  refine F.ok scLawSome (fun vs H Q E h => ?_) (fun cdv A outer s H vs Q E hr h => ?_)
  · obtain ⟨p, l, c, m, ns, rfl, _⟩ := h
    rfl
  obtain ⟨p, l, c, m, ns, rfl, hP, hc, nlp, hl, n1, n40, q⟩ := h
  refine ⟨_, pss_cons (ps_setLc (i := 3) (own := [("name", 4)]) (g := gName 4) (by rfl) scLawSome.nd rfl rfl (sw_true rfl rfl rfl (by decide +kernel)) (pi_list (pv 1)) (blkOk_by (N := ["purse", "letters", "most", "found", "name"]) (sc := defScope sLawSome) (by decide +kernel))
        (fun _ _ _ _ _ => pg_name (i := 4) scLawSome.nd rfl (Or.inl rfl)) (fun _ _ _ _ _ => pts_one (pt_cmpR op_lt (pe_call G1 hr (by rfl) m1 k1 b1 .nil pass0 (pa_cons (pv 0) (pa_cons (pe_callB (r := rLenK K) call_len_seq (by rfl) T.len PySem.boot_len (pa_cons (pv 1) pa_nil)) pa_nil))) (pv 2) (nomark _))) (fun _ _ _ _ _ => pv 4))
    (pss_one (ps_ret (pe_callTy call_tuple_of (by rfl) T.tuple (by decide +kernel) (pa_cons (pv 3) pa_nil)))), ?_⟩
  refine ⟨.ref l, rfl, l, rfl, ⟨_, SqL.of hl⟩, fun D hD => ?_⟩
  have nDp := hP.some hD
  refine lc_list (xs := ns.map V.str) (fun i H1 => Bar p H H1 ∧ Pur H1 p (c + i) ∧ H1 l = some (.lst (ns.map V.str)) ∧ ∃ zs : W, H1 D = some (.lst (zs.map V.str)) ∧ zs.Sublist (ns.take i)) ⟨Bar.same (same_new hD _), (hP.same (same_new hD _)).le (by omega), (same_new hD _) _ _ hl, [], upd_same, List.nil_sublist _⟩ (fun i H1 _ hI => SqL.of hI.2.2.1) (fun i x H1 hxi hI => ?_) (fun H1 hI => ?_)
  · obtain ⟨bar, pu, hl1, zs, hd, hsub⟩ := hI
    obtain ⟨z, hz, rfl⟩ := map_at hxi
    have il : i < ns.length := (List.getElem?_eq_some_iff.mp hz).1
    have ln : ((ns.map V.str).length : Int) = ns.length := by rw [List.length_map]
    refine ⟨rfl, .ref p, rfl, .ref l, rfl, l, _, rfl, .inl (SqL.of hl1), p, _, c + i, rfl, pu, by omega, by rw [ln]; omega, by rw [ln]; omega, fun r us r0 r1 hP1 => ?_⟩
    have bar2 : Bar p H (upd H1 p (.lst us)) := bar.trans .draw
    have hl2 : (upd H1 p (.lst us)) l = some (.lst (ns.map V.str)) := by
      rw [upd_ne nlp]
      exact hl1
    have hd2 : (upd H1 p (.lst us)) D = some (.lst (zs.map V.str)) := by
      rw [upd_ne nDp]
      exact hd
    have pu2 : Pur (upd H1 p (.lst us)) p (c + ((i + 1 : Nat) : Int)) := hP1.le (by omega)
    have hDl : l ≠ D := fun e => by
      rw [e, hD] at hl
      cases hl
    refine ⟨.int m, rfl, r, m, rfl, rfl, _, rfl, ite2 (fun e => ?_) (fun e => ?_)⟩
    · refine ⟨.str z, rfl, _, hd2, small_line' ?_, bar2.put hD, pu2.put nDp, ?_, zs ++ [z], ?_, ?_⟩
      · rw [List.length_map]
        have := hsub.length_le
        rw [List.length_take] at this
        omega
      · rw [upd_ne hDl]
        exact hl2
      · rw [upd_same, List.map_append]
        rfl
      · rw [take_snoc hz]
        exact hsub.append (List.Sublist.refl _)
    · refine ⟨bar2, pu2, hl2, zs, hd2, ?_⟩
      rw [take_snoc hz]
      exact hsub.trans (List.sublist_append_left _ _)
  · obtain ⟨bar, pu, hl1, zs, hd, hsub⟩ := hI
    rw [List.length_map, List.take_length] at hsub
    rw [List.length_map] at pu
    refine ⟨.ref D, rfl, D, _, rfl, .inl ⟨SqL.of hd, fun t ht => ?_⟩⟩
    exact q _ t zs (bar.trans (.same (same_new ht _))) ((pu.same (same_new ht _)).le (by omega)) (SqT.of upd_same) hsub
end
end Rw
namespace Rw
open PySem PySem.Spec PyProof.Rows L2
/-! ### _law_rule -/
abbrev sLawRule : Stmt := topS 43
theorem scLawRule : FnScope ["purse", "letters", "sort", "heads", "denied"] ["purse", "letters", "sort"] (defScope sLawRule) := ⟨rfl, rfl, rfl, by decide +kernel, rfl, by decide +kernel, by decide +kernel⟩
theorem slA_w {K : PySem.W.Frag} {H : Hp} {a : Addr} {xs : List V} {lo hi : Option Int} {Q : VK} (hx : SqT K H a xs) (q : ∀ c H0, Same H H0 → SqT K H0 c (cutV xs lo hi) → Q (.ref c) H0) : rSlA K (.ref a) lo hi H Q := by
  refine ⟨a, xs, rfl, hx, fun ⟨e1, e2⟩ => q a H (fun _ _ e => e) ?_, fun _ p hp => q p _ (same_new hp _) (SqT.of upd_same)⟩
  unfold cutV
  rw [e1, e2, List.drop_zero, Nat.sub_zero, List.take_length]
  exact hx
theorem cut_map (zs : W) (j : Int) : ∃ m, cutV (zs.map V.str) none (some j) = (zs.take m).map V.str := by
  refine ⟨HT.sIx (zs.map V.str).length (zs.map V.str).length (some j), ?_⟩
  unfold cutV
  show ((zs.map V.str).drop 0).take (_ - 0) = _
  rw [List.drop_zero, Nat.sub_zero, List.map_take]
theorem isW_sub {ns zs : W} (h : IsW ns) (s : zs.Sublist ns) : IsW zs := ⟨fun x hx => h.names x (s.subset hx), List.Pairwise.sublist s h.up, Nat.le_trans s.length_le h.few⟩
theorem four_at {m : Nat} (h : m < 4) : ∃ j : Int, [V.int 2, V.int 2, V.int 2, V.int 4][m]? = some (.int j) := by
  rcases m with _ | _ | _ | _ | m
  · exact ⟨_, rfl⟩
  · exact ⟨_, rfl⟩
  · exact ⟨_, rfl⟩
  · exact ⟨_, rfl⟩
  · omega
section
variable {P : Program} {w : World} {K : PySem.W.Frag} {mg : Str → Option Value} {base : Heap} {f : Addr} {fd : FuncData} {k : Nat}
def spLawRule (K : PySem.W.Frag) : Sp := fun vs H Q _ => ∃ (p l : Addr) (c : Int) (ns : W), vs = [.ref p, .ref l, .int 2] ∧ Pur H p c ∧ c ≤ 800000 ∧ l ≠ p ∧ H l = some (.lst (ns.map V.str)) ∧ 1 ≤ ns.length ∧ IsW ns ∧
  ∀ (H' : Hp) (v : V) (r : Rl), Bar p H H' → Pur H' p (c + 300) → Dp K H' v (rd r) → IsR r → (∀ t ∈ parts r, t.Sublist ns) → Q v H'
theorem ok_lawRule {f1 f2 : Addr} {fd1 fd2 : FuncData} (F : Fun K "_law_rule" "_law_rule" sLawRule f fd) (T : Bl mg) (G1 : FnOk P w K mg base CX0 k f1 fd1 ["purse", "out_of"] spLawDraw) (b1 : Binds K fd1 ["purse", "out_of"] []) (k1 : PySem.W.keepIn K (.ref f1) = true) (m1 : mg "_law_draw" = some (.ref f1))
    (G2 : FnOk P w K mg base CX0 k f2 fd2 ["purse", "letters", "most"] (spLawSome K)) (b2 : Binds K fd2 ["purse", "letters", "most"] []) (k2 : PySem.W.keepIn K (.ref f2) = true) (m2 : mg "_law_some" = some (.ref f2)) :
    FnOk P w K mg base CX0 (k + 1) f fd ["purse", "letters", "sort"] (spLawRule K) := by
  refine F.ok scLawRule (fun vs H Q E h => ?_) (fun cdv A outer s H vs Q E hr h => ?_)
  · obtain ⟨p, l, c, ns, rfl, _⟩ := h
    rfl
  obtain ⟨p, l, c, ns, rfl, hP, hc, nlp, hl, n1, hn, q⟩ := h
  have n40 := hn.few
  refine ⟨_, pss_cons (ps_set (i := 3) scLawRule.nd rfl (.inl rfl) (pe_call G2 hr (by rfl) m2 k2 b2 .nil pass0 (pa_cons (pv 0) (pa_cons (pv 1) (pa_cons (pe_op op_add pe_int (pe_call G1 hr (by rfl) m1 k1 b1 .nil pass0 (pa_cons (pv 0) (pa_cons pe_int pa_nil)))) pa_nil)))))
    (pss_cons (ps_set (i := 3) scLawRule.nd rfl (.inl rfl) (pe_slice sl_tupA (pv 3) po_none (po_some (pe_ix ix_list (pe_lst (pa_cons pe_int (pa_cons pe_int (pa_cons pe_int (pa_cons pe_int pa_nil))))) (pe_call G1 hr (by rfl) m1 k1 b1 .nil pass0 (pa_cons (pv 0) (pa_cons pe_int pa_nil))) (fun _ _ => rfl)))))
    (pss_cons (ps_if (pt_cmpR op_eq (pv 2) pe_int (nomark _)) pss_never pss_nil)
    (pss_cons (ps_set (i := 4) scLawRule.nd rfl (.inl rfl) (pe_tup pa_nil))
    (pss_mid (ps_if (PW.pt (pw_and (pt_cmpR op_eq (pv 2) pe_int (nomark _)) (pw_and1 (pt_cmpR op_eq (pe_call G1 hr (by rfl) m1 k1 b1 .nil pass0 (pa_cons (pv 0) (pa_cons pe_int pa_nil))) pe_int (nomark _))))) (pss_one (ps_set (i := 4) scLawRule.nd rfl (.inl rfl) (pe_call G2 hr (by rfl) m2 k2 b2 .nil pass0 (pa_cons (pv 0) (pa_cons (pv 1) (pa_cons pe_int pa_nil)))))) pss_nil)
    (pss_one (ps_ret (pe_tup (pa_cons (pv 3) (pa_cons (pv 4) (pa_cons (pe_call G2 hr (by rfl) m2 k2 b2 .nil pass0 (pa_cons (pv 0) (pa_cons (pv 1) (pa_cons pe_int pa_nil)))) (pa_cons (pe_call G2 hr (by rfl) m2 k2 b2 .nil pass0 (pa_cons (pv 0) (pa_cons (pv 1) (pa_cons pe_int pa_nil)))) pa_nil))))))))))), ?_⟩
  have lat : ∀ H', Bar p H H' → H' l = some (.lst (ns.map V.str)) := fun H' b => b _ _ nlp hl
  have sty : ∀ H', Bar p H H' → Stay H H' := fun H' b => b.stay hP.mut
  -- heads
  refine ⟨.ref p, rfl, .ref l, rfl, .ref p, rfl, p, 3, c, rfl, hP, by omega, by decide, by decide, fun r us r0 r1 hP1 => ?_⟩
  refine ⟨_, _, rfl, rfl, p, l, c + 1, _, ns, rfl, hP1, by omega, nlp, lat _ .draw, n1, n40, fun H2 t zs bar2 pu2 ht hs => ?_⟩
  have bar2' : Bar p H H2 := Bar.draw.trans bar2
  -- the slice
  refine ⟨.ref t, rfl, by show 4 ≤ sizeLine; decide, fun q4 hq4 => ?_⟩
  have s4 := same_new hq4 (.lst [.int 2, .int 2, .int 2, .int 4])
  have nq4 := pu2.some hq4
  refine ⟨.ref p, rfl, p, 4, _, rfl, pu2.same s4, by omega, by decide, by decide, fun r3 us3 r30 r31 hP3 => ?_⟩
  obtain ⟨m, rfl⟩ := Int.eq_ofNat_of_zero_le r30
  obtain ⟨j, hj⟩ := four_at (m := m) (by omega)
  refine ⟨q4, _, m, .int j, rfl, rfl, SqL.of (by rw [upd_ne nq4, upd_same]), atI_nat hj, ?_⟩
  have bar4 : Bar p H2 (upd (upd H2 q4 (.lst [.int 2, .int 2, .int 2, .int 4])) p (.lst us3)) := (Bar.same s4).trans .draw
  refine ⟨j, rfl, slA_w ((bar4.stay pu2.mut).seq ht) fun t5 H5 s5 ht5 => ?_⟩
  obtain ⟨mm, em⟩ := cut_map zs j
  rw [em] at ht5
  have bar5 : Bar p H H5 := (bar2'.trans bar4).trans (.same s5)
  have pu5 := hP3.same s5
  have hs5 : (zs.take mm).Sublist ns := (List.take_sublist _ _).trans hs
  have no : ∀ {i j : Int}, i ≠ j → V.bl (decide (V.int i = V.int j)) = V.bl false := fun n => congrArg V.bl (decide_eq_false fun e => n (by injection e))
  have yes : ∀ {i : Int}, V.bl (decide (V.int i = V.int i)) = V.bl true := congrArg V.bl (decide_eq_true rfl)
  refine ⟨.int 2, rfl, rfl, false, no (by decide), iteF ?_⟩
  refine ⟨by show 0 ≤ sizeLine; decide, fun t6 ht6 => ?_⟩
  have s6 := same_new ht6 (.tup [])
  have bar6 := bar5.trans (.same s6)
  have pu6 := pu5.same s6
  refine ⟨fun σ H7 => ∃ (t7 : Addr) (ds : W), σ = [some (.ref p), some (.ref l), some (.int 2), some (.ref t5), some (.ref t7)] ∧ Bar p H H7 ∧ Pur H7 p (c + 100) ∧ SqT K H7 t5 ((zs.take mm).map V.str) ∧ SqT K H7 t7 (ds.map V.str) ∧ ds.Sublist ns, ?_, ?_⟩
  · refine ⟨.int 2, rfl, rfl, true, yes, iteT ?_⟩
    refine ⟨.ref p, rfl, p, 3, _, rfl, pu6, by omega, by decide, by decide, fun r us r0 r1 hP7 => ?_⟩
    have bar7 := bar6.trans (Bar.draw (o := .lst us))
    have sty7 := (Bar.same s6).trans (Bar.draw (p := p) (o := .lst us))
    refine ⟨rfl, _, rfl, ite2 (fun e => ?_) (fun e => ?_)⟩
    · refine ⟨.ref p, rfl, .ref l, rfl, p, l, _, 1, ns, rfl, hP7, by omega, nlp, lat _ bar7, n1, n40, fun H8 t8 z8 bar8 pu8 h8 hs8 => ?_⟩
      exact ⟨t8, z8, rfl, bar7.trans bar8, pu8.le (by omega), (((sty7.trans bar8).stay pu5.mut).seq ht5), h8, hs8⟩
    · exact ⟨t6, [], rfl, bar7, hP7.le (by omega), (sty7.stay pu5.mut).seq ht5, ((Bar.draw (p := p)).stay pu6.mut).seq (SqT.of upd_same), List.nil_sublist _⟩
  · rintro σ7 H7 ⟨t7, ds, rfl, bar7, pu7, h5, h7, hds⟩
    refine ⟨.ref t5, rfl, .ref t7, rfl, .ref p, rfl, .ref l, rfl, p, l, _, 1, ns, rfl, pu7, by omega, nlp, lat _ bar7, n1, n40, fun H8 t8 z8 bar8 pu8 h8 hs8 => ?_⟩
    refine ⟨.ref p, rfl, .ref l, rfl, p, l, _, 1, ns, rfl, pu8, by omega, nlp, lat _ (bar7.trans bar8), n1, n40, fun H9 t9 z9 bar9 pu9 h9 hs9 => ?_⟩
    refine ⟨by show 4 ≤ sizeLine; decide, fun t10 ht10 => ?_⟩
    have s10 := same_new ht10 (.tup [.ref t5, .ref t7, .ref t8, .ref t9])
    have y9 := (bar9.stay pu8.mut).trans (.same s10)
    have y8 := (bar8.stay pu7.mut).trans y9
    refine q _ (.ref t10) (zs.take mm, ds, z8, z9) (((bar7.trans bar8).trans bar9).trans (.same s10)) ((pu9.same s10).le (by omega)) ?_ ⟨isW_sub hn hs5, isW_sub hn hds, isW_sub hn hs8, isW_sub hn hs9⟩ (fun t ht => ?_)
    · exact .tup (SqT.of upd_same) (.cons (to_wd (y8.seq h5)) (.cons (to_wd (y8.seq h7)) (.cons (to_wd (y9.seq h8)) (.cons (to_wd ((Stay.same s10).seq h9)) .nil))))
    · unfold parts at ht
      simp only [List.mem_cons, List.mem_nil_iff, or_false] at ht
      rcases ht with e | e | e | e <;> subst e
      · exact hs5
      · exact hds
      · exact hs8
      · exact hs9
end
end Rw
namespace Rw
open PySem PySem.Spec PyProof.Rows L2
/-! ### _law_rules -/
abbrev sLawRules : Stmt := topS 44
theorem scLawRules : FnScope ["purse", "letters", "sort", "most", "k"] ["purse", "letters", "sort", "most"] (defScope sLawRules) := ⟨rfl, rfl, rfl, by decide +kernel, rfl, by decide +kernel, by decide +kernel⟩
theorem none_same {H H' : Hp} {l : Addr} (s : Same H H') (n : H' l = none) : H l = none := by
  cases e : H l with
  | none => rfl
  | some u =>
    rw [s _ _ e] at n
    cases n
section
variable {P : Program} {w : World} {K : PySem.W.Frag} {mg : Str → Option Value} {base : Heap} {f : Addr} {fd : FuncData} {k : Nat}
/-- a rule whose names are of ns -/
def RIn (ns : W) (r : Rl) : Prop := IsR r ∧ ∀ t ∈ parts r, t.Sublist ns
def spLawRules (K : PySem.W.Frag) : Sp := fun vs H Q _ => ∃ (p l : Addr) (c : Int) (ns : W), vs = [.ref p, .ref l, .int 2, .int 10] ∧ Pur H p c ∧ c ≤ 700000 ∧ l ≠ p ∧ H l = some (.lst (ns.map V.str)) ∧ 1 ≤ ns.length ∧ IsW ns ∧
  ∀ (H' : Hp) (a : Addr) (ys : List V) (S L : List Rl), Bar p H H' → Pur H' p (c + 4000) → H a = none → H' a = some (.lst ys) → DpAll K H' ys (S.map rd) → Srt S L → S.length < 64 → (∀ r ∈ S, RIn ns r) → Q (.ref a) H'
theorem ok_lawRules {f1 f2 : Addr} {fd1 fd2 : FuncData} (F : Fun K "_law_rules" "_law_rules" sLawRules f fd) (T : Bl mg) (G1 : FnOk P w K mg base CX0 k f1 fd1 ["purse", "out_of"] spLawDraw) (b1 : Binds K fd1 ["purse", "out_of"] []) (k1 : PySem.W.keepIn K (.ref f1) = true) (m1 : mg "_law_draw" = some (.ref f1))
    (G2 : FnOk P w K mg base CX0 k f2 fd2 ["purse", "letters", "sort"] (spLawRule K)) (b2 : Binds K fd2 ["purse", "letters", "sort"] []) (k2 : PySem.W.keepIn K (.ref f2) = true) (m2 : mg "_law_rule" = some (.ref f2)) :
    FnOk P w K mg base CX0 (k + 1) f fd ["purse", "letters", "sort", "most"] (spLawRules K) := by
  refine F.ok scLawRules (fun vs H Q E h => ?_) (fun cdv A outer s H vs Q E hr h => ?_)
  · obtain ⟨p, l, c, ns, rfl, _⟩ := h
    rfl
  obtain ⟨p, l, c, ns, rfl, hP, hc, nlp, hl, n1, hn, q⟩ := h
  refine ⟨_, pss_one (ps_ret (pe_callB (cr_sortR rfl hr.units) (by rfl) T.sorted (by decide +kernel) (pa_cons (pe_callTy (cr_setR rfl hr.units) (by rfl) T.set (by decide +kernel) (pa_cons
      (pe_lc (own := [("k", 4)]) (g := gName 4) (by rfl) scLawRules.nd (pi_range1 rfl T.range (pa_cons (pe_call G1 hr (by rfl) m1 k1 b1 .nil pass0 (pa_cons (pv 0) (pa_cons (pe_op op_add (pv 3) pe_int) pa_nil))) pa_nil)) (blkOk_by (N := ["purse", "letters", "sort", "most", "k"]) (sc := defScope sLawRules) (by decide +kernel))
        (fun _ _ _ _ _ => pg_name (i := 4) scLawRules.nd rfl (Or.inl rfl)) (fun _ _ _ _ _ => pts_nil) (fun _ _ _ _ _ => pe_call G2 hr (by rfl) m2 k2 b2 .nil pass0 (pa_cons (pv 0) (pa_cons (pv 1) (pa_cons (pv 2) pa_nil))))) pa_nil)) pa_nil))), ?_⟩
  refine ⟨.ref p, rfl, .int 10, rfl, _, _, rfl, rfl, p, _, c, rfl, hP, by omega, by decide, by decide, fun r us r0 r1 hP1 => ?_⟩
  have barA : Bar p H (upd H p (.lst us)) := .draw
  have r1' : r < 11 := r1
  refine ⟨r, rfl, by omega, by omega, fun D hD => ?_⟩
  have nDp := hP1.some hD
  have hD0 := none_bar barA hP1 hD
  have sD := same_new hD (.lst [])
  refine lc_range (fun i H1 => Bar p H H1 ∧ Pur H1 p (c + 1 + 300 * i) ∧ ∃ (zs : List V) (L : List Rl), H1 D = some (.lst zs) ∧ DpAll K H1 zs (L.map rd) ∧ L.length = i ∧ ∀ r ∈ L, RIn ns r) ⟨barA.trans (.same sD), (hP1.same sD).le (by omega), [], [], upd_same, .nil, rfl, fun _ z => nomatch z⟩ (fun i H1 il hI => ?_) (fun H1 hI => ?_)
  · obtain ⟨bar, pu, zs, L, hd, hzs, hL, hR⟩ := hI
    refine ⟨rfl, .ref p, rfl, .ref l, rfl, .int 2, rfl, p, l, _, ns, rfl, pu, by omega, nlp, bar _ _ nlp hl, n1, hn, fun H2 v r2 bar2 pu2 hv hr2 hsub => ?_⟩
    have hd2 := bar2 _ _ nDp hd
    have st : Stay H2 (upd H2 D (.lst (zs ++ [v]))) := .put (by rw [hd2]; exact True.intro) _
    refine ⟨zs, hd2, small_line' ?_, (bar.trans bar2).put hD0, (pu2.put nDp).le (by omega), zs ++ [v], L ++ [r2], upd_same, ?_, by rw [List.length_append, hL]; rfl, fun r hr => ?_⟩
    · rw [dpAll_len hzs, List.length_map]
      omega
    · rw [List.map_append]
      exact dpAll_app (((bar2.stay pu.mut).trans st).dpAll _ _ (okDs_rd L) hzs) (.cons (st.dp _ _ (ok_rd r2) hv) .nil)
    · rcases List.mem_append.mp hr with h | h
      · exact hR r h
      · rw [List.mem_singleton.mp h]
        exact ⟨hr2, hsub⟩
  · obtain ⟨bar, pu, zs, L, hd, hzs, hL, hR⟩ := hI
    refine ⟨D, zs, L, rfl, .inl (SqL.of hd), hzs, by omega, fun a M ha hM isP hall => ?_⟩
    have sa := same_new ha (TSetO w a M)
    refine ⟨a, M, L, rfl, upd_same, (fun e he => ⟨(hM e he).1, (Stay.same sa).dp _ _ (hM e he).1.ok (hM e he).2⟩), isP, hall, fun ys S l2 hS hSl hys hl2 => ?_⟩
    have sl := same_new hl2 (.lst ys)
    have n0 : H1 l2 = none := none_same sa hl2
    refine q _ l2 ys S L (bar.trans (.same (sa.trans sl))) ((pu.same (sa.trans sl)).le (by omega)) (none_bar bar pu n0) upd_same ((Stay.same sl).dpAll _ _ (okDs_rd S) hys) hS hSl fun r hr => hR r ((hS.mem r).mp hr)
end
end Rw
namespace Rw
open PySem PySem.Spec PyProof.Rows L2
/-! ### _law_own, _law_splits -/
abbrev sLawOwn : Stmt := topS 45
abbrev sLawSplits : Stmt := topS 46
theorem scLawOwn : FnScope ["row"] ["row"] (defScope sLawOwn) := ⟨rfl, rfl, rfl, by decide +kernel, rfl, by decide +kernel, by decide +kernel⟩
theorem scLawSplits : FnScope ["rules", "lot", "row", "outer", "name"] ["rules", "lot"] (defScope sLawSplits) := ⟨rfl, rfl, rfl, by decide +kernel, rfl, by decide +kernel, by decide +kernel⟩
theorem own_eq (r : Rl) : own r = ((r.1 ++ r.2.1) ++ r.2.2.1) ++ r.2.2.2 := by
  unfold own parts
  simp only [List.flatMap_cons, List.flatMap_nil, id, List.append_nil, List.append_assoc]
section
variable {P : Program} {w : World} {K : PySem.W.Frag} {mg : Str → Option Value} {base : Heap} {f : Addr} {fd : FuncData} {k : Nat}
def spLawOwn (K : PySem.W.Frag) : Sp := fun vs H Q _ => ∃ (x : V) (r : Rl), vs = [x] ∧ Dp K H x (rd r) ∧ IsR r ∧ ∀ (H' : Hp) (t : Addr), Same H H' → SqT K H' t ((own r).map V.str) → Q (.ref t) H'
theorem ok_lawOwn (F : Fun K "_law_own" "_law_own" sLawOwn f fd) : FnOk P w K mg base CX0 (k + 1) f fd ["row"] (spLawOwn K) := by
  refine F.ok scLawOwn (fun vs H Q E h => ?_) (fun cdv A outer s H vs Q E hr h => ?_)
  · obtain ⟨x, r, rfl, _⟩ := h
    rfl
  obtain ⟨x, r, rfl, hx, hr', q⟩ := h
  refine ⟨_, pss_one (ps_ret (pe_op op_catA (pe_op op_catA (pe_op op_catA (pe_ix ix_tup (pv 0) pe_int (fun _ _ => rfl)) (pe_ix ix_tup (pv 0) pe_int (fun _ _ => rfl))) (pe_ix ix_tup (pv 0) pe_int (fun _ _ => rfl))) (pe_ix ix_tup (pv 0) pe_int (fun _ _ => rfl)))), ?_⟩
  obtain ⟨a, v1, v2, v3, v4, rfl, hS, h1, h2, h3, h4⟩ := of_rd hx
  obtain ⟨a1, rfl, t1⟩ := of_wd h1
  obtain ⟨a2, rfl, t2⟩ := of_wd h2
  obtain ⟨a3, rfl, t3⟩ := of_wd h3
  obtain ⟨a4, rfl, t4⟩ := of_wd h4
  have f1 := hr'.h.few
  have f2 := hr'.d.few
  have f3 := hr'.n.few
  have f4 := hr'.b.few
  refine ⟨.ref a, rfl, a, _, 0, .ref a1, rfl, rfl, hS, rfl, .ref a, rfl, a, _, 1, .ref a2, rfl, rfl, hS, rfl, catA_w t1 t2 (small_line (by rw [List.length_map, List.length_map]; omega)) fun c1 H1 s1 hc1 => ?_⟩
  have hS1 := same_tup s1 hS
  refine ⟨.ref a, rfl, a, _, 2, .ref a3, rfl, rfl, hS1, rfl, catA_w hc1 (same_tup s1 t3) (small_line (by rw [List.length_append, List.length_map, List.length_map, List.length_map]; omega)) fun c2 H2 s2 hc2 => ?_⟩
  refine ⟨.ref a, rfl, a, _, 3, .ref a4, rfl, rfl, same_tup s2 hS1, rfl, catA_w hc2 (same_tup (s1.trans s2) t4) (small_line (by rw [List.length_append, List.length_append, List.length_map, List.length_map, List.length_map, List.length_map]; omega)) fun c3 H3 s3 hc3 => ?_⟩
  refine q H3 c3 (s1.trans (s2.trans s3)) ?_
  rw [own_eq, List.map_append, List.map_append, List.map_append]
  exact hc3
end
end Rw
namespace Rw
open PySem PySem.Spec PyProof.Rows L2
theorem eqv_nil (zs : W) : PyData.eqv (.list (zs.map .str)) (.list []) = decide (zs = []) := by
  rw [PyData.eqv]
  have z := eqv_strs zs []
  rw [List.map_nil] at z
  exact z
theorem ne_nil {K : PySem.W.Frag} {H : Hp} {D e : Addr} {zs : W} {Q : VK} (hz : SqL K H D (zs.map V.str)) (he : SqL K H e []) (hn : ∀ x ∈ zs, nameB x = true) (q : Q (.bl (!decide (zs = []))) H) : rNeD K (.ref D) (.ref e) H Q := by
  refine ⟨.list (zs.map .str), .list [], .lst hz (dps_strs _), .lst he .nil, shaped_strs hn, by decide, ?_⟩
  rw [eqv_nil]
  exact q
theorem own_names {r : Rl} (h : IsR r) : ∀ x ∈ own r, nameB x = true := fun x hx => by
  obtain ⟨t, ht, hx⟩ := own_mem.mp hx
  exact (h.all t ht).names x hx
theorem meets_inn (ns ms : W) : meets ns ms = !decide (inn ns ms = []) := by
  unfold meets inn
  cases c : ns.any (fun z => decide (z ∈ ms)) with
  | true =>
    rw [decide_eq_false fun z => ?_]
    · rfl
    · obtain ⟨x, hx, hm⟩ := List.any_eq_true.mp c
      exact absurd hm (List.filter_eq_nil_iff.mp z x hx)
  | false =>
    rw [decide_eq_true (List.filter_eq_nil_iff.mpr fun x hx hm => ?_)]
    · rfl
    · exact absurd hm (by simpa using List.any_eq_false.mp c x hx)
theorem sub_minus (ns ms : W) : sub ns ms = decide (minus ns ms = []) := by
  unfold minus
  cases c : sub ns ms with
  | true =>
    refine (decide_eq_true (List.filter_eq_nil_iff.mpr fun x hx => ?_)).symm
    have := sub_mem c x hx
    simpa using this
  | false =>
    refine (decide_eq_false fun z => ?_).symm
    have y : sub ns ms = true := sub_of fun x hx => by
      have := List.filter_eq_nil_iff.mp z x hx
      simpa using this
    rw [c] at y
    exact nomatch y
section
variable {P : Program} {w : World} {K : PySem.W.Frag} {mg : Str → Option Value} {base : Heap} {f : Addr} {fd : FuncData} {k : Nat}
def spLawSplits (K : PySem.W.Frag) : Sp := fun vs H Q _ => ∃ (a : Addr) (y : V) (ys : List V) (S : List Rl) (lot : W), vs = [.ref a, y] ∧ SqL K H a ys ∧ DpAll K H ys (S.map rd) ∧ (∀ r ∈ S, IsR r) ∧ Dp K H y (wd lot) ∧ ∀ H', Same H H' → Q (.bl (splitsB S lot)) H'
theorem ok_lawSplits {f1 : Addr} {fd1 : FuncData} (F : Fun K "_law_splits" "_law_splits" sLawSplits f fd) (G1 : FnOk P w K mg base CX0 k f1 fd1 ["row"] (spLawOwn K)) (b1 : Binds K fd1 ["row"] []) (k1 : PySem.W.keepIn K (.ref f1) = true) (m1 : mg "_law_own" = some (.ref f1)) :
    FnOk P w K mg base CX0 (k + 1) f fd ["rules", "lot"] (spLawSplits K) := by
  refine F.ok scLawSplits (fun vs H Q E h => ?_) (fun cdv A outer s H vs Q E hr h => ?_)
  · obtain ⟨a, y, ys, S, lot, rfl, _⟩ := h
    rfl
  obtain ⟨a, y, ys, S, lot, rfl, hS, hys, hI, hy, q⟩ := h
  refine ⟨_, pss_cons (ps_for PassesOwn.never rfl (pi_list (pv 0)) (pg_name (i := 2) scLawSplits.nd rfl (.inl rfl))
      (pss_cons (ps_setLc (i := 3) (own := [("name", 4)]) (g := gName 4) (by rfl) scLawSplits.nd rfl rfl (sw_true rfl rfl rfl (by decide +kernel)) (pi_tup (pe_call G1 hr (by rfl) m1 k1 b1 .nil pass0 (pa_cons (pv 2) pa_nil))) (blkOk_by (N := ["rules", "lot", "row", "outer", "name"]) (sc := defScope sLawSplits) (by decide +kernel))
        (fun _ _ _ _ _ => pg_name (i := 4) scLawSplits.nd rfl (Or.inl rfl)) (fun _ _ _ _ _ => pts_one (pt_cmpR (r := rIn K true) op_notIn_seq (pv 4) (pv 1) (by rfl))) (fun _ _ _ _ _ => pv 4))
      (pss_one (ps_if (PW.pt (pw_and (pt_cmpR (op_neD hr.units) (pe_lc (own := [("name", 4)]) (g := gName 4) (by rfl) scLawSplits.nd (pi_tup (pe_ix ix_tup (pv 2) pe_int (fun _ _ => rfl))) (blkOk_by (N := ["rules", "lot", "row", "outer", "name"]) (sc := defScope sLawSplits) (by decide +kernel))
          (fun _ _ _ _ _ => pg_name (i := 4) scLawSplits.nd rfl (Or.inl rfl)) (fun _ _ _ _ _ => pts_one (pt_cmpR (r := rIn K false) op_in_seq (pv 4) (pv 1) (by rfl))) (fun _ _ _ _ _ => pv 4)) (pe_lst pa_nil) (nomark _))
          (pw_and1 (pt_cmpR (op_neD hr.units) (pv 3) (pe_lst pa_nil) (nomark _))))) (pss_one (ps_ret pe_bl)) pss_nil))))
    (pss_one (ps_ret pe_bl)), ?_⟩
  have yl : ys.length = S.length := by rw [dpAll_len hys, List.length_map]
  obtain ⟨b, rfl, hT⟩ := of_wd hy
  refine ⟨.ref a, rfl, a, rfl, ⟨_, hS⟩, for_list (xs := ys) (fun i σ H1 => (∃ y2 y3, σ = [some (.ref a), some (.ref b), y2, y3, none]) ∧ Same H H1 ∧ (S.take i).all (fun r => splitR r lot) = true) ⟨⟨none, none, rfl⟩, fun _ _ e => e, rfl⟩ (fun i σ H1 _ hI2 => hI2.2.1.seq hS) (fun i x σ H1 hx hI2 => ?_) (fun σ H1 hI2 => ?_)⟩
  · obtain ⟨⟨y2, y3, rfl⟩, sm, hall⟩ := hI2
    obtain ⟨dd, hdd, hxd⟩ := dpAll_at' hys hx
    obtain ⟨r, hr0, rfl⟩ := map_at hdd
    have hr' := hI r (List.mem_of_getElem? hr0)
    have lim := own_len hr'
    have f1 := hr'.h.few
    have hxd1 := dp_same sm _ _ hxd
    refine ⟨x, rfl, x, r, rfl, hxd1, hr', fun H2 t s2 ht => ?_⟩
    refine ⟨t, rfl, ⟨_, ht⟩, fun D hD => ?_⟩
    have sD := same_new hD (.lst [])
    refine lc_tup (xs := (own r).map V.str) (fun i H3 => Same H2 H3 ∧ H3 D = some (.lst ((minus ((own r).take i) lot).map V.str))) ⟨sD, upd_same⟩ (fun i H3 _ hI => same_tup hI.1 ht) (fun i x3 H3 hx3 hI3 => ?_) (fun H3 hI3 => ?_)
    · obtain ⟨sm3, hd⟩ := hI3
      obtain ⟨z, hz, rfl⟩ := map_at hx3
      refine ⟨rfl, .str z, rfl, .ref b, rfl, b, lot.map V.str, rfl, .inr (same_tup (sm.trans (s2.trans sm3)) hT), rfl, flat_strs lot, _, rfl, ?_⟩
      rw [inV_str]
      refine ite2 (fun e => ?_) (fun e => ?_)
      · refine ⟨.str z, rfl, _, hd, small_line' ?_, same_put sm3 hD, ?_⟩
        · rw [List.length_map]
          unfold minus
          have := List.length_filter_le (fun z => !decide (z ∈ lot)) ((own r).take i)
          rw [List.length_take] at this
          omega
        · unfold minus
          rw [upd_same, filt_t hz (show (!decide (z ∈ lot)) = true by simpa using e), List.map_append]
          rfl
      · refine ⟨sm3, ?_⟩
        unfold minus
        rw [filt_f hz (show (!decide (z ∈ lot)) = false by simpa using e)]
        exact hd
    · obtain ⟨sm3, hd⟩ := hI3
      rw [List.length_map, List.take_length] at hd
      have s13 := sm.trans (s2.trans sm3)
      -- the heads in the lot
      obtain ⟨b5, v1, v2, v3, v4, rfl, hR, h1, _⟩ := of_rd hxd1
      obtain ⟨a1, rfl, t1⟩ := of_wd h1
      have t13 := same_tup (s2.trans sm3) t1
      refine ⟨.ref b5, rfl, b5, _, 0, .ref a1, rfl, rfl, same_tup (s2.trans sm3) hR, rfl, a1, rfl, ⟨_, t13⟩, fun D2 hD2 => ?_⟩
      have sD2 := same_new hD2 (.lst [])
      refine lc_tup (xs := r.1.map V.str) (fun i H4 => Same H3 H4 ∧ H4 D2 = some (.lst ((inn (r.1.take i) lot).map V.str))) ⟨sD2, upd_same⟩ (fun i H4 _ hI => same_tup hI.1 t13) (fun i x4 H4 hx4 hI4 => ?_) (fun H4 hI4 => ?_)
      · obtain ⟨sm4, hd4⟩ := hI4
        obtain ⟨z, hz, rfl⟩ := map_at hx4
        refine ⟨rfl, .str z, rfl, .ref b, rfl, b, lot.map V.str, rfl, .inr (same_tup (s13.trans sm4) hT), rfl, flat_strs lot, _, rfl, ?_⟩
        rw [inV_str]
        refine ite2 (fun e => ?_) (fun e => ?_)
        · refine ⟨.str z, rfl, _, hd4, small_line' ?_, same_put sm4 hD2, ?_⟩
          · rw [List.length_map]
            unfold inn
            have := List.length_filter_le (fun z => decide (z ∈ lot)) (r.1.take i)
            rw [List.length_take] at this
            omega
          · unfold inn
            rw [upd_same, filt_t hz (show decide (z ∈ lot) = true by simpa using e), List.map_append]
            rfl
        · refine ⟨sm4, ?_⟩
          unfold inn
          rw [filt_f hz (show decide (z ∈ lot) = false by simpa using e)]
          exact hd4
      · obtain ⟨sm4, hd4⟩ := hI4
        rw [List.length_map, List.take_length] at hd4
        refine ⟨by show 0 ≤ sizeLine; decide, fun e he => ?_⟩
        have se := same_new he (.lst [])
        refine ne_nil (SqL.of (se _ _ hd4)) (SqL.of upd_same) (fun x hx => hr'.h.names x (List.mem_filter.mp hx).1) ⟨_, rfl, ?_⟩
        rw [← meets_inn]
        refine ite2 (fun c => ?_) (fun c => ?_)
        · refine ⟨.ref D, rfl, by show 0 ≤ sizeLine; decide, fun e2 he2 => ?_⟩
          have se2 := same_new he2 (.lst [])
          have s6 := sm4.trans (se.trans se2)
          refine ne_nil (SqL.of (s6 _ _ hd)) (SqL.of upd_same) (fun x hx => own_names hr' x (List.mem_filter.mp hx).1) ⟨_, rfl, ?_⟩
          rw [← sub_minus]
          cases e5 : sub (own r) lot with
          | true => exact iteF ⟨⟨_, _, rfl⟩, s13.trans s6, all_take hr0 hall (by show (!(meets r.1 lot) || sub (own r) lot) = true; rw [e5, Bool.or_true])⟩
          | false =>
            refine iteT ?_
            have z := q _ (s13.trans s6)
            rw [show splitsB S lot = false from all_no hr0 (by show (!(meets r.1 lot) || sub (own r) lot) = false; rw [c, e5]; rfl)] at z
            exact z
        · have c' : meets r.1 lot = false := by simpa using c
          exact iteF ⟨⟨_, _, rfl⟩, s13.trans (sm4.trans se), all_take hr0 hall (by show (!(meets r.1 lot) || sub (own r) lot) = true; rw [c']; rfl)⟩
  · obtain ⟨_, sm, hall⟩ := hI2
    rw [yl, List.take_length] at hall
    have z := q H1 sm
    rw [show splitsB S lot = true from hall] at z
    exact z
end
end Rw
namespace Rw
open PySem PySem.Spec PyProof.Rows L2
/-! ### _law_lot -/
abbrev sLawLot : Stmt := topS 49
theorem scLawLot : FnScope ["purse", "rules", "letters", "lot", "turn", "row", "name"] ["purse", "rules", "letters"] (defScope sLawLot) := ⟨rfl, rfl, rfl, by decide +kernel, rfl, by decide +kernel, by decide +kernel⟩
theorem isW_of {ns zs : W} (h : IsW ns) (rz : RisingX zs) (nz : zs.Nodup) (s : ∀ z ∈ zs, z ∈ ns) : IsW zs := ⟨fun x hx => h.names x (s x hx), upX_of rz nz, Nat.le_trans (nodup_len_le nz s) h.few⟩
theorem RIn.own {ns : W} {r : Rl} (h : RIn ns r) : ∀ z ∈ Rw.own r, z ∈ ns := fun z hz => by
  obtain ⟨t, ht, hz⟩ := own_mem.mp hz
  exact (h.2 t ht).subset hz
section
variable {P : Program} {w : World} {K : PySem.W.Frag} {mg : Str → Option Value} {base : Heap} {f : Addr} {fd : FuncData} {k : Nat}
def spLawLot (K : PySem.W.Frag) : Sp := fun vs H Q _ => ∃ (p a l : Addr) (c : Int) (ns : W) (ys : List V) (S : List Rl), vs = [.ref p, .ref a, .ref l] ∧ Pur H p c ∧ c ≤ 600000 ∧ l ≠ p ∧ H l = some (.lst (ns.map V.str)) ∧ 1 ≤ ns.length ∧ IsW ns ∧ a ≠ p ∧ H a = some (.lst ys) ∧ DpAll K H ys (S.map rd) ∧ (∀ r ∈ S, RIn ns r) ∧
  ∀ (H' : Hp) (t : Addr) (lot : W), Bar p H H' → Pur H' p (c + 100) → SqT K H' t (lot.map V.str) → IsW lot → (∀ x ∈ lot, x ∈ ns) → Q (.ref t) H'
theorem ok_lawLot {f1 f2 f3 : Addr} {fd1 fd2 fd3 : FuncData} (F : Fun K "_law_lot" "_law_lot" sLawLot f fd) (T : Bl mg) (G1 : FnOk P w K mg base CX0 k f1 fd1 ["purse", "out_of"] spLawDraw) (b1 : Binds K fd1 ["purse", "out_of"] []) (k1 : PySem.W.keepIn K (.ref f1) = true) (m1 : mg "_law_draw" = some (.ref f1))
    (G2 : FnOk P w K mg base CX0 k f2 fd2 ["purse", "letters", "most"] (spLawSome K)) (b2 : Binds K fd2 ["purse", "letters", "most"] []) (k2 : PySem.W.keepIn K (.ref f2) = true) (m2 : mg "_law_some" = some (.ref f2))
    (G3 : FnOk P w K mg base CX0 k f3 fd3 ["row"] (spLawOwn K)) (b3 : Binds K fd3 ["row"] []) (k3 : PySem.W.keepIn K (.ref f3) = true) (m3 : mg "_law_own" = some (.ref f3)) :
    FnOk P w K mg base CX0 (k + 1) f fd ["purse", "rules", "letters"] (spLawLot K) := by
  refine F.ok scLawLot (fun vs H Q E h => ?_) (fun cdv A outer s H vs Q E hr h => ?_)
  · obtain ⟨p, a, l, c, ns, ys, S, rfl, _⟩ := h
    rfl
  obtain ⟨p, a, l, c, ns, ys, S, rfl, hP, hc, nlp, hl, n1, hn, nap, ha, hys, hI, q⟩ := h
  have n40 := hn.few
  have yl : ys.length = S.length := by rw [dpAll_len hys, List.length_map]
  refine ⟨_, pss_cons (ps_set (i := 3) scLawLot.nd rfl (.inr rfl) (pe_callB (cr_sortX rfl hr.units) (by rfl) T.sorted (by decide +kernel) (pa_cons (pe_callTy (cr_setX rfl hr.units) (by rfl) T.set (by decide +kernel) (pa_cons (pe_call G2 hr (by rfl) m2 k2 b2 .nil pass0 (pa_cons (pv 0) (pa_cons (pv 2) (pa_cons pe_int pa_nil)))) pa_nil)) pa_nil)))
    (pss_cons (ps_for PassesOwn.never rfl (pi_range1 rfl T.range (pa_cons (pe_op op_mul (pe_call G1 hr (by rfl) m1 k1 b1 .nil pass0 (pa_cons (pv 0) (pa_cons pe_int pa_nil))) (pe_callB call_len_seq (by rfl) T.len PySem.boot_len (pa_cons (pv 2) pa_nil))) pa_nil)) (pg_name (i := 4) scLawLot.nd rfl (.inl rfl))
      (pss_one (ps_for PassesOwn.never rfl (pi_list (pv 1)) (pg_name (i := 5) scLawLot.nd rfl (.inl rfl))
        (pss_one (ps_if (pt_cmpR (op_neD hr.units) (pe_lc (own := [("name", 6)]) (g := gName 6) (by rfl) scLawLot.nd (pi_tup (pe_ix ix_tup (pv 5) pe_int (fun _ _ => rfl))) (blkOk_by (N := ["purse", "rules", "letters", "lot", "turn", "row", "name"]) (sc := defScope sLawLot) (by decide +kernel))
            (fun _ _ _ _ _ => pg_name (i := 6) scLawLot.nd rfl (Or.inl rfl)) (fun _ _ _ _ _ => pts_one (pt_cmpR (r := rIn K false) op_in_seq (pv 6) (pv 3) (by rfl))) (fun _ _ _ _ _ => pv 6)) (pe_lst pa_nil) (nomark _))
          (pss_one (ps_set (i := 3) scLawLot.nd rfl (.inr rfl) (pe_callB (cr_sortX rfl hr.units) (by rfl) T.sorted (by decide +kernel) (pa_cons (pe_callTy (cr_setX rfl hr.units) (by rfl) T.set (by decide +kernel) (pa_cons (pe_op op_cat (pv 3) (pe_callTy call_list_of (by rfl) T.list (by decide +kernel) (pa_cons (pe_call G3 hr (by rfl) m3 k3 b3 .nil pass0 (pa_cons (pv 5) pa_nil)) pa_nil))) pa_nil)) pa_nil)))) pss_nil)))))
    (pss_one (ps_ret (pe_callTy call_tuple_of (by rfl) T.tuple (by decide +kernel) (pa_cons (pv 3) pa_nil))))), ?_⟩
  refine ⟨.ref p, rfl, .ref l, rfl, p, l, c, 2, ns, rfl, hP, by omega, nlp, hl, n1, n40, fun H2 t zs bar2 pu2 ht hs => ?_⟩
  have zl := hs.length_le
  refine ⟨t, zs, rfl, .inr ht, by omega, fun b ms hb nd hm hml => ?_⟩
  refine ⟨b, ms, rfl, upd_same, by omega, fun lot L hz nz hlz rz hL => ?_⟩
  have s3 := (same_new hb (XSetO P w b ms)).trans (same_new hL (.lst (lot.map V.str)))
  have pu3 := pu2.same s3
  have bar3 := bar2.trans (.same s3)
  have hlot : IsW lot := isW_of hn rz nz fun z h => hs.subset ((hm z).mp ((hz z).mp h))
  have sublot : ∀ z ∈ lot, z ∈ ns := fun z h => hs.subset ((hm z).mp ((hz z).mp h))
  refine ⟨.ref p, rfl, p, 2, _, rfl, pu3, by omega, by decide, by decide, fun r us r0 r1 hP4 => ?_⟩
  have nLp : L ≠ p := by
    have := pu2.same (same_new hb (XSetO P w b ms))
    exact this.some hL
  have bar4 := bar3.trans (Bar.draw (o := .lst us))
  have hl4 := bar4 _ _ nlp hl
  have ha4 := bar4 _ _ nap ha
  have hys4 := (bar4.stay hP.mut).dpAll _ _ (okDs_rd S) hys
  have hL4 : (upd (upd (upd H2 b (XSetO P w b ms)) L (.lst (lot.map V.str))) p (.lst us)) L = some (.lst (lot.map V.str)) := by
    rw [upd_ne nLp, upd_same]
  have bnd : 0 ≤ r * ((ns.map V.str).length : Int) ∧ r * ((ns.map V.str).length : Int) ≤ 40 := by
    rw [List.length_map]
    have : r = 0 ∨ r = 1 := by omega
    rcases this with e | e <;> subst e <;> omega
  refine ⟨.ref l, rfl, l, _, rfl, .inl (SqL.of hl4), r, _, rfl, rfl, .inl ⟨by omega, by omega⟩, ?_⟩
  let H4 : Hp := upd (upd (upd H2 b (XSetO P w b ms)) L (.lst (lot.map V.str))) p (.lst us)
  refine ⟨_, rfl, by omega, by omega, for_range (fun i σ H1 => (∃ (L : Addr) (lot : W) (y4 y5 : Option V), σ = [some (.ref p), some (.ref a), some (.ref l), some (.ref L), y4, y5, none] ∧ H1 L = some (.lst (lot.map V.str)) ∧ IsW lot ∧ ∀ x ∈ lot, x ∈ ns) ∧ Same H4 H1) ⟨⟨L, lot, none, none, rfl, hL4, hlot, sublot⟩, fun _ _ e => e⟩ (fun i σ H1 il hI1 => ?_) (fun σ H1 hI1 => ?_)⟩
  · obtain ⟨⟨L, lot, y4, y5, rfl, hL, hlot, sublot⟩, sm⟩ := hI1
    refine ⟨.ref a, rfl, a, rfl, ⟨_, SqL.of (sm _ _ ha4)⟩, for_list (xs := ys) (fun j σ H5 => (∃ (L : Addr) (lot : W) (y4 y5 : Option V), σ = [some (.ref p), some (.ref a), some (.ref l), some (.ref L), y4, y5, none] ∧ H5 L = some (.lst (lot.map V.str)) ∧ IsW lot ∧ ∀ x ∈ lot, x ∈ ns) ∧ Same H4 H5) ⟨⟨L, lot, _, y5, rfl, hL, hlot, sublot⟩, sm⟩ (fun j σ H5 _ hI => SqL.of (hI.2 _ _ ha4)) (fun j x σ H5 hx hI5 => ?_) (fun σ H5 hI5 => hI5)⟩
    obtain ⟨⟨L, lot, y4, y5, rfl, hL, hlot, sublot⟩, sm5⟩ := hI5
    obtain ⟨dd, hdd, hxd⟩ := dpAll_at' hys4 hx
    obtain ⟨r, hr0, rfl⟩ := map_at hdd
    have hR := hI r (List.mem_of_getElem? hr0)
    have lim := own_len hR.1
    have g1 := hR.1.h.few
    have g2 := hlot.few
    have hxd5 := dp_same sm5 _ _ hxd
    obtain ⟨b5, v1, v2, v3, v4, rfl, hT, h1, _⟩ := of_rd hxd5
    obtain ⟨a1, rfl, t1⟩ := of_wd h1
    refine ⟨.ref b5, rfl, b5, _, 0, .ref a1, rfl, rfl, hT, rfl, a1, rfl, ⟨_, t1⟩, fun D hD => ?_⟩
    refine lc_tup (xs := r.1.map V.str) (fun i H6 => Same H5 H6 ∧ H6 D = some (.lst ((inn (r.1.take i) lot).map V.str))) ⟨same_new hD _, upd_same⟩ (fun i H6 _ hI => same_tup hI.1 t1) (fun i x6 H6 hx6 hI6 => ?_) (fun H6 hI6 => ?_)
    · obtain ⟨sm6, hd⟩ := hI6
      obtain ⟨z, hz, rfl⟩ := map_at hx6
      refine ⟨rfl, .str z, rfl, .ref L, rfl, L, lot.map V.str, rfl, .inl (SqL.of (sm6 _ _ hL)), rfl, flat_strs lot, _, rfl, ?_⟩
      rw [inV_str]
      refine ite2 (fun e => ?_) (fun e => ?_)
      · refine ⟨.str z, rfl, _, hd, small_line' ?_, same_put sm6 hD, ?_⟩
        · rw [List.length_map]
          unfold inn
          have := List.length_filter_le (fun z => decide (z ∈ lot)) (r.1.take i)
          rw [List.length_take] at this
          omega
        · unfold inn
          rw [upd_same, filt_t hz (show decide (z ∈ lot) = true by simpa using e), List.map_append]
          rfl
      · refine ⟨sm6, ?_⟩
        unfold inn
        rw [filt_f hz (show decide (z ∈ lot) = false by simpa using e)]
        exact hd
    · obtain ⟨sm6, hd⟩ := hI6
      rw [List.length_map, List.take_length] at hd
      refine ⟨by show 0 ≤ sizeLine; decide, fun e he => ?_⟩
      have se := same_new he (.lst [])
      have s56 := sm6.trans se
      refine ne_nil (SqL.of (se _ _ hd)) (SqL.of upd_same) (fun x hx => hR.1.h.names x (List.mem_filter.mp hx).1) ⟨_, rfl, ite2 (fun _ => ?_) (fun _ => ⟨⟨L, lot, _, _, rfl, s56 _ _ hL, hlot, sublot⟩, sm5.trans s56⟩)⟩
      refine ⟨.ref L, rfl, .ref b5, rfl, .ref b5, r, rfl, dp_same s56 _ _ hxd5, hR.1, fun H7 t7 s7 ht7 => ?_⟩
      refine ⟨t7, _, rfl, .inr ht7, fun l7 hl7 => ?_⟩
      have sl7 := same_new hl7 (.lst ((own r).map V.str))
      refine ⟨L, l7, _, _, rfl, rfl, (s56.trans (s7.trans sl7)) _ _ hL, upd_same, small_line (by rw [List.length_map, List.length_map]; omega), fun p8 hp8 => ?_⟩
      have s8 := same_new hp8 (.lst (lot.map V.str ++ (own r).map V.str))
      refine ⟨p8, lot ++ own r, rfl, .inl (SqL.of (by rw [List.map_append]; exact upd_same)), by rw [List.length_append]; omega, fun b9 ms9 hb9 nd9 hm9 hl9 => ?_⟩
      rw [List.length_append] at hl9
      refine ⟨b9, ms9, rfl, upd_same, by omega, fun lot2 L2 hz2 nz2 hlz2 rz2 hL2 => ?_⟩
      have mem2 : ∀ z ∈ lot2, z ∈ ns := fun z h => by
        rcases List.mem_append.mp ((hm9 z).mp ((hz2 z).mp h)) with g | g
        · exact sublot z g
        · exact hR.own z g
      exact ⟨⟨L2, lot2, _, _, rfl, upd_same, isW_of hn rz2 nz2 mem2, mem2⟩, sm5.trans (s56.trans (s7.trans (sl7.trans (s8.trans ((same_new hb9 _).trans (same_new hL2 _))))))⟩
  · obtain ⟨⟨L, lot, y4, y5, rfl, hL, hlot, sublot⟩, sm⟩ := hI1
    refine ⟨.ref L, rfl, L, _, rfl, .inl ⟨SqL.of hL, fun t9 ht9 => ?_⟩⟩
    have s9 := same_new ht9 (.tup (lot.map V.str))
    exact q _ t9 lot (bar4.trans (.same (sm.trans s9))) ((hP4.same (sm.trans s9)).le (by omega)) (SqT.of upd_same) hlot sublot
end
end Rw
namespace Rw
open PySem PySem.Spec PyProof.Rows L2
/-! ### names kept of a tuple, by any test -/
theorem walk_filt {K : PySem.W.Frag} {t D : Addr} {ns : W} {H0 : Hp} {p : Str → Bool} {Qd : Hp → Prop} {B : V → Hp → (Hp → Prop) → Prop} (hD : H0 D = none) (ht : SqT K H0 t (ns.map V.str)) (few : ns.length ≤ 10000)
    (hs : ∀ z H3 (Nx : Hp → Prop), z ∈ ns → Same H0 H3 → (p z = true → ∃ acc, H3 D = some (.lst acc) ∧ acc.length < sizeLine ∧ Nx (upd H3 D (.lst (acc ++ [.str z])))) → (p z = false → Nx H3) → B (.str z) H3 Nx)
    (hd : ∀ H1, Same H0 H1 → H1 D = some (.lst ((ns.filter p).map V.str)) → Qd H1) :
    ∃ W : Nat → Nat → Hp → Prop, (∃ m, W 0 m (upd H0 D (.lst []))) ∧ ∀ i m H, W i m H → ((Itt K t).stop i H ∧ Qd H) ∨ ((Itt K t).go i H ∧ ∃ Nx : Hp → Prop, (∀ H', Nx H' → ∃ m', m' < m ∧ W (i + 1) m' H') ∧ ∀ x H', (Itt K t).yld i H x H' → B x H' Nx) := by
  refine walk_tup (xs := ns.map V.str) (fun i H3 => Same H0 H3 ∧ H3 D = some (.lst (((ns.take i).filter p).map V.str))) ⟨same_new hD _, upd_same⟩ (fun i H3 _ hI => same_tup hI.1 ht) (fun i x H3 hx hI => ?_) (fun H3 hI => ?_)
  · obtain ⟨sm, hd3⟩ := hI
    obtain ⟨z, hz, rfl⟩ := map_at hx
    refine hs z H3 _ (List.mem_of_getElem? hz) sm (fun e => ⟨_, hd3, small_line' ?_, same_put sm hD, ?_⟩) fun e => ⟨sm, ?_⟩
    · rw [List.length_map]
      have := List.length_filter_le p (ns.take i)
      rw [List.length_take] at this
      omega
    · rw [upd_same, filt_t hz e, List.map_append]
      rfl
    · rw [filt_f hz e]
      exact hd3
  · obtain ⟨sm, hd3⟩ := hI
    rw [List.length_map, List.take_length] at hd3
    exact hd H3 sm hd3
/-! ### _law_rest -/
abbrev sLawRest : Stmt := topS 47
theorem scLawRest : FnScope ["rules", "lot", "state", "found", "row", "heads", "denied", "needs", "bars", "gone", "name", "part"] ["rules", "lot", "state"] (defScope sLawRest) := ⟨rfl, rfl, rfl, by decide +kernel, rfl, by decide +kernel, by decide +kernel⟩
def lawRestL (S : List Rl) (lot ws : W) : List Rl := (S.filter fun r => !sub (own r) lot && askedFor r lot ws).map fun r => lessR r lot
theorem lawRest_eq (S : List Rl) (lot ws : W) : lawRestL S lot ws = restL S lot ws := by
  unfold lawRestL restL upperL
  rw [List.filter_filter]
  congr 1
  refine List.filter_congr fun r _ => ?_
  rw [Bool.and_comm]
theorem eq_nil {K : PySem.W.Frag} {H : Hp} {D e : Addr} {zs : W} {Q : VK} (hz : SqL K H D (zs.map V.str)) (he : SqL K H e []) (hn : ∀ x ∈ zs, nameB x = true) (q : Q (.bl (decide (zs = []))) H) : rEqD K (.ref D) (.ref e) H Q := by
  refine ⟨.list (zs.map .str), .list [], .lst hz (dps_strs _), .lst he .nil, shaped_strs hn, by decide, ?_⟩
  rw [eqv_nil]
  exact q
theorem asked_told {r : Rl} {lot ws : W} (h : sub ws lot = true) : decide (((r.2.1 ++ r.2.2.1).filter fun z => decide (z ∈ lot) && !decide (z ∈ ws)) ++ (r.2.2.2.filter fun z => decide (z ∈ ws)) = []) = askedFor r lot ws := by
  unfold askedFor
  rw [sub_minus, meets_inn, Bool.not_not]
  have e1 : minus (inn (r.2.1 ++ r.2.2.1) lot) ws = (r.2.1 ++ r.2.2.1).filter fun z => decide (z ∈ lot) && !decide (z ∈ ws) := by
    unfold minus inn
    rw [List.filter_filter]
    refine List.filter_congr fun z _ => ?_
    rw [Bool.and_comm]
  have e2 : inn (inn r.2.2.2 lot) ws = r.2.2.2.filter fun z => decide (z ∈ ws) := by
    unfold inn
    rw [List.filter_filter]
    refine List.filter_congr fun z _ => ?_
    by_cases g : z ∈ ws
    · have := sub_mem h z g
      simp [g, this]
    · simp [g]
  rw [e1, e2]
  cases c1 : ((r.2.1 ++ r.2.2.1).filter fun z => decide (z ∈ lot) && !decide (z ∈ ws)) with
  | nil => simp
  | cons x t => simp
theorem parts_names {r : Rl} (h : IsR r) : (∀ x ∈ r.2.1 ++ r.2.2.1, nameB x = true) ∧ ∀ x ∈ r.2.2.2, nameB x = true := ⟨fun x hx => by
  rcases List.mem_append.mp hx with g | g
  · exact h.d.names x g
  · exact h.n.names x g, h.b.names⟩
def scPart : Scope := ⟨.function, [(".0", .local), ("part", .local), ("tuple", .globalImplicit), ("lot", .cell)], false, false, []⟩
def rTup (K : PySem.W.Frag) : List V → Hp → VK → Prop := fun xs H Q => ∃ p ys, xs = [V.ref p] ∧ ((SqL K H p ys ∧ ∀ (l : Addr), H l = none → Q (V.ref l) (upd H l (HO.tup ys))) ∨ SqT K H p ys ∧ Q (V.ref p) H)
def tTupLc (K : PySem.W.Frag) : TE := tCB (rTup K) (tCons (tLc (iTup K (tVar 11)) (gName 10) (tTest (tOp (rIn K true) (tVar 10) (tVar 1))) (tVar 10) [10]) tNil)
section
variable {P : Program} {w : World} {K : PySem.W.Frag} {mg : Str → Option Value} {base : Heap} {f : Addr} {fd : FuncData} {k : Nat}
def spLawRest (K : PySem.W.Frag) : Sp := fun vs H Q _ => ∃ (a : Addr) (y z : V) (ys : List V) (S : List Rl) (lot ws : W), vs = [.ref a, y, z] ∧ SqL K H a ys ∧ DpAll K H ys (S.map rd) ∧ (∀ r ∈ S, IsR r) ∧ S.length < 64 ∧ Dp K H y (wd lot) ∧ Dp K H z (wd ws) ∧ sub ws lot = true ∧
  ∀ H' t zs S2, Same H H' → Srt S2 (restL S lot ws) → S2.length < 64 → H' t = some (.lst zs) → DpAll K H' zs (S2.map rd) → Q (.ref t) H'
theorem ok_lawRest {f1 : Addr} {fd1 : FuncData} (F : Fun K "_law_rest" "_law_rest" sLawRest f fd) (T : Bl mg) (G1 : FnOk P w K mg base CX0 k f1 fd1 ["row"] (spLawOwn K)) (b1 : Binds K fd1 ["row"] []) (k1 : PySem.W.keepIn K (.ref f1) = true) (m1 : mg "_law_own" = some (.ref f1)) :
    FnOk P w K mg base CX0 (k + 1) f fd ["rules", "lot", "state"] (spLawRest K) := by
  refine F.ok scLawRest (fun vs H Q E h => ?_) (fun cdv A outer s H vs Q E hr h => ?_)
  · obtain ⟨a, y, z, ys, S, lot, ws, rfl, _⟩ := h
    rfl
  obtain ⟨a, y, z, ys, S, lot, ws, rfl, hS, hys, hI, few, hy, hz, hsub, q⟩ := h
  refine ⟨_, pss_cons (ps_set (i := 3) scLawRest.nd rfl (.inl rfl) (pe_lst pa_nil))
    (pss_cons (ps_for PassesOwn.never rfl (pi_list (pv 0)) (pg_name (i := 4) scLawRest.nd rfl (.inl rfl))
      (pss_cons (ps_asg (pv 4) (pg_tup (by rfl) (pgs_cons (pg_name (i := 5) scLawRest.nd rfl (.inl rfl)) (pgs_cons (pg_name (i := 6) scLawRest.nd rfl (.inl rfl)) (pgs_cons (pg_name (i := 7) scLawRest.nd rfl (.inl rfl)) (pgs_cons (pg_name (i := 8) scLawRest.nd rfl (.inl rfl)) pgs_nil))))))
      (pss_one (ps_if (pt_cmpR (op_neD hr.units) (pe_lc (own := [("name", 10)]) (g := gName 10) (by rfl) scLawRest.nd (pi_tup (pe_call G1 hr (by rfl) m1 k1 b1 .nil pass0 (pa_cons (pv 4) pa_nil))) (blkOk_by (N := ["rules", "lot", "state", "found", "row", "heads", "denied", "needs", "bars", "gone", "name", "part"]) (sc := defScope sLawRest) (by decide +kernel))
            (fun _ _ _ _ _ => pg_name (i := 10) scLawRest.nd rfl (Or.inl rfl)) (fun _ _ _ _ _ => pts_one (pt_cmpR (r := rIn K true) op_notIn_seq (pv 10) (pv 1) (by rfl))) (fun _ _ _ _ _ => pv 10)) (pe_lst pa_nil) (nomark _))
        (pss_cons (ps_setLc (i := 9) (own := [("name", 10)]) (g := gName 10) (by rfl) scLawRest.nd rfl rfl (sw_true rfl rfl rfl (by decide +kernel)) (pi_tup (pe_op op_catA (pv 6) (pv 7))) (blkOk_by (N := ["rules", "lot", "state", "found", "row", "heads", "denied", "needs", "bars", "gone", "name", "part"]) (sc := defScope sLawRest) (by decide +kernel))
            (fun _ _ _ _ _ => pg_name (i := 10) scLawRest.nd rfl (Or.inl rfl)) (fun _ _ _ _ _ => pts_one (PW.pt (pw_and (pt_cmpR (r := rIn K false) op_in_seq (pv 10) (pv 1) (by rfl)) (pw_and1 (pt_cmpR (r := rIn K true) op_notIn_seq (pv 10) (pv 2) (by rfl)))))) (fun _ _ _ _ _ => pv 10))
        (pss_one (ps_if (pt_cmpR (op_eqD hr.units) (pe_op op_cat (pv 9) (pe_lc (own := [("name", 10)]) (g := gName 10) (by rfl) scLawRest.nd (pi_tup (pv 8)) (blkOk_by (N := ["rules", "lot", "state", "found", "row", "heads", "denied", "needs", "bars", "gone", "name", "part"]) (sc := defScope sLawRest) (by decide +kernel))
            (fun _ _ _ _ _ => pg_name (i := 10) scLawRest.nd rfl (Or.inl rfl)) (fun _ _ _ _ _ => pts_one (pt_cmpR (r := rIn K false) op_in_seq (pv 10) (pv 2) (by rfl))) (fun _ _ _ _ _ => pv 10))) (pe_lst pa_nil) (nomark _))
          (pss_one (ps_expr (pe_bm PySem.F.plainAttrs_list PySem.F.slot_list_append PySem.F.type_list_append mt_append (pv 3) (pa_cons (pe_callTy call_tuple_of (by rfl) T.tuple (by decide +kernel) (pa_cons
            (pe_lc (own := [("part", 11)]) (g := gName 11) (by rfl) scLawRest.nd (pi_tup (pv 4)) (blkOk_by (N := ["rules", "lot", "state", "found", "row", "heads", "denied", "needs", "bars", "gone", "name", "part"]) (sc := defScope sLawRest) (by decide +kernel))
              (fun _ _ _ _ _ => pg_name (i := 11) scLawRest.nd rfl (Or.inl rfl)) (fun _ _ _ _ _ => pts_nil) (te := tTupLc K) (fun s H C cl fp => pe_callTy (T := "tuple") call_tuple_of (by rfl) T.tuple (by decide +kernel) (pa_cons
                (pe_lc (own := [("name", 10)]) (wi := iTup K (tVar 11)) (g := gName 10) (tt := tTest (tOp (rIn K true) (tVar 10) (tVar 1))) (te := tVar 10) (by rfl) scLawRest.nd (pi_tup (pv 11)) (blkOk_by (N := ["rules", "lot", "state", "found", "row", "heads", "denied", "needs", "bars", "gone", "name", "part"]) (sc := scPart) (by decide +kernel))
                  (fun _ _ _ _ _ => pg_name (i := 10) scLawRest.nd rfl (Or.inl rfl)) (fun _ _ _ _ _ => pts_one (pt_cmpR (r := rIn K true) op_notIn_seq (pv 10) (pv 1) (by rfl))) (fun _ _ _ _ _ => pv 10)) pa_nil))) pa_nil)) pa_nil)))) pss_nil))) pss_nil))))
    (pss_one (ps_ret (pe_callB (cr_sortR rfl hr.units) (by rfl) T.sorted (by decide +kernel) (pa_cons (pe_callTy (cr_setR rfl hr.units) (by rfl) T.set (by decide +kernel) (pa_cons (pv 3) pa_nil)) pa_nil))))), ?_⟩
  have yl : ys.length = S.length := by rw [dpAll_len hys, List.length_map]
  obtain ⟨b, rfl, hT⟩ := of_wd hy
  obtain ⟨c, rfl, hC⟩ := of_wd hz
  refine ⟨by show 0 ≤ sizeLine; decide, fun F hF => ?_⟩
  have sF := same_new hF (.lst [])
  refine ⟨.ref a, rfl, a, rfl, ⟨_, sF.seq hS⟩, for_list (xs := ys) (fun i σ H1 => (∃ y4 y5 y6 y7 y8 y9, σ = [some (.ref a), some (.ref b), some (.ref c), some (.ref F), y4, y5, y6, y7, y8, y9, none, none]) ∧ Same H H1 ∧ ∃ zs, H1 F = some (.lst zs) ∧ DpAll K H1 zs ((lawRestL (S.take i) lot ws).map rd)) ⟨⟨none, none, none, none, none, none, rfl⟩, sF, [], upd_same, .nil⟩ (fun i σ H1 _ hI2 => hI2.2.1.seq hS) (fun i x σ H1 hx hI2 => ?_) (fun σ H1 hI2 => ?_)⟩
  · obtain ⟨⟨y4, y5, y6, y7, y8, y9, rfl⟩, sm, zs, hz1, hzs⟩ := hI2
    obtain ⟨dd, hdd, hxd⟩ := dpAll_at' hys hx
    obtain ⟨r, hr0, rfl⟩ := map_at hdd
    have hr' := hI r (List.mem_of_getElem? hr0)
    have lim := own_len hr'
    have f1 := hr'.h.few
    have f2 := hr'.d.few
    have f3 := hr'.n.few
    have f4 := hr'.b.few
    have il : i < S.length := (List.getElem?_eq_some_iff.mp hr0).1
    have hxd1 := dp_same sm _ _ hxd
    obtain ⟨b5, v1, v2, v3, v4, rfl, hR, h1, h2, h3, h4⟩ := of_rd hxd1
    obtain ⟨a2, rfl, t2⟩ := of_wd h2
    obtain ⟨a3, rfl, t3⟩ := of_wd h3
    obtain ⟨a4, rfl, t4⟩ := of_wd h4
    refine ⟨.ref b5, rfl, b5, [v1, .ref a2, .ref a3, .ref a4], rfl, hR, rfl, v1, _, rfl, .ref a2, _, rfl, .ref a3, _, rfl, .ref a4, [], rfl, rfl, ?_⟩
    refine ⟨.ref b5, rfl, .ref b5, r, rfl, hxd1, hr', fun H2 t s2 ht => ?_⟩
    have s02 := sm.trans s2
    refine ⟨t, rfl, ⟨_, ht⟩, fun D hD => walk_filt (p := fun z => !decide (z ∈ lot)) hD ht (by omega) (fun z H3 Nx hz sm3 yes no => ?_) (fun H3 sm3 hd => ?_)⟩
    · refine ⟨rfl, .str z, rfl, .ref b, rfl, b, lot.map V.str, rfl, .inr (same_tup (s02.trans sm3) hT), rfl, flat_strs lot, _, rfl, ?_⟩
      rw [inV_str]
      exact ite2 (fun e => ⟨.str z, rfl, yes (by simpa using e)⟩) (fun e => no (by simpa using e))
    · refine ⟨by show 0 ≤ sizeLine; decide, fun e he => ?_⟩
      have se := same_new he (.lst [])
      have s4 := s2.trans (sm3.trans se)
      refine ne_nil (SqL.of (se _ _ hd)) (SqL.of upd_same) (fun x hx => own_names hr' x (List.mem_filter.mp hx).1) ⟨_, rfl, ?_⟩
      have kept : ∀ H5, Same H1 H5 → lawRestL (S.take (i + 1)) lot ws = lawRestL (S.take i) lot ws → (∃ zs, H5 F = some (.lst zs) ∧ DpAll K H5 zs ((lawRestL (S.take (i + 1)) lot ws).map rd)) := fun H5 s5 e => ⟨zs, s5 _ _ hz1, by rw [e]; exact dpAll_same s5 _ _ hzs⟩
      cases e5 : sub (own r) lot with
      | true =>
        have z5 : decide ((own r).filter (fun z => !decide (z ∈ lot)) = []) = true := (sub_minus (own r) lot).symm.trans e5
        rw [z5]
        refine iteF ⟨⟨_, _, _, _, _, _, rfl⟩, sm.trans s4, kept _ s4 ?_⟩
        unfold lawRestL
        rw [filt_f hr0 (show (!sub (own r) lot && askedFor r lot ws) = false by rw [e5]; rfl)]
      | false =>
        have z5 : decide ((own r).filter (fun z => !decide (z ∈ lot)) = []) = false := (sub_minus (own r) lot).symm.trans e5
        rw [z5]
        refine iteT ?_
        refine ⟨.ref a2, rfl, .ref a3, rfl, catA_w (same_tup s4 t2) (same_tup s4 t3) (small_line (by rw [List.length_map, List.length_map]; omega)) fun g H6 s6 hg0 => ?_⟩
        have hg : SqT K H6 g ((r.2.1 ++ r.2.2.1).map V.str) := by
          rw [List.map_append]
          exact hg0
        have s16 := s4.trans s6
        refine ⟨g, rfl, ⟨_, hg⟩, fun G hG => walk_filt (p := fun z => decide (z ∈ lot) && !decide (z ∈ ws)) hG hg (by rw [List.length_append]; omega) (fun z H7 Nx hz sm7 yes no => ?_) (fun H7 sm7 hd7 => ?_)⟩
        · have s07 := sm.trans (s16.trans sm7)
          refine ⟨rfl, .str z, rfl, .ref b, rfl, b, lot.map V.str, rfl, .inr (same_tup s07 hT), rfl, flat_strs lot, _, rfl, ?_⟩
          rw [inV_str]
          refine ite2 (fun e1 => ?_) (fun e1 => iteF (no (by simp at e1; simp [e1])))
          refine ⟨.str z, rfl, .ref c, rfl, c, ws.map V.str, rfl, .inr (same_tup s07 hC), rfl, flat_strs ws, _, rfl, ?_⟩
          rw [inV_str]
          exact ite2 (fun e2 => ⟨.str z, rfl, yes (by simp at e1 e2; simp [e1, e2])⟩) (fun e2 => no (by simp at e1 e2; simp [e1, e2]))
        · have s17 := s16.trans sm7
          refine ⟨.ref G, rfl, .ref a4, rfl, a4, rfl, ⟨_, same_tup s17 t4⟩, fun D2 hD2 => walk_filt (p := fun z => decide (z ∈ ws)) hD2 (same_tup s17 t4) (by omega) (fun z H8 Nx hz sm8 yes no => ?_) (fun H8 sm8 hd8 => ?_)⟩
          · refine ⟨rfl, .str z, rfl, .ref c, rfl, c, ws.map V.str, rfl, .inr (same_tup (sm.trans (s17.trans sm8)) hC), rfl, flat_strs ws, _, rfl, ?_⟩
            rw [inV_str]
            exact ite2 (fun e => ⟨.str z, rfl, yes (by simpa using e)⟩) (fun e => no (by simpa using e))
          · have l1 := List.length_filter_le (fun z => decide (z ∈ lot) && !decide (z ∈ ws)) (r.2.1 ++ r.2.2.1)
            have l2 := List.length_filter_le (fun z => decide (z ∈ ws)) r.2.2.2
            rw [List.length_append] at l1
            refine ⟨G, D2, _, _, rfl, rfl, sm8 _ _ hd7, hd8, small_line (by rw [List.length_map, List.length_map]; omega), fun p hp => ?_⟩
            have sp := same_new hp (.lst (((r.2.1 ++ r.2.2.1).filter fun z => decide (z ∈ lot) && !decide (z ∈ ws)).map V.str ++ (r.2.2.2.filter fun z => decide (z ∈ ws)).map V.str))
            refine ⟨by show 0 ≤ sizeLine; decide, fun e9 he9 => ?_⟩
            have se9 := same_new he9 (.lst [])
            refine eq_nil (zs := ((r.2.1 ++ r.2.2.1).filter fun z => decide (z ∈ lot) && !decide (z ∈ ws)) ++ (r.2.2.2.filter fun z => decide (z ∈ ws))) (by rw [List.map_append]; exact SqL.of (se9 _ _ upd_same)) (SqL.of upd_same) (fun x hx => ?_) ⟨_, rfl, ?_⟩
            · rcases List.mem_append.mp hx with g | g
              · exact (parts_names hr').1 x (List.mem_filter.mp g).1
              · exact (parts_names hr').2 x (List.mem_filter.mp g).1
            rw [asked_told hsub]
            have s19 := s17.trans (sm8.trans (sp.trans se9))
            cases e6 : askedFor r lot ws with
            | false =>
              refine iteF ⟨⟨_, _, _, _, _, _, rfl⟩, sm.trans s19, kept _ s19 ?_⟩
              unfold lawRestL
              rw [filt_f hr0 (show (!sub (own r) lot && askedFor r lot ws) = false by rw [e5, e6]; rfl)]
            | true =>
              refine iteT ?_
              have hz9 := s19 _ _ hz1
              refine ⟨.ref F, rfl, .inl ⟨rfl, _, SqL.of hz9⟩, .ref b5, rfl, b5, rfl, ⟨_, same_tup s19 hR⟩, fun D5 hD5 => ?_⟩
              have hxs : DpAll K _ [v1, .ref a2, .ref a3, .ref a4] ((parts r).map wd) := dpAll_same s19 _ _ (.cons h1 (.cons h2 (.cons h3 (.cons h4 .nil))))
              have hR9 := same_tup s19 hR
              refine walk_tup (xs := [v1, .ref a2, .ref a3, .ref a4]) (fun i H10 => Same _ H10 ∧ ∃ us, H10 D5 = some (.lst us) ∧ DpAll K H10 us ((((parts r).take i).map fun t => minus t lot).map wd)) ⟨same_new hD5 _, [], upd_same, .nil⟩ (fun i H10 _ hI => same_tup hI.1 hR9) (fun i x H10 hxi hI => ?_) (fun H10 hI => ?_)
              · obtain ⟨sm10, us, hd10, hus⟩ := hI
                obtain ⟨d, hdi, hxd'⟩ := dpAll_at' hxs hxi
                obtain ⟨t, ht, rfl⟩ := map_at hdi
                have wt := hr'.all t (List.mem_of_getElem? ht)
                have fw := wt.few
                have i4 : i < 4 := (List.getElem?_eq_some_iff.mp ht).1
                obtain ⟨bx, rfl, tx⟩ := of_wd (dp_same sm10 _ _ hxd')
                refine ⟨rfl, .ref bx, rfl, bx, rfl, ⟨_, tx⟩, fun D6 hD6 => walk_filt (p := fun z => !decide (z ∈ lot)) hD6 tx (by omega) (fun z H11 Nx hz sm11 yes no => ?_) (fun H11 sm11 hd11 => ?_)⟩
                · refine ⟨rfl, .str z, rfl, .ref b, rfl, b, lot.map V.str, rfl, .inr (same_tup (sm.trans (s19.trans (sm10.trans sm11))) hT), rfl, flat_strs lot, _, rfl, ?_⟩
                  rw [inV_str]
                  exact ite2 (fun e => ⟨.str z, rfl, yes (by simpa using e)⟩) (fun e => no (by simpa using e))
                · refine ⟨D6, _, rfl, .inl ⟨SqL.of hd11, fun l hl => ?_⟩⟩
                  have sl := same_new hl (.tup ((minus t lot).map V.str))
                  have hdl := (sm11.trans sl) _ _ hd10
                  have st : Stay (upd H11 l (.tup ((minus t lot).map V.str))) (upd (upd H11 l (.tup ((minus t lot).map V.str))) D5 (.lst (us ++ [.ref l]))) := .put (by rw [hdl]; exact True.intro) _
                  refine ⟨us, hdl, small_line' (by rw [dpAll_len hus, List.length_map, List.length_map, List.length_take]; omega), same_put (sm10.trans (sm11.trans sl)) hD5, _, upd_same, ?_⟩
                  rw [take_snoc ht, List.map_append, List.map_append]
                  exact dpAll_app (((Stay.same (sm11.trans sl)).trans st).dpAll _ _ (okDs_wd _) hus) (.cons (st.wd (to_wd (SqT.of upd_same))) .nil)
              · obtain ⟨sm10, us, hd10, hus⟩ := hI
                have hus' : DpAll K H10 us ((parts (lessR r lot)).map wd) := by
                  rw [parts_less]
                  exact hus
                refine ⟨D5, us, rfl, .inl ⟨SqL.of hd10, fun l hl => ?_⟩⟩
                have sl := same_new hl (.tup us)
                have s20 := s19.trans (sm10.trans sl)
                have hz20 := s20 _ _ hz1
                have hv : Dp K (upd H10 l (.tup us)) (.ref l) (rd (lessR r lot)) := .tup (SqT.of upd_same) (dpAll_same sl _ _ hus')
                have st : Stay (upd H10 l (.tup us)) (upd (upd H10 l (.tup us)) F (.lst (zs ++ [.ref l]))) := .put (by rw [hz20]; exact True.intro) _
                refine ⟨F, zs, .ref l, rfl, rfl, hz20, small_line' ?_, ⟨_, _, _, _, _, _, rfl⟩, same_put (sm.trans s20) hF, _, upd_same, ?_⟩
                · rw [dpAll_len hzs, List.length_map]
                  have := lawRest_eq (S.take i) lot ws
                  rw [this]
                  have := restL_len (S.take i) lot ws
                  rw [List.length_take] at this
                  omega
                · have e7 : lawRestL (S.take (i + 1)) lot ws = lawRestL (S.take i) lot ws ++ [lessR r lot] := by
                    unfold lawRestL
                    rw [filt_t hr0 (show (!sub (own r) lot && askedFor r lot ws) = true by rw [e5, e6]; rfl), List.map_append]
                    rfl
                  rw [e7, List.map_append]
                  exact dpAll_app (((Stay.same s20).trans st).dpAll _ _ (okDs_rd _) hzs) (.cons (st.dp _ _ (ok_rd _) hv) .nil)
  · obtain ⟨⟨y4, y5, y6, y7, y8, y9, rfl⟩, sm, zs, hz1, hzs⟩ := hI2
    rw [yl, List.take_length, lawRest_eq] at hzs
    have rl := restL_len S lot ws
    refine ⟨.ref F, rfl, F, zs, restL S lot ws, rfl, .inl (SqL.of hz1), hzs, by omega, fun g M hg hM isP hall => ?_⟩
    have sg := same_new hg (TSetO w g M)
    refine ⟨g, M, restL S lot ws, rfl, upd_same, (fun e he => ⟨(hM e he).1, (Stay.same sg).dp _ _ (hM e he).1.ok (hM e he).2⟩), isP, hall, fun ys2 S2 l2 hS2 hSl2 hys2 hl2 => ?_⟩
    have sl := same_new hl2 (.lst ys2)
    exact q _ l2 ys2 S2 (sm.trans (sg.trans sl)) hS2 hSl2 upd_same ((Stay.same sl).dpAll _ _ (okDs_rd S2) hys2)
end
end Rw
namespace Rw
open PySem PySem.Spec PyProof.Rows L2
/-! ### _law_told -/
def boolS (b : Bool) : Str := if b then PySem.Str.ofString "True" else PySem.Str.ofString "False"
theorem call_str_bl {X : Cx} : CallR X (.type "str") (fun xs H Q => ∃ b, xs = [.bl b] ∧ Q (.str (boolS b)) H) := by
  intro pins s σ H xs us Q I r ⟨b, e, q⟩
  subst e
  obtain ⟨u, rfl, ru⟩ := vals1 r
  obtain rfl : u = Value.bool b := ru
  exact P.str_of_bool ⟨.str (boolS b), H, I.tok _, ⟨_, rfl⟩, q⟩
def rListOf (K : PySem.W.Frag) : List V → Hp → VK → Prop := fun xs H Q => ∃ p ys, xs = [V.ref p] ∧ (SqL K H p ys ∨ SqT K H p ys) ∧ ∀ (l : Addr), H l = none → Q (V.ref l) (upd H l (HO.lst ys))
/-- what the text's error classes are, where they are caught -/
structure ErrK (K : PySem.W.Frag) (mg : Str → Option Value) (CP CW CS CR : Addr) : Prop where
  mP : mg "NotAProgram" = some (.ref CP)
  mW : mg "InvalidWorld" = some (.ref CW)
  mS : mg "NotASplit" = some (.ref CS)
  mR : mg "RuleError" = some (.ref CR)
  eP : PySem.W.exmOne K (.ref CP) (.ref CR) = some true
  eW : PySem.W.exmOne K (.ref CW) (.ref CR) = some true
  eS : PySem.W.exmOne K (.ref CS) (.ref CR) = some true
  cP : ExcC K CP
  cW : ExcC K CW
  cS : ExcC K CS
  nP : PySem.W.findIn K (.ref CP) "thing" = some none
  nW : PySem.W.findIn K (.ref CW) "thing" = some none
  nS : PySem.W.findIn K (.ref CS) "thing" = some none
  iPP : PySem.W.kitOne K (.ref CP) (.ref CP) = some true
  iWP : PySem.W.kitOne K (.ref CW) (.ref CP) = some false
  iWW : PySem.W.kitOne K (.ref CW) (.ref CW) = some true
  iSP : PySem.W.kitOne K (.ref CS) (.ref CP) = some false
  iSW : PySem.W.kitOne K (.ref CS) (.ref CW) = some false
  iSS : PySem.W.kitOne K (.ref CS) (.ref CS) = some true
theorem xf_of {K : PySem.W.Frag} {C : Addr} (h : ExcC K C) : XfC K C := ⟨h.hg, h.hk, h.hs, h.hd⟩
abbrev sLawTold : Stmt := topS 48
theorem scLawTold : FnScope ["way", "sheet", "lot", "state", "caught", "told", "error"] ["way", "sheet", "lot", "state"] (defScope sLawTold) := ⟨rfl, rfl, rfl, by decide +kernel, rfl, by decide +kernel, by decide +kernel⟩
/-- a list [a word, a thing] is handed back -/
def TL (Q : VK) (s : Str) (x : V) (H : Hp) : Prop := ∀ H2 l, Same H H2 → H2 l = some (.lst [.str s, x]) → Q (.ref l) H2
/-- what the errors tell -/
def TE' (CP CW CS : Addr) (Q : VK) : XK := fun cls d H' => ∃ (dd D : Addr) (x : V) (s : Str), d = some dd ∧ cls = .ref D ∧ H' dd = some (.xd [(("thing" : Str), x)]) ∧ ((D = CP ∧ s = "program") ∨ (D = CW ∧ s = "world") ∨ (D = CS ∧ s = "split")) ∧ TL Q s x H'
section
variable {K : PySem.W.Frag} {C CP CW CS : Addr} {H : Hp} {Q Q2 : VK} {E E2 : XK}
theorem spSplits_mono {vs : List V} (h : spSplits K C CP CW vs H Q E) (mq : ∀ v H', Q v H' → Q2 v H') (me : ∀ cls d H', E cls d H' → E2 cls d H') : spSplits K C CP CW vs H Q2 E2 := by
  obtain ⟨v, nm, rfl, ⟨S, d, h1, h2, h3, h4, h5, h6⟩ | ⟨d, h1, h2⟩⟩ := h
  · exact ⟨v, nm, rfl, .inl ⟨S, d, h1, h2, h3, h4, h5, fun H' s => ⟨fun ns hn e => mq _ _ ((h6 H' s).1 ns hn e), fun e dx hd => me _ _ _ ((h6 H' s).2 e dx hd)⟩⟩⟩
  · exact ⟨v, nm, rfl, .inr ⟨d, h1, fun dx hd => me _ _ _ (h2 dx hd)⟩⟩
theorem SpX.monoE {v nm : V} {R : List Rl → W → Hp → Prop} (h : SpX K C CP CW CS v nm H E R) (me : ∀ cls d H', E cls d H' → E2 cls d H') : SpX K C CP CW CS v nm H E2 R := by
  rcases h with ⟨S, d, h1, h2, h3, h4, h5, h6⟩ | ⟨d, h1, h2⟩
  · exact .inl ⟨S, d, h1, h2, h3, h4, h5, fun H' s => ⟨fun ns hn e => ⟨((h6 H' s).1 ns hn e).1, fun b dx hd => me _ _ _ (((h6 H' s).1 ns hn e).2 b dx hd)⟩, fun e dx hd => me _ _ _ ((h6 H' s).2 e dx hd)⟩⟩
  · exact .inr ⟨d, h1, fun dx hd => me _ _ _ (h2 dx hd)⟩
theorem spLower_mono {vs : List V} (h : spLower K C CP CW CS vs H Q E) (mq : ∀ v H', Q v H' → Q2 v H') (me : ∀ cls d H', E cls d H' → E2 cls d H') : spLower K C CP CW CS vs H Q2 E2 := by
  obtain ⟨v, nm, rfl, h⟩ := h
  exact ⟨v, nm, rfl, (h.mono fun S ns H1 d _ _ _ _ _ _ _ q H2 u S2 a1 a2 a3 a4 => mq _ _ (q H2 u S2 a1 a2 a3 a4)).monoE me⟩
theorem spRest_mono {vs : List V} (h : spRest K C CP CW CS vs H Q E) (mq : ∀ v H', Q v H' → Q2 v H') (me : ∀ cls d H', E cls d H' → E2 cls d H') : spRest K C CP CW CS vs H Q2 E2 := by
  obtain ⟨v, nm, wv, dw, rfl, h1, h2, h⟩ := h
  exact ⟨v, nm, wv, dw, rfl, h1, h2, (h.mono fun S ns H1 d _ _ _ _ _ _ _ q H2 s2 => ⟨fun ws a1 a2 a3 H3 u S2 a4 a5 a6 a7 => mq _ _ ((q H2 s2).1 ws a1 a2 a3 H3 u S2 a4 a5 a6 a7), fun a1 dx a2 => me _ _ _ ((q H2 s2).2 a1 dx a2)⟩).monoE me⟩
theorem TL.same {s : Str} {x : V} {H' : Hp} (h : TL Q s x H) (e : Same H H') : TL Q s x H' := fun H2 l a1 a2 => h H2 l (e.trans a1) a2
end
section
variable {P : Program} {w : World} {K : PySem.W.Frag} {mg : Str → Option Value} {base : Heap} {f : Addr} {fd : FuncData} {k : Nat}
/-- a program is handed back: its rules in a list -/
def TP' (K : PySem.W.Frag) (C : Addr) (Q : VK) : VK := fun u H' => ∃ S2, PgAt K C H' u S2 ∧ S2.length < 64 ∧ ∀ H2 l zs, Same H' H2 → H2 l = some (.lst zs) → DpAll K H2 zs (S2.map rd) → TL Q "told" (.ref l) H2
def spLawTold (K : PySem.W.Frag) (C CP CW CS : Addr) : Sp := fun vs H Q _ => ∃ (way : Int) (v nm wv : V), vs = [.int way, v, nm, wv] ∧
  ((way = 0 ∧ spSplits K C CP CW [v, nm] H (fun u H' => ∃ b, u = .bl b ∧ TL Q "told" (.str (boolS b)) H') (TE' CP CW CS Q)) ∨
   (way = 1 ∧ spLower K C CP CW CS [v, nm] H (TP' K C Q) (TE' CP CW CS Q)) ∨
   (way = 2 ∧ spRest K C CP CW CS [v, nm, wv] H (TP' K C Q) (TE' CP CW CS Q)))
theorem ok_lawTold {C CP CW CS CR pr f1 f2 f3 f4 : Addr} {fd1 fd2 fd3 fd4 : FuncData} (F : Fun K "_law_told" "_law_told" sLawTold f fd) (T : Bl mg) (E : ErrK K mg CP CW CS CR) (c : Cls K C) (hp : PropOf K C "rules" pr f4)
    (G1 : FnOk P w K mg base (L2.CX P w) (k + 1) f1 fd1 ["program", "names"] (spSplits K C CP CW)) (b1 : Binds K fd1 ["program", "names"] []) (k1 : PySem.W.keepIn K (.ref f1) = true) (m1 : mg "splits" = some (.ref f1))
    (G2 : FnOk P w K mg base (L2.CX P w) (k + 1) f2 fd2 ["program", "names"] (spLower K C CP CW CS)) (b2 : Binds K fd2 ["program", "names"] []) (k2 : PySem.W.keepIn K (.ref f2) = true) (m2 : mg "lower" = some (.ref f2))
    (G3 : FnOk P w K mg base (L2.CX P w) (k + 1) f3 fd3 ["program", "names", "world"] (spRest K C CP CW CS)) (b3 : Binds K fd3 ["program", "names", "world"] []) (k3 : PySem.W.keepIn K (.ref f3) = true) (m3 : mg "rest" = some (.ref f3))
    (G4 : FnOk P w K mg base CX0 k f4 fd4 ["self"] (spRules K C)) (b4 : Binds K fd4 ["self"] []) :
    FnOk P w K mg base CX0 (k + 2) f fd ["way", "sheet", "lot", "state"] (spLawTold K C CP CW CS) := by
  refine F.ok scLawTold (fun vs H Q E h => ?_) (fun cdv A outer s H vs Q E' hr h => ?_)
  · obtain ⟨way, v, nm, wv, rfl, _⟩ := h
    rfl
  obtain ⟨way, v, nm, wv, rfl, h⟩ := h
  refine ⟨_, pss_cons (ps_set (i := 4) scLawTold.nd rfl (.inl rfl) pe_non)
    (pss_cons (ps_set (i := 5) scLawTold.nd rfl (.inl rfl) pe_non)
    (pss_mid (ps_try_keep (i := 6) (j := 4) rfl rfl scLawTold.nd rfl rfl ⟨rfl, by decide, .inl E.mR⟩ rfl rfl rfl rfl (by decide) (by decide) (by rfl) (fun W pn xe tk po =>
        pss_one (ps_if (pt_cmpR op_eq (pv 0) pe_int (nomark _))
          (pss_one (ps_set (i := 5) scLawTold.nd rfl (.inl rfl) (pe_callTy (T := "str") call_str_bl (by rfl) T.str (by decide +kernel) (pa_cons (pe_callS G1 hr (by rfl) m1 k1 b1 (fun σ => passAt tk σ) (pa_cons (pv 1) (pa_cons (pv 2) pa_nil))) pa_nil))))
          (pss_one (ps_if (pt_cmpR op_eq (pv 0) pe_int (nomark _))
            (pss_one (ps_set (i := 5) scLawTold.nd rfl (.inl rfl) (pe_callTy (T := "list") (r := rListOf K) call_list_of (by rfl) T.list (by decide +kernel) (pa_cons (pe_prop (pe_callS G2 hr (by rfl) m2 k2 b2 (fun σ => passAt tk σ) (pa_cons (pv 1) (pa_cons (pv 2) pa_nil))) c hp G4 hr b4 .nil pass0 rfl) pa_nil))))
            (pss_one (ps_set (i := 5) scLawTold.nd rfl (.inl rfl) (pe_callTy (T := "list") (r := rListOf K) call_list_of (by rfl) T.list (by decide +kernel) (pa_cons (pe_prop (pe_callS G3 hr (by rfl) m3 k3 b3 (fun σ => passAt tk σ) (pa_cons (pv 1) (pa_cons (pv 2) (pa_cons (pv 3) pa_nil)))) c hp G4 hr b4 .nil pass0 rfl) pa_nil))))))))
      )
    (pss_cons (ps_if (pt_cmpR op_isN (pv 4) pe_non (nomark _)) (pss_one (ps_ret (pe_lst (pa_cons pe_str (pa_cons (pv 5) pa_nil))))) pss_nil)
    (pss_cons (ps_if (pt_val (pe_callB call_isH (by rfl) T.isi PyProof.Rows.boot_isinstance (pa_cons (pv 4) (pa_cons (pe_glob (v := .ref CP) (by rfl) E.mP rfl) pa_nil)))) (pss_one (ps_ret (pe_lst (pa_cons pe_str (pa_cons (pe_fldH (xf_of E.cP) E.nP (pv 4)) pa_nil))))) pss_nil)
    (pss_cons (ps_if (pt_val (pe_callB call_isH (by rfl) T.isi PyProof.Rows.boot_isinstance (pa_cons (pv 4) (pa_cons (pe_glob (v := .ref CW) (by rfl) E.mW rfl) pa_nil)))) (pss_one (ps_ret (pe_lst (pa_cons pe_str (pa_cons (pe_fldH (xf_of E.cW) E.nW (pv 4)) pa_nil))))) pss_nil)
    (pss_one (ps_ret (pe_ix ix_list (pe_lst (pa_cons (pe_lst (pa_cons pe_str (pa_cons pe_non pa_nil))) (pa_cons (pe_lst (pa_cons pe_str (pa_cons (pe_fldH (xf_of E.cS) E.nS (pv 4)) pa_nil))) pa_nil)))
        (pe_callTy call_int1 (by rfl) T.int (by decide +kernel) (pa_cons (pe_callB call_isH (by rfl) T.isi PyProof.Rows.boot_isinstance (pa_cons (pv 4) (pa_cons (pe_glob (v := .ref CS) (by rfl) E.mS rfl) pa_nil))) pa_nil)) (fun _ _ => rfl))))))))), ?_⟩
  let I : L2.St → Hp → Prop := fun σ H' => ∃ cv tv, σ = [some (.int way), some v, some nm, some wv, some cv, some tv, none] ∧ ((cv = .non ∧ TL Q "told" tv H') ∨ ∃ (a dd D : Addr) (x : V) (s : Str), cv = .ref a ∧ H' a = some (ExH (.ref D) (some dd) a) ∧ H' dd = some (.xd [(("thing" : Str), x)]) ∧ ((D = CP ∧ s = "program") ∨ (D = CW ∧ s = "world") ∨ (D = CS ∧ s = "split")) ∧ TL Q s x H')
  have no : ∀ {i j : Int}, i ≠ j → V.bl (decide (V.int i = V.int j)) = V.bl false := fun n => congrArg V.bl (decide_eq_false fun e => n (by injection e))
  have yes : ∀ {i : Int}, V.bl (decide (V.int i = V.int i)) = V.bl true := congrArg V.bl (decide_eq_true rfl)
  -- what an error leads to
  have bad : ∀ cls d H', TE' CP CW CS Q cls d H' → PySem.W.exmOne K cls (.ref CR) = some true ∧ ∀ a, H' a = none → I [some (.int way), some v, some nm, some wv, some (.ref a), some .non, none] (upd H' a (ExH cls d a)) := fun cls d H' ⟨dd, D, x, s, e1, e2, h1, h2, h3⟩ => by
    subst e1 e2
    refine ⟨?_, fun a ha => ⟨.ref a, .non, rfl, .inr ⟨a, dd, D, x, s, rfl, upd_same, (same_new ha _) _ _ h1, h2, h3.same (same_new ha _)⟩⟩⟩
    rcases h2 with ⟨rfl, _⟩ | ⟨rfl, _⟩ | ⟨rfl, _⟩
    · exact E.eP
    · exact E.eW
    · exact E.eS
  have good : ∀ u H', TP' K C Q u H' → ∃ (a dx : Addr) (t : Addr) (S : List Rl), u = .ref a ∧ True := fun u H' ⟨S2, ⟨a, dx, t, ys, e, _⟩, _⟩ => ⟨a, dx, t, S2, e, trivial⟩
  refine ⟨I, ?_, fun σ' H' hI => ?_⟩
  · rcases h with ⟨rfl, h⟩ | ⟨rfl, h⟩ | ⟨rfl, h⟩
    · refine ⟨.int 0, rfl, rfl, true, yes, iteT ?_⟩
      refine ⟨v, rfl, nm, rfl, ?_⟩
      dsimp only [tNil]
      exact spSplits_mono h (fun u H' ⟨b, e, q⟩ => ⟨b, by rw [e], .non, _, rfl, .inl ⟨rfl, q⟩⟩) (fun cls d H' q => bad cls d H' q)
    · refine ⟨.int 1, rfl, rfl, false, no (by decide), iteF ?_⟩
      refine ⟨.int 1, rfl, rfl, true, yes, iteT ?_⟩
      refine ⟨v, rfl, nm, rfl, ?_⟩
      dsimp only [tNil]
      refine spLower_mono h (fun u H' q => ?_) (fun cls d H' q => bad cls d H' q)
      obtain ⟨S2, hS, few, q⟩ := q
      obtain ⟨a, dx, t0, ys0, rfl, i1, i2, i3⟩ := id hS
      refine ⟨a, dx, _, rfl, i1, .ref a, S2, rfl, hS, fun t ys ht hys => ?_⟩
      refine ⟨t, ys, rfl, .inr ht, fun l hl => ⟨.non, .ref l, rfl, .inl ⟨rfl, q _ l ys (same_new hl _) upd_same (dpAll_same (same_new hl _) _ _ hys)⟩⟩⟩
    · refine ⟨.int 2, rfl, rfl, false, no (by decide), iteF ?_⟩
      refine ⟨.int 2, rfl, rfl, false, no (by decide), iteF ?_⟩
      refine ⟨v, rfl, nm, rfl, wv, rfl, ?_⟩
      dsimp only [tNil]
      refine spRest_mono h (fun u H' q => ?_) (fun cls d H' q => bad cls d H' q)
      obtain ⟨S2, hS, few, q⟩ := q
      obtain ⟨a, dx, t0, ys0, rfl, i1, i2, i3⟩ := id hS
      refine ⟨a, dx, _, rfl, i1, .ref a, S2, rfl, hS, fun t ys ht hys => ?_⟩
      refine ⟨t, ys, rfl, .inr ht, fun l hl => ⟨.non, .ref l, rfl, .inl ⟨rfl, q _ l ys (same_new hl _) upd_same (dpAll_same (same_new hl _) _ _ hys)⟩⟩⟩
  · obtain ⟨cv, tv, rfl, ⟨rfl, q⟩ | ⟨a, dd, D, x, s, rfl, ha, hd, hs, q⟩⟩ := hI
    · refine ⟨.non, rfl, rfl, true, congrArg V.bl (decide_eq_true rfl), iteT ?_⟩
      refine ⟨tv, rfl, by show 2 ≤ sizeLine; decide, fun l hl => ?_⟩
      exact q _ l (same_new hl _) upd_same
    · refine ⟨.ref a, rfl, rfl, false, congrArg V.bl (decide_eq_false fun e => nomatch e), iteF ?_⟩
      have fld : ([(("thing" : Str), x)] : List (Str × V)).lookup ("thing" : Str) = some x := rfl
      rcases hs with ⟨rfl, rfl⟩ | ⟨rfl, rfl⟩ | ⟨rfl, rfl⟩
      · refine ⟨.ref a, rfl, .ref a, .ref _, .ref _, rfl, fun v r => r, .inr ⟨a, _, dd, _, true, rfl, ha, hd, E.cP, E.iPP, true, rfl, iteT ?_⟩⟩
        refine ⟨.ref a, rfl, a, dd, _, x, rfl, ha, hd, fld, by show 2 ≤ sizeLine; decide, fun l hl => ?_⟩
        exact q _ l (same_new hl _) upd_same
      · refine ⟨.ref a, rfl, .ref a, .ref _, .ref _, rfl, fun v r => r, .inr ⟨a, _, dd, _, false, rfl, ha, hd, E.cW, E.iWP, false, rfl, iteF ?_⟩⟩
        refine ⟨.ref a, rfl, .ref a, .ref _, .ref _, rfl, fun v r => r, .inr ⟨a, _, dd, _, true, rfl, ha, hd, E.cW, E.iWW, true, rfl, iteT ?_⟩⟩
        refine ⟨.ref a, rfl, a, dd, _, x, rfl, ha, hd, fld, by show 2 ≤ sizeLine; decide, fun l hl => ?_⟩
        exact q _ l (same_new hl _) upd_same
      · refine ⟨.ref a, rfl, .ref a, .ref _, .ref _, rfl, fun v r => r, .inr ⟨a, _, dd, _, false, rfl, ha, hd, E.cS, E.iSP, false, rfl, iteF ?_⟩⟩
        refine ⟨.ref a, rfl, .ref a, .ref _, .ref _, rfl, fun v r => r, .inr ⟨a, _, dd, _, false, rfl, ha, hd, E.cS, E.iSW, false, rfl, iteF ?_⟩⟩
        refine ⟨by show 2 ≤ sizeLine; decide, fun l hl => ?_⟩
        have s1 := same_new hl (.lst [.str "other", .non])
        refine ⟨.ref a, rfl, a, dd, _, x, rfl, s1 _ _ ha, s1 _ _ hd, fld, by show 2 ≤ sizeLine; decide, fun l2 hl2 => ?_⟩
        have s2 := same_new hl2 (.lst [.str "split", x])
        refine ⟨by show 2 ≤ sizeLine; decide, fun l3 hl3 => ?_⟩
        have s3 := same_new hl3 (.lst [.ref l, .ref l2])
        have s12 := s1.trans (s2.trans s3)
        refine ⟨.ref a, rfl, .ref a, .ref _, .ref _, rfl, fun v r => r, .inr ⟨a, _, dd, _, true, rfl, s12 _ _ ha, s12 _ _ hd, E.cS, E.iSS, ?_⟩⟩
        refine .inr ⟨true, rfl, ?_⟩
        refine ⟨l3, _, 1, .ref l2, rfl, rfl, SqL.of upd_same, rfl, ?_⟩
        exact q _ l2 s12 (s3 _ _ upd_same)
end
end Rw
namespace Rw
open PySem PySem.Spec PyProof.Rows L2
/-! ### what _law_told answers, case by case -/
/-- [a word, a thing] -/
def pr2 (s : Str) (d : PyData) : PyData := .list [.str s, d]
/-- a thing that can be laid, not too deep -/
structure Lay (d : PyData) : Prop where
  lay : d.canLay0 = true
  dep : d.depth ≤ 20
theorem Lay.shaped {d : PyData} (h : Lay d) : SeqAt.shaped d = true := shaped_of h.lay (Nat.le_trans h.dep (by decide))
theorem Lay.list {ds : List PyData} (h : ∀ d ∈ ds, d.canLay0 = true ∧ d.depth ≤ 19) : Lay (.list ds) := by
  have e1 : ∀ ds : List PyData, (∀ d ∈ ds, d.canLay0 = true ∧ d.depth ≤ 19) → PyData.canLayAll0 ds = true ∧ PyData.depthAll ds ≤ 19 := by
    intro ds
    induction ds with
    | nil => exact fun _ => ⟨by simp [PyData.canLayAll0], by simp [PyData.depthAll]⟩
    | cons d t ih =>
      intro h
      obtain ⟨i1, i2⟩ := ih fun y hy => h y (List.mem_cons_of_mem _ hy)
      obtain ⟨j1, j2⟩ := h d List.mem_cons_self
      refine ⟨?_, ?_⟩
      · rw [PyData.canLayAll0, i1, j1]
        rfl
      · rw [PyData.depthAll]
        omega
  obtain ⟨i1, i2⟩ := e1 ds h
  refine ⟨?_, ?_⟩
  · rw [PyData.canLay0]
    exact i1
  · rw [PyData.depth]
    omega
theorem lay_pr2 {s : Str} {d : PyData} (hs : (PyData.str s).canLay0 = true) (h : d.canLay0 = true) (n : d.depth ≤ 19) : Lay (pr2 s d) := Lay.list fun x hx => by
  simp only [List.mem_cons, List.mem_nil_iff, or_false] at hx
  rcases hx with rfl | rfl
  · exact ⟨hs, by rw [PyData.depth]; decide⟩
  · exact ⟨h, n⟩
theorem lay_w {ns : W} (h : IsW ns) : (wd ns).canLay0 = true ∧ (wd ns).depth ≤ 18 := ⟨lay_wd h.names, by rw [depth_wd]; decide⟩
theorem lay_rules {S : List Rl} (h : ∀ r ∈ S, IsR r) : Lay (.list (S.map rd)) := Lay.list fun d hd => by
  obtain ⟨r, hr, rfl⟩ := List.mem_map.mp hd
  exact ⟨lay_rd (h r hr), Nat.le_trans (depth_rd r) (by decide)⟩
section
variable {K : PySem.W.Frag} {C CP CW CS : Addr} {H : Hp} {Q : VK} {E : XK}
/-- the answer, as data -/
def TD (K : PySem.W.Frag) (Q : VK) (d : PyData) (H : Hp) : Prop := ∀ H2 l, Same H H2 → Dp K H2 (.ref l) d → Q (.ref l) H2
theorem TD.tl {s : Str} {x : V} {d : PyData} (h : TD K Q (pr2 s d) H) (hx : Dp K H x d) : TL Q s x H := fun H2 l s2 hl => h H2 l s2 (.lst (SqL.of hl) (.cons (.str s) (.cons (dp_same s2 _ _ hx) .nil)))
theorem TD.same {d : PyData} {H' : Hp} (h : TD K Q d H) (e : Same H H') : TD K Q d H' := fun H2 l s2 hl => h H2 l (e.trans s2) hl
theorem told_E {H' : Hp} {dx : Addr} {D : Addr} {x : V} {s : Str} {d : PyData} (hD : (D = CP ∧ s = "program") ∨ (D = CW ∧ s = "world") ∨ (D = CS ∧ s = "split")) (e : Same H H') (hx : H' dx = none) (hd : Dp K H x d) (q : TD K Q (pr2 s d) H) :
    TE' CP CW CS Q (.ref D) (some dx) (upd H' dx (.xd [(("thing" : Str), x)])) := ⟨dx, D, x, s, rfl, rfl, upd_same, hD, (q.same (e.trans (same_new hx _))).tl (dp_same (e.trans (same_new hx _)) _ _ hd)⟩
variable {v nm wv : V} {S : List Rl} {d dw dv : PyData} {way : Int}
theorem told_splits {ns : W} (hS : PgAt K C H v S) (hI : ∀ r ∈ S, IsR r) (few : S.length < 64) (hn : IsW ns) (hd : Dp K H nm (wd ns)) (q : TD K Q (pr2 "told" (.str (boolS (splitsB S ns)))) H) : spLawTold K C CP CW CS [.int 0, v, nm, wv] H Q (fun _ _ _ => False) :=
  ⟨0, v, nm, wv, rfl, .inl ⟨rfl, v, nm, rfl, .inl ⟨S, wd ns, hS, hI, few, hd, oddW_wd hn, fun H' e => ⟨fun ns' hn' e' => ⟨_, rfl, by
    have := wd_inj e'
    subst this
    exact (q.same e).tl (.str _)⟩, fun e' => by rw [worldD_wd hn] at e'; exact nomatch e'⟩⟩⟩⟩
theorem told_bad (hway : way = 0 ∨ way = 1 ∨ way = 2) (hS : PgAt K C H v S) (hI : ∀ r ∈ S, IsR r) (few : S.length < 64) (hd : Dp K H nm d) (odd : oddW d) (no : worldD d = false) (hw : Dp K H wv dw) (oddw : oddW dw) (q : TD K Q (pr2 "world" d) H) : spLawTold K C CP CW CS [.int way, v, nm, wv] H Q (fun _ _ _ => False) := by
  have no' : ∀ ns, IsW ns → d = wd ns → False := fun ns hn e => by
    rw [e, worldD_wd hn] at no
    exact nomatch no
  have X : ∀ R, SpX K C CP CW CS v nm H (TE' CP CW CS Q) R := fun R => .inl ⟨S, d, hS, hI, few, hd, odd, fun H' e => ⟨fun ns hn e' => (no' ns hn e').elim, fun _ dx hdx => told_E (.inr (.inl ⟨rfl, rfl⟩)) e hdx hd q⟩⟩
  refine ⟨way, v, nm, wv, rfl, ?_⟩
  rcases hway with rfl | rfl | rfl
  · exact .inl ⟨rfl, v, nm, rfl, .inl ⟨S, d, hS, hI, few, hd, odd, fun H' e => ⟨fun ns hn e' => (no' ns hn e').elim, fun _ dx hdx => told_E (.inr (.inl ⟨rfl, rfl⟩)) e hdx hd q⟩⟩⟩
  · exact .inr (.inl ⟨rfl, v, nm, rfl, X _⟩)
  · exact .inr (.inr ⟨rfl, v, nm, wv, dw, rfl, hw, oddw, X _⟩)
theorem told_prog (hway : way = 0 ∨ way = 1 ∨ way = 2) (hv : Dp K H v dv) (hw : Dp K H wv dw) (oddw : oddW dw) (q : TD K Q (pr2 "program" dv) H) : spLawTold K C CP CW CS [.int way, v, nm, wv] H Q (fun _ _ _ => False) := by
  have X : ∀ R, SpX K C CP CW CS v nm H (TE' CP CW CS Q) R := fun R => .inr ⟨dv, hv, fun dx hdx => told_E (.inl ⟨rfl, rfl⟩) (fun _ _ e => e) hdx hv q⟩
  refine ⟨way, v, nm, wv, rfl, ?_⟩
  rcases hway with rfl | rfl | rfl
  · exact .inl ⟨rfl, v, nm, rfl, .inr ⟨dv, hv, fun dx hdx => told_E (.inl ⟨rfl, rfl⟩) (fun _ _ e => e) hdx hv q⟩⟩
  · exact .inr (.inl ⟨rfl, v, nm, rfl, X _⟩)
  · exact .inr (.inr ⟨rfl, v, nm, wv, dw, rfl, hw, oddw, X _⟩)
theorem told_nosplit {ns : W} (hway : way = 1 ∨ way = 2) (hS : PgAt K C H v S) (hI : ∀ r ∈ S, IsR r) (few : S.length < 64) (hn : IsW ns) (hd : Dp K H nm (wd ns)) (no : splitsB S ns = false) (hw : Dp K H wv dw) (oddw : oddW dw) (q : TD K Q (pr2 "split" (wd ns)) H) : spLawTold K C CP CW CS [.int way, v, nm, wv] H Q (fun _ _ _ => False) := by
  have X : ∀ R, SpX K C CP CW CS v nm H (TE' CP CW CS Q) R := fun R => .inl ⟨S, wd ns, hS, hI, few, hd, oddW_wd hn, fun H' e => ⟨fun ns' hn' e' => by
    have := wd_inj e'
    subst this
    exact ⟨fun b => (by rw [no] at b; exact nomatch b), fun _ dx hdx => told_E (.inr (.inr ⟨rfl, rfl⟩)) e hdx hd q⟩, fun e' => by rw [worldD_wd hn] at e'; exact nomatch e'⟩⟩
  refine ⟨way, v, nm, wv, rfl, ?_⟩
  rcases hway with rfl | rfl
  · exact .inr (.inl ⟨rfl, v, nm, rfl, X _⟩)
  · exact .inr (.inr ⟨rfl, v, nm, wv, dw, rfl, hw, oddw, X _⟩)
theorem split_X {ns : W} {R : List Rl → W → Hp → Prop} {E' : XK} (hS : PgAt K C H v S) (hI : ∀ r ∈ S, IsR r) (few : S.length < 64) (hn : IsW ns) (hd : Dp K H nm (wd ns)) (yes : splitsB S ns = true) (q : ∀ H', Same H H' → R S ns H') : SpX K C CP CW CS v nm H E' R := .inl ⟨S, wd ns, hS, hI, few, hd, oddW_wd hn, fun H' e => ⟨fun ns' hn' e' => by
    have := wd_inj e'
    subst this
    exact ⟨fun _ => q H' e, fun b => (by rw [yes] at b; exact nomatch b)⟩, fun e' => by rw [worldD_wd hn] at e'; exact nomatch e'⟩⟩
theorem told_lower {ns : W} (hS : PgAt K C H v S) (hI : ∀ r ∈ S, IsR r) (few : S.length < 64) (hn : IsW ns) (hd : Dp K H nm (wd ns)) (yes : splitsB S ns = true) (q : ∀ S2, Srt S2 (lowerL S ns) → TD K Q (pr2 "told" (.list (S2.map rd))) H) : spLawTold K C CP CW CS [.int 1, v, nm, wv] H Q (fun _ _ _ => False) :=
  ⟨1, v, nm, wv, rfl, .inr (.inl ⟨rfl, v, nm, rfl, split_X hS hI few hn hd yes fun H' e H2 u S2 e2 hS2 few2 hu => ⟨S2, hu, few2, fun H3 l zs e3 hl hzs => ((q S2 hS2).same (e.trans (e2.trans e3))).tl (.lst (SqL.of hl) hzs)⟩⟩)⟩
theorem told_rest {ns ws : W} (hS : PgAt K C H v S) (hI : ∀ r ∈ S, IsR r) (few : S.length < 64) (hn : IsW ns) (hd : Dp K H nm (wd ns)) (yes : splitsB S ns = true) (hws : IsW ws) (hw : Dp K H wv (wd ws)) (hsub : sub ws ns = true) (q : ∀ S2, Srt S2 (restL S ns ws) → TD K Q (pr2 "told" (.list (S2.map rd))) H) : spLawTold K C CP CW CS [.int 2, v, nm, wv] H Q (fun _ _ _ => False) :=
  ⟨2, v, nm, wv, rfl, .inr (.inr ⟨rfl, v, nm, wv, wd ws, rfl, hw, oddW_wd hws, split_X hS hI few hn hd yes fun H' e H2 e2 => ⟨fun ws' hws' ew h3 H3 u S2 e3 hS2 few2 hu => by
    have := wd_inj ew
    subst this
    exact ⟨S2, hu, few2, fun H4 l zs e4 hl hzs => ((q S2 hS2).same (e.trans (e2.trans (e3.trans e4)))).tl (.lst (SqL.of hl) hzs)⟩, fun b => by
    have := b ws hws rfl
    rw [hsub] at this
    exact nomatch this⟩⟩)⟩
theorem told_state {ns : W} (hS : PgAt K C H v S) (hI : ∀ r ∈ S, IsR r) (few : S.length < 64) (hn : IsW ns) (hd : Dp K H nm (wd ns)) (yes : splitsB S ns = true) (hw : Dp K H wv dw) (oddw : oddW dw) (no : ∀ ws, IsW ws → dw = wd ws → sub ws ns = false) (q : TD K Q (pr2 "world" dw) H) : spLawTold K C CP CW CS [.int 2, v, nm, wv] H Q (fun _ _ _ => False) :=
  ⟨2, v, nm, wv, rfl, .inr (.inr ⟨rfl, v, nm, wv, dw, rfl, hw, oddw, split_X hS hI few hn hd yes fun H' e H2 e2 => ⟨fun ws' hws' ew h3 _ _ _ _ _ _ _ => (by
    have := no ws' hws' ew
    rw [h3] at this
    exact absurd this (by decide)), fun _ dx hdx => told_E (.inr (.inl ⟨rfl, rfl⟩)) (e.trans e2) hdx hw q⟩⟩)⟩
/-- == and != of two that are the same -/
theorem ne_same {x y : V} (hx : Dp K H x d) (hy : Dp K H y d) (l : Lay d) (q : Q (.bl false) H) : rNeD K x y H Q := ⟨d, d, hx, hy, l.shaped, l.shaped, by rw [eqv_self l.shaped]; exact q⟩
theorem eq_same {x y : V} (hx : Dp K H x d) (hy : Dp K H y d) (l : Lay d) (q : Q (.bl true) H) : rEqD K x y H Q := ⟨d, d, hx, hy, l.shaped, l.shaped, by rw [eqv_self l.shaped]; exact q⟩
end
/-! ### _law_all_split -/
abbrev sLawAllSplit : Stmt := topS 50
theorem scLawAllSplit : FnScope ["sheet", "lot", "some", "state"] ["sheet", "lot", "some"] (defScope sLawAllSplit) := ⟨rfl, rfl, rfl, by decide +kernel, rfl, by decide +kernel, by decide +kernel⟩
section
variable {P : Program} {w : World} {K : PySem.W.Frag} {mg : Str → Option Value} {base : Heap} {f : Addr} {fd : FuncData} {k : Nat}
def spLawAllSplit (K : PySem.W.Frag) (C : Addr) : Sp := fun vs H Q _ => ∃ (v y : V) (a : Addr) (S : List Rl) (ns : W) (xs : List V) (ds : List PyData), vs = [v, y, .ref a] ∧ PgAt K C H v S ∧ (∀ r ∈ S, IsR r) ∧ S.length < 64 ∧ IsW ns ∧ Dp K H y (wd ns) ∧ splitsB S ns = false ∧ SqL K H a xs ∧ DpAll K H xs ds ∧ (∀ d ∈ ds, oddW d) ∧ ∀ H', Same H H' → Q (.bl true) H'
theorem ok_lawAllSplit {C CP CW CS f1 : Addr} {fd1 : FuncData} (F : Fun K "_law_all_split" "_law_all_split" sLawAllSplit f fd) (G1 : FnOk P w K mg base CX0 k f1 fd1 ["way", "sheet", "lot", "state"] (spLawTold K C CP CW CS)) (b1 : Binds K fd1 ["way", "sheet", "lot", "state"] []) (k1 : PySem.W.keepIn K (.ref f1) = true) (m1 : mg "_law_told" = some (.ref f1)) :
    FnOk P w K mg base CX0 (k + 1) f fd ["sheet", "lot", "some"] (spLawAllSplit K C) := by
  refine F.ok scLawAllSplit (fun vs H Q E h => ?_) (fun cdv A outer s H vs Q E hr h => ?_)
  · obtain ⟨v, y, a, S, ns, xs, ds, rfl, _⟩ := h
    rfl
  obtain ⟨v, y, a, S, ns, xs, ds, rfl, hS, hI, few, hn, hy, no, hA, hxs, hodd, q⟩ := h
  refine ⟨_, pss_one (ps_ret (pe_cmpR (op_eqD hr.units) (pe_lc (own := [("state", 3)]) (g := gName 3) (by rfl) scLawAllSplit.nd (pi_list (pv 2)) (blkOk_by (N := ["sheet", "lot", "some", "state"]) (sc := defScope sLawAllSplit) (by decide +kernel))
      (fun _ _ _ _ _ => pg_name (i := 3) scLawAllSplit.nd rfl (Or.inl rfl)) (fun _ _ _ _ _ => pts_one (pt_cmpR (r := rNeD K) (op_neD hr.units) (pe_call G1 hr (by rfl) m1 k1 b1 .nil pass0 (pa_cons pe_int (pa_cons (pv 0) (pa_cons (pv 1) (pa_cons (pv 3) pa_nil))))) (pe_lst (pa_cons pe_str (pa_cons (pv 1) pa_nil))) (by rfl))) (fun _ _ _ _ _ => pv 3)) (pe_lst pa_nil) (nomark _))), ?_⟩
  refine ⟨.ref a, rfl, a, rfl, ⟨_, hA⟩, fun D hD => ?_⟩
  refine lc_list (K := K) (a := a) (xs := xs) (fun i H1 => Same H H1 ∧ H1 D = some (.lst [])) ⟨same_new hD _, upd_same⟩ (fun i H1 _ hI => hI.1.seq hA) (fun i x H1 hx hI1 => ?_) (fun H1 hI1 => ?_)
  · obtain ⟨sm, hd⟩ := hI1
    obtain ⟨d, hdi, hxd⟩ := dpAll_at' hxs hx
    refine ⟨rfl, v, rfl, y, rfl, x, rfl, told_nosplit (.inr rfl) (hS.same sm) hI few hn (dp_same sm _ _ hy) no (dp_same sm _ _ hxd) (hodd d (List.mem_of_getElem? hdi)) fun H2 l s2 hl => ?_⟩
    refine ⟨y, rfl, by show 2 ≤ sizeLine; decide, fun e he => ?_⟩
    have se := same_new he (.lst [.str "split", y])
    have s12 := sm.trans (s2.trans se)
    have hyy : Dp K _ (.ref e) (pr2 "split" (wd ns)) := .lst (SqL.of upd_same) (.cons (.str _) (.cons (dp_same s12 _ _ hy) .nil))
    exact ne_same (dp_same se _ _ hl) hyy (lay_pr2 (by decide +kernel) (lay_w hn).1 (Nat.le_succ_of_le (lay_w hn).2)) ⟨false, rfl, iteF ⟨s12, (s2.trans se) _ _ hd⟩⟩
  · obtain ⟨sm, hd⟩ := hI1
    refine ⟨by show 0 ≤ sizeLine; decide, fun e he => ?_⟩
    have se := same_new he (.lst [])
    exact eq_same (d := .list []) (.lst (SqL.of (se _ _ hd)) .nil) (.lst (SqL.of upd_same) .nil) (Lay.list fun _ z => nomatch z) (q _ (sm.trans se))
end
end Rw
namespace Rw
open PySem PySem.Spec PyProof.Rows L2
/-! ### sorted(a tuple of texts) -/
section
variable {P : Program} {w : World} {A : Around} {E : Value → Shared → Prop} {s : Shared}
theorem collect_tup {a : Addr} {o : Obj} {vs : List Value} {n : Nat} {Q : List Value → Shared → Prop} (ho : s.heap.get? a = some o) (hc : o.cls = .type "tuple") (hd : o.data = .seq vs.toArray n) (hsz : vs.length ≤ sizeLine)
    (h : Q vs { s with heap := (s.heap.push (seqObj "list" #[] 0)).update s.heap.objs.size (Obj.mapSeq fun x => x ++ vs.toArray) }) : wpAny (model P w) A (collect (.ref a)) Q E s := by
  show wpAny (model P w) A (_ >>= _) Q E s
  refine wpAny_bind (wpAny_runValue (codeAny_builtin F.entry_proto_collect ?_))
  rw [Around.under_plainId F.plain_proto_collect]
  unfold Builtin.«proto.collect»
  refine wpAny_bind (wpAny_newList (wpAny_pure ⟨plainId_quiet F.plain_list_iadd _, codeAny_builtin F.entry_list_iadd ?_⟩) (Nat.zero_le _))
  rw [Around.under_plainId F.plain_list_iadd]
  have ho' := Heap.get?_push_of_some (seqObj "list" #[] 0) ho
  have hS : (s.heap.push (seqObj "list" #[] 0)).get? s.heap.objs.size = some (seqObj "list" #[] 0) := Heap.get?_push_size s.heap rfl
  unfold Builtin.«list.__iadd__»
  refine wpAny_bind (wpAny_pure ?_)
  show wpAny (model P w) A.in1 (Builtin.List.listExtendWith (.ref s.heap.objs.size) (.ref a) (.ref s.heap.objs.size)) _ _ _
  unfold Builtin.List.listExtendWith
  refine wpAny_bind (wpAny_typeOf ⟨o, ho', hc⟩ ?_)
  rw [if_pos (by simp)]
  refine wpAny_bind (listItems_at ho' hd (wpAny_bind (listItems_at hS rfl ?_)))
  rw [if_neg (by simp)]
  refine wpAny_bind (listUpdate_at hS rfl (wpAny_pure ?_) (Nat.zero_le _) ?_)
  · show wpAny (model P w) A _ _ _ _
    refine wpAny_bind (wpAny_load (get?_update_seq hS fun x => x ++ vs.toArray) ?_)
    show wpAny (model P w) A (pure ((#[] : Array Value) ++ vs.toArray).toList) Q E _
    rw [show ((#[] : Array Value) ++ vs.toArray).toList = vs by simp]
    exact wpAny_pure h
  · simp
    omega
open PySem.W in
theorem sorted_tupS {a : Addr} {vs : List Value} {zs : List Str} {Q : Value → Shared → Prop} (ht : IsTup s.heap a vs.toArray) (e : EachIs (fun v z => RelV (.str z) v) vs zs) (few : zs.length < 1000) (hu : A.units + 8 < cLine)
    (hQ : ∀ s' p (out : Array Value) (c : Nat) (zs' : List Str), (∀ b o, s.heap.get? b = some o → s'.heap.get? b = some o) → s'.gens = s.gens → s'.os = s.os → s.heap.objs.size ≤ p → s'.heap.get? p = some (seqObj "list" out c) →
      EachIs (fun v z => RelV (.str z) v) out.toList zs' → zs'.Perm zs → Q (.ref p) s') :
    wpAny (model P w) A (call (.builtin "sorted") [.ref a]) Q E s := by
  have lv : vs.length = zs.length := e.length
  refine Calls.call_function_entry kind_sorted plain_sorted entry_sorted (args_sorted1 _) ?_
  unfold Builtin.«sorted»
  refine wpAny_bind (m := checkCount "sorted" 1 1 _) (wpAny_pure ?_)
  obtain ⟨o, ho, hc, n, hd⟩ := ht
  refine wpAny_bind (collect_tup (A := A.in1) ho hc hd (by rw [lv, sizeLine_eq]; omega) ?_)
  have k1 : ∀ b u, s.heap.get? b = some u → ((s.heap.push (seqObj "list" #[] 0)).update s.heap.objs.size (Obj.mapSeq fun x => x ++ vs.toArray)).get? b = some u := fun b u hb => (PySem.Heap.get?_update_other _ (Obj.mapSeq fun x => x ++ vs.toArray) (Nat.ne_of_gt (Heap.lt_size hb))).trans (Heap.get?_push_of_some _ hb)
  have hz : s.heap.objs.size ≤ ((s.heap.push (seqObj "list" #[] 0)).update s.heap.objs.size (Obj.mapSeq fun x => x ++ vs.toArray)).objs.size := by
    exact Nat.le_of_lt (Heap.lt_size (get?_update_seq (Heap.get?_push_size s.heap (o := seqObj "list" #[] 0) rfl) fun x => x ++ vs.toArray))
  generalize (s.heap.push (seqObj "list" #[] 0)).update s.heap.objs.size (Obj.mapSeq fun x => x ++ vs.toArray) = h' at k1 hz
  refine wpAny_bind (wpAny_newList ?_ (by rw [sizeLine_eq]; omega))
  have hoL : (h'.push (seqObj "list" vs.toArray 0)).get? h'.objs.size = some (seqObj "list" vs.toArray 0) := Heap.get?_push_size _ rfl
  refine wpAny_bind (wpAny_holding (list_sorts (s := { s with heap := h'.push (seqObj "list" vs.toArray 0) }) (enc := fun z : Str => PyData.str z) (R := fun v z => RelV (.str z) v) (vs := vs) (bs := zs) hoL e
    (e.mono fun v b z => ?_) (AllAlike.of fun b b' => by simp [alike]) (.inr (Sortable.others fun b => ⟨(fun z => nomatch z), (fun xs z => nomatch z)⟩)) (by rw [sizeLine_eq]; omega) (fun b hb => ?_) fun out ho2 eo => ?_))
  · obtain ⟨u, e⟩ := z
    exact ⟨[], by rw [e]; exact .str b u, fun hm => nomatch hm⟩
  · show A.in1.units + 1 + (PyData.str b).depth < cLine
    simp only [PyData.depth, Around.in1_units]
    omega
  · obtain ⟨c, hcc⟩ := sortedHeap_at (vs := vs) (out := out.toArray) hoL
    have sf := sort_facts (fun z : Str => PyData.str z) zs
    refine wpAny_pure ⟨_, rfl, hQ _ h'.objs.size out.toArray c _ (fun b u q => ?_) rfl rfl hz hcc (by simpa using eo) sf.1⟩
    have q1 := k1 b u q
    have hlt := Heap.lt_size q1
    show (sortedHeap (h'.push (seqObj "list" vs.toArray 0)) h'.objs.size vs out.toArray).get? b = some u
    rw [sortedHeap_old (Nat.ne_of_lt hlt) (by rw [size_push']; exact Nat.lt_succ_of_lt hlt)]
    exact Heap.get?_push_of_some _ q1
section
variable {X : Cx}
/-- sorted(a tuple of texts): a list of the same texts -/
def rSortTS (K : PySem.W.Frag) : List V → Hp → VK → Prop := fun vs H Q => ∃ (a : Addr) (zs : List Str), vs = [V.ref a] ∧ SqT K H a (zs.map V.str) ∧ zs.length < 1000 ∧
  ∀ (ys : List Str) (p : Addr), ys.Perm zs → H p = none → Q (.ref p) (upd H p (.lst (ys.map V.str)))
theorem cr_sortTS (hu : X.A.units + 64 < cLine) : CallR X (.builtin "sorted") (rSortTS X.K) := by
  intro pins s σ H vs us Q I r h
  obtain ⟨a, zs, rfl, ha, few, q⟩ := h
  rw [Vals.ref1 r]
  obtain ⟨its, rv, ht, hz⟩ := I.tuple ha
  have e : PySem.W.EachIs (fun v z => RelV (.str z) v) its zs := vals_texts rv
  refine sorted_tupS ht e few (by omega) fun s' p out c zs' k g os hp hg ho' pm => ?_
  have hn : H p = none := I.hok.fresh hp
  have hv : Vals (zs'.map V.str) out.toList := texts_vals ho'
  have hl : zs'.length = zs.length := pm.length_eq
  have hlen : (zs'.map V.str).length ≤ sizeLine := by
    rw [List.length_map, sizeLine_eq]
    omega
  have J : Inv X pins σ (upd H p (.lst (zs'.map V.str))) { s with heap := s'.heap, gens := s'.gens, drawn := s'.drawn, toks := s'.toks } :=
    I.call (ch := []) (Un.laid k hp hn) (I.hok.laid k hp ⟨hlen, out.toList, c, hv, hg⟩) (by rw [g]; exact I.bare) (fun _ z => nomatch z)
  have e2 : s' = { s with heap := s'.heap, gens := s'.gens, drawn := s'.drawn, toks := s'.toks } := by
    cases s'
    cases s
    cases os
    rfl
  rw [e2]
  exact ⟨.ref p, _, J, rfl, q zs' p pm hn⟩
end
end
end Rw
namespace Rw
open PySem PySem.Spec PyProof.Rows L2 ClX
/-! ### _law_right -/
abbrev sLawRight : Stmt := topS 51
abbrev nLawRight : List Str := ["purse", "rules", "lot", "sheet", "is_split", "outer", "state", "some", "low", "turn", "odd", "name", "row", "one"]
theorem scLawRight : FnScope ["purse", "rules", "lot", "sheet", "is_split", "outer", "state", "some", "low", "turn", "odd", "name", "row", "one"] ["purse", "rules", "lot"] (defScope sLawRight) := ⟨rfl, rfl, rfl, by decide +kernel, rfl, by decide +kernel, by decide +kernel⟩
def poolW : W := ["a", "ab", "abc", "b", "bc", "z"]
section
variable {K : PySem.W.Frag} {C : Addr} {H H' : Hp} {p : Addr} {c : Int}
theorem PgAt.bar {v : V} {S : List Rl} (h : PgAt K C H v S) (b : Bar p H H') (pu : Pur H p c) : PgAt K C H' v S := by
  obtain ⟨a, dx, t, ys, e, h1, h2, h3⟩ := h
  have na : a ≠ p := fun z => by
    obtain ⟨_, _, _, g, _⟩ := pu
    rw [z, g] at h1
    cases h1
  have st := b.stay pu.mut
  exact ⟨a, dx, t, ys, e, b a _ na h1, st.seq h2, st.dpAll _ _ (okDs_rd S) h3⟩
theorem Srt.self {S L : List Rl} (h : Srt S L) : Srt S S := ⟨h.nd, h.ris, fun _ => Iff.rfl⟩
theorem Srt.filter {S L : List Rl} (h : Srt S L) (f : Rl → Bool) : Srt (S.filter f) (S.filter f) := ⟨h.nd.filter f, by
  have e : ((S.filter f).map rd).Sublist (S.map rd) := List.Sublist.map _ List.filter_sublist
  exact List.Pairwise.sublist e h.ris, fun _ => Iff.rfl⟩
/-- names kept of a tuple by drawing -/
theorem walk_draw {t D : Addr} {ns : W} {H0 : Hp} {Qd : Hp → Prop} {B : V → Hp → (Hp → Prop) → Prop} (hD : H0 D = none) (hP : Pur H0 p c) (ht : SqT K H0 t (ns.map V.str)) (few : ns.length ≤ 1000)
    (hs : ∀ z H3 (Nx : Hp → Prop) c', z ∈ ns → Bar p H0 H3 → Pur H3 p c' → c' ≤ c + 1000 → (∀ us, Pur (upd H3 p (.lst us)) p (c' + 1) → (∃ acc, (upd H3 p (.lst us)) D = some (.lst acc) ∧ acc.length < sizeLine ∧ Nx (upd (upd H3 p (.lst us)) D (.lst (acc ++ [.str z])))) ∧ Nx (upd H3 p (.lst us))) → B (.str z) H3 Nx)
    (hd : ∀ H1 (zs : W), Bar p H0 H1 → Pur H1 p (c + ns.length) → zs.Sublist ns → H1 D = some (.lst (zs.map V.str)) → Qd H1) :
    ∃ W : Nat → Nat → Hp → Prop, (∃ m, W 0 m (upd H0 D (.lst []))) ∧ ∀ i m H, W i m H → ((Itt K t).stop i H ∧ Qd H) ∨ ((Itt K t).go i H ∧ ∃ Nx : Hp → Prop, (∀ H', Nx H' → ∃ m', m' < m ∧ W (i + 1) m' H') ∧ ∀ x H', (Itt K t).yld i H x H' → B x H' Nx) := by
  have nDp := hP.some hD
  refine walk_tup (xs := ns.map V.str) (fun i H1 => Bar p H0 H1 ∧ Pur H1 p (c + i) ∧ ∃ zs : W, H1 D = some (.lst (zs.map V.str)) ∧ zs.Sublist (ns.take i)) ⟨.same (same_new hD _), (hP.same (same_new hD _)).le (by omega), [], upd_same, List.nil_sublist _⟩ (fun i H1 _ hI => (hI.1.stay hP.mut).seq ht) (fun i x H1 hx hI => ?_) (fun H1 hI => ?_)
  · obtain ⟨bar, pu, zs, hd1, hsub⟩ := hI
    obtain ⟨z, hz, rfl⟩ := map_at hx
    have il : i < ns.length := (List.getElem?_eq_some_iff.mp hz).1
    refine hs z H1 _ (c + i) (List.mem_of_getElem? hz) bar pu (by omega) fun us pu2 => ?_
    have hd2 : (upd H1 p (.lst us)) D = some (.lst (zs.map V.str)) := by
      rw [upd_ne nDp]
      exact hd1
    have pu3 : Pur (upd H1 p (.lst us)) p (c + ((i + 1 : Nat) : Int)) := pu2.le (by omega)
    have zl := hsub.length_le
    rw [List.length_take] at zl
    refine ⟨⟨_, hd2, small_line' (by rw [List.length_map]; omega), (bar.trans .draw).put hD, pu3.put nDp, zs ++ [z], ?_, ?_⟩, bar.trans .draw, pu3, zs, hd2, ?_⟩
    · rw [upd_same, List.map_append]
      rfl
    · rw [take_snoc hz]
      exact hsub.append (List.Sublist.refl _)
    · rw [take_snoc hz]
      exact hsub.trans (List.sublist_append_left _ _)
  · obtain ⟨bar, pu, zs, hd1, hsub⟩ := hI
    rw [List.length_map] at pu hsub
    rw [List.take_length] at hsub
    exact hd H1 zs bar pu hsub hd1
end
theorem okDs_sg (L : W) : okDs (L.map fun z => wd [z]) = true := okDs_all fun d hd => by
  obtain ⟨z, _, rfl⟩ := List.mem_map.mp hd
  exact ok_wd [z]
theorem okDs_mem : ∀ {ds : List PyData} {x : PyData}, okDs ds = true → x ∈ ds → okD x = true
  | [], _, _, h => nomatch h
  | d :: t, x, h, hm => (List.mem_cons.mp hm).elim (fun e => by rw [e]; exact (okDs_cons h).1) fun z => okDs_mem (okDs_cons h).2 z
theorem okDs_snoc : ∀ {ds : List PyData} {d : PyData}, okDs ds = true → okD d = true → okDs (ds ++ [d]) = true := fun {ds d} h1 h2 => okDs_all fun x hx => (List.mem_append.mp hx).elim (fun z => okDs_mem h1 z) fun z => by rw [List.mem_singleton.mp z]; exact h2
theorem pool_name : ∀ z ∈ poolW, nameB z = true := by decide +kernel
theorem isW_one {z : Str} (h : nameB z = true) : IsW [z] := ⟨fun x hx => by rw [List.mem_singleton.mp hx]; exact h, List.pairwise_singleton _ _, by show 1 ≤ 40; decide⟩
theorem odd_ba : oddW (wd ["b", "a"]) := ⟨fun d hd => by
  obtain ⟨z, hz, rfl⟩ := List.mem_map.mp hd
  simp only [List.mem_cons, List.mem_nil_iff, or_false] at hz
  rcases hz with rfl | rfl <;> (show _ ≤ 10000; decide +kernel), by decide⟩
def BadW (lot : W) (d : PyData) : Prop := ∃ zs : W, d = wd zs ∧ (∀ x ∈ zs, nameB x = true) ∧ zs.length ≤ 40 ∧ ∃ z ∈ zs, z ∉ lot
theorem BadW.odd {lot : W} {d : PyData} (h : BadW lot d) : oddW d := by
  obtain ⟨zs, rfl, hn, hl, _⟩ := h
  refine ⟨fun d hd => ?_, by rw [List.length_map]; exact hl⟩
  obtain ⟨z, hz, rfl⟩ := List.mem_map.mp hd
  exact oddN_name (hn z hz)
theorem BadW.no {lot : W} {d : PyData} (h : BadW lot d) : ∀ ws, IsW ws → d = wd ws → sub ws lot = false := fun ws hw e => by
  obtain ⟨zs, rfl, hn, hl, z, hz, hm⟩ := h
  have := wd_inj e
  subst this
  cases g : sub zs lot with
  | false => rfl
  | true => exact absurd (sub_mem g z hz) hm
theorem BadW.lay {lot : W} {d : PyData} (h : BadW lot d) : d.canLay0 = true ∧ d.depth ≤ 18 := by
  obtain ⟨zs, rfl, hn, hl, _⟩ := h
  exact ⟨lay_wd hn, by rw [depth_wd]; decide⟩
theorem depth_rules (S : List Rl) : (PyData.list (S.map rd)).depth ≤ 3 := by
  have e : ∀ S : List Rl, PyData.depthAll (S.map rd) ≤ 2 := by
    intro S
    induction S with
    | nil => simp [PyData.depthAll]
    | cons r t ih =>
      have := depth_rd r
      rw [List.map_cons, PyData.depthAll]
      omega
  have := e S
  rw [PyData.depth]
  omega
theorem lay_told {S : List Rl} (h : ∀ r ∈ S, IsR r) : Lay (pr2 "told" (.list (S.map rd))) := lay_pr2 (by decide +kernel) (lay_rules h).lay (Nat.le_trans (depth_rules S) (by decide))
theorem sub_of_sublist {ws lot : W} (h : ws.Sublist lot) : sub ws lot = true := sub_of fun x hx => h.subset hx
def oddD9 : List PyData := [.none, .list [.str "a"], wd ["zz"], .tuple [.str "b", .str "a"], .str "a", .tuple [.str "a", .str "a"], .tuple [.int 7], .tuple [.str "A"], .int 7]
theorem odd_tup {ds : List PyData} (h : ∀ d ∈ ds, ∃ x : Str, d = .str x ∧ x.cps.size ≤ 10000) (l : ds.length ≤ 40) : oddW (.tuple ds) := ⟨fun d hd => by
  obtain ⟨x, rfl, g⟩ := h d hd
  exact g, l⟩
theorem oddD9_ok : ∀ d ∈ oddD9, oddW d ∧ d.canLay0 = true ∧ d.depth ≤ 19 ∧ (worldD d = false ∨ d = wd ["zz"]) := fun d hd => by
  unfold oddD9 at hd
  simp only [List.mem_cons, List.mem_nil_iff, or_false] at hd
  rcases hd with rfl | rfl | rfl | rfl | rfl | rfl | rfl | rfl | rfl
  · exact ⟨True.intro, by decide +kernel, by decide +kernel, .inl (by decide +kernel)⟩
  · exact ⟨True.intro, by decide +kernel, by decide +kernel, .inl (by decide +kernel)⟩
  · exact ⟨oddW_wd (isW_one (by decide +kernel)), by decide +kernel, by decide +kernel, .inr rfl⟩
  · exact ⟨odd_ba, by decide +kernel, by decide +kernel, .inl (by decide +kernel)⟩
  · exact ⟨True.intro, by decide +kernel, by decide +kernel, .inl (by decide +kernel)⟩
  · exact ⟨odd_tup (fun d hd => by
      simp only [List.mem_cons, List.mem_nil_iff, or_false] at hd
      rcases hd with rfl | rfl <;> exact ⟨_, rfl, by decide +kernel⟩) (by decide), by decide +kernel, by decide +kernel, .inl (by decide +kernel)⟩
  · exact ⟨⟨fun d hd => by rw [List.mem_singleton.mp hd]; exact True.intro, by decide⟩, by decide +kernel, by decide +kernel, .inl (by decide +kernel)⟩
  · exact ⟨odd_tup (fun d hd => by rw [List.mem_singleton.mp hd]; exact ⟨_, rfl, by decide +kernel⟩) (by decide), by decide +kernel, by decide +kernel, .inl (by decide +kernel)⟩
  · exact ⟨True.intro, by decide +kernel, by decide +kernel, .inl (by decide +kernel)⟩
def scRow : Scope := ⟨.function, [(".0", .local), ("row", .local), ("_law_own", .globalImplicit), ("lot", .cell)], false, false, []⟩
def tLow (K : PySem.W.Frag) (sp : Sp) : TE := tOp (rEqD K) (tLc (iTup K (tCall sp [] E0 (tCons (tVar 12) tNil))) (gName 11) (tTest (tOp (rIn K true) (tVar 11) (tVar 2))) (tVar 11) [11]) (tLst tNil)
section
variable {P : Program} {w : World} {K : PySem.W.Frag} {mg : Str → Option Value} {base : Heap} {f : Addr} {fd : FuncData} {k : Nat}
def spLawRight (K : PySem.W.Frag) : Sp := fun vs H Q _ => ∃ (p a b : Addr) (c : Int) (ys : List V) (S L : List Rl) (lot : W), vs = [.ref p, .ref a, .ref b] ∧ Pur H p c ∧ c ≤ 600000 ∧ a ≠ p ∧ H a = some (.lst ys) ∧ DpAll K H ys (S.map rd) ∧ Srt S L ∧ (∀ r ∈ S, IsR r) ∧ S.length < 64 ∧ SqT K H b (lot.map V.str) ∧ IsW lot ∧ (∀ z ∈ lot, z ∈ poolW) ∧
  ∀ H', Bar p H H' → Pur H' p (c + 1000) → Q (.bl true) H'
theorem ok_lawRight {C CP CW CS pO fO f1 f2 f3 f4 f5 f6 : Addr} {mc : Value} {fd1 fd2 fd3 fd4 fd5 fd6 : FuncData} (F : Fun K "_law_right" "_law_right" sLawRight f fd) (T : Bl mg) (mC : mg "Program" = some (.ref C)) (cr : CRead K C mc) (cm : CMet K C mc "of" pO fO) (GO : FnR P w K mg base CX0 k fO (spOf K C))
    (G1 : FnOk P w K mg base CX0 k f1 fd1 ["purse", "out_of"] spLawDraw) (b1 : Binds K fd1 ["purse", "out_of"] []) (k1 : PySem.W.keepIn K (.ref f1) = true) (m1 : mg "_law_draw" = some (.ref f1))
    (G2 : FnOk P w K mg base CX0 k f2 fd2 ["rules", "lot"] (spLawSplits K)) (b2 : Binds K fd2 ["rules", "lot"] []) (k2 : PySem.W.keepIn K (.ref f2) = true) (m2 : mg "_law_splits" = some (.ref f2))
    (G3 : FnOk P w K mg base CX0 k f3 fd3 ["way", "sheet", "lot", "state"] (spLawTold K C CP CW CS)) (b3 : Binds K fd3 ["way", "sheet", "lot", "state"] []) (k3 : PySem.W.keepIn K (.ref f3) = true) (m3 : mg "_law_told" = some (.ref f3))
    (G4 : FnOk P w K mg base CX0 k f4 fd4 ["sheet", "lot", "some"] (spLawAllSplit K C)) (b4 : Binds K fd4 ["sheet", "lot", "some"] []) (k4 : PySem.W.keepIn K (.ref f4) = true) (m4 : mg "_law_all_split" = some (.ref f4))
    (G5 : FnOk P w K mg base CX0 k f5 fd5 ["row"] (spLawOwn K)) (b5 : Binds K fd5 ["row"] []) (k5 : PySem.W.keepIn K (.ref f5) = true) (m5 : mg "_law_own" = some (.ref f5))
    (G6 : FnOk P w K mg base CX0 k f6 fd6 ["rules", "lot", "state"] (spLawRest K)) (b6 : Binds K fd6 ["rules", "lot", "state"] []) (k6 : PySem.W.keepIn K (.ref f6) = true) (m6 : mg "_law_rest" = some (.ref f6)) :
    FnOk P w K mg base CX0 (k + 1) f fd ["purse", "rules", "lot"] (spLawRight K) := by
  refine F.ok scLawRight (fun vs H Q E h => ?_) (fun cdv A outer s H vs Q E hr h => ?_)
  · obtain ⟨p, a, b, c, ys, S, L, lot, rfl, _⟩ := h
    rfl
  obtain ⟨p, a, b, c, ys, S, L, lot, rfl, hP, hc, nap, ha, hys, hSL, hI, few, hb, hlot, hpool, q⟩ := h
  refine ⟨_, pss_cons (ps_set (i := 3) scLawRight.nd rfl (.inl rfl) (pe_cmeth (pe_glob (v := .ref C) (by rfl) mC rfl) cr cm GO hr pass0 (pa_cons (pv 1) pa_nil)))
    (pss_cons (ps_set (i := 4) scLawRight.nd rfl (.inl rfl) (pe_call G2 hr (by rfl) m2 k2 b2 .nil pass0 (pa_cons (pv 1) (pa_cons (pv 2) pa_nil))))
    (pss_cons (ps_if (pt_cmpR (op_neD hr.units) (pe_call G3 hr (by rfl) m3 k3 b3 .nil pass0 (pa_cons pe_int (pa_cons (pv 3) (pa_cons (pv 2) (pa_cons pe_non pa_nil))))) (pe_lst (pa_cons pe_str (pa_cons (pe_callTy (T := "str") call_str_bl (by rfl) T.str (by decide +kernel) (pa_cons (pv 4) pa_nil)) pa_nil))) (nomark _)) pss_never pss_nil)
    (pss_cons (ps_setLc (i := 5) (own := [("name", 11)]) (g := gName 11) (by rfl) scLawRight.nd rfl rfl (sw_true rfl rfl rfl (by decide +kernel)) (pi_list (pe_lst (pa_cons pe_str (pa_cons pe_str (pa_cons pe_str (pa_cons pe_str (pa_cons pe_str (pa_cons pe_str pa_nil)))))))) (blkOk_by (N := nLawRight) (sc := defScope sLawRight) (by decide +kernel))
        (fun _ _ _ _ _ => pg_name (i := 11) scLawRight.nd rfl (Or.inl rfl)) (fun _ _ _ _ _ => pts_one (pt_cmpR (r := rIn K true) op_notIn_seq (pv 11) (pv 2) (by rfl))) (fun _ _ _ _ _ => pe_tup (pa_cons (pv 11) pa_nil)))
    (pss_cons (ps_set (i := 6) scLawRight.nd rfl (.inr rfl) (pe_callTy call_tuple_of (by rfl) T.tuple (by decide +kernel) (pa_cons (pe_lc (own := [("name", 11)]) (g := gName 11) (by rfl) scLawRight.nd (pi_tup (pv 2)) (blkOk_by (N := nLawRight) (sc := defScope sLawRight) (by decide +kernel))
        (fun _ _ _ _ _ => pg_name (i := 11) scLawRight.nd rfl (Or.inl rfl)) (fun _ _ _ _ _ => pts_one (pt_cmpR op_eq (pe_call G1 hr (by rfl) m1 k1 b1 .nil pass0 (pa_cons (pv 0) (pa_cons pe_int pa_nil))) pe_int (nomark _))) (fun _ _ _ _ _ => pv 11)) pa_nil)))
    (pss_cons (ps_if (pt_not (pt_val (pv 4)))
      (pss_cons (ps_set (i := 7) scLawRight.nd rfl (.inl rfl) (pe_op op_cat (pv 5) (pe_lst (pa_cons pe_int (pa_cons (pv 6) (pa_cons (pe_tup (pa_cons pe_str (pa_cons pe_str pa_nil))) pa_nil))))))
      (pss_one (ps_ret (pe_and (pe_cmpR (op_eqD hr.units) (pe_call G3 hr (by rfl) m3 k3 b3 .nil pass0 (pa_cons pe_int (pa_cons (pv 3) (pa_cons (pv 2) (pa_cons pe_int pa_nil))))) (pe_lst (pa_cons pe_str (pa_cons (pv 2) pa_nil))) (nomark _))
        (pe_one (pe_call G4 hr (by rfl) m4 k4 b4 .nil pass0 (pa_cons (pv 3) (pa_cons (pv 2) (pa_cons (pv 7) pa_nil)))))))))
      pss_nil)
    (pss_cons (ps_setLc (i := 8) (own := [("row", 12)]) (g := gName 12) (by rfl) scLawRight.nd rfl rfl (sw_true rfl rfl rfl (by decide +kernel)) (pi_list (pv 1)) (blkOk_by (N := nLawRight) (sc := defScope sLawRight) (by decide +kernel))
        (fun _ _ _ _ _ => pg_name (i := 12) scLawRight.nd rfl (Or.inl rfl)) (tt := tTest (tLow K (spLawOwn K))) (fun _ _ _ _ _ => pts_one (pt_cmpR (r := rEqD K) (op_eqD hr.units)
            (pe_lc (own := [("name", 11)]) (wi := iTup K (tCall (spLawOwn K) [] E0 (tCons (tVar 12) tNil))) (g := gName 11) (tt := tTest (tOp (rIn K true) (tVar 11) (tVar 2))) (te := tVar 11) (by rfl) scLawRight.nd (pi_tup (pe_call G5 hr (by rfl) m5 k5 b5 .nil pass0 (pa_cons (pv 12) pa_nil))) (blkOk_by (N := nLawRight) (sc := scRow) (by decide +kernel))
              (fun _ _ _ _ _ => pg_name (i := 11) scLawRight.nd rfl (Or.inl rfl)) (fun _ _ _ _ _ => pts_one (pt_cmpR (r := rIn K true) op_notIn_seq (pv 11) (pv 2) (by rfl))) (fun _ _ _ _ _ => pv 11)) (pe_lst pa_nil) (by rfl))) (fun _ _ _ _ _ => pv 12))
    (pss_cons (ps_if (pt_cmpR (op_neD hr.units) (pe_call G3 hr (by rfl) m3 k3 b3 .nil pass0 (pa_cons pe_int (pa_cons (pv 3) (pa_cons (pv 2) (pa_cons pe_non pa_nil))))) (pe_lst (pa_cons pe_str (pa_cons (pv 8) pa_nil))) (nomark _)) pss_never pss_nil)
    (pss_cons (ps_for PassesOwn.never rfl (pi_range1 rfl T.range (pa_cons pe_int pa_nil)) (pg_name (i := 9) scLawRight.nd rfl (.inl rfl))
      (pss_cons (ps_set (i := 6) scLawRight.nd rfl (.inr rfl) (pe_callTy call_tuple_of (by rfl) T.tuple (by decide +kernel) (pa_cons (pe_lc (own := [("name", 11)]) (g := gName 11) (by rfl) scLawRight.nd (pi_tup (pv 2)) (blkOk_by (N := nLawRight) (sc := defScope sLawRight) (by decide +kernel))
        (fun _ _ _ _ _ => pg_name (i := 11) scLawRight.nd rfl (Or.inl rfl)) (fun _ _ _ _ _ => pts_one (pt_cmpR op_eq (pe_call G1 hr (by rfl) m1 k1 b1 .nil pass0 (pa_cons (pv 0) (pa_cons pe_int pa_nil))) pe_int (nomark _))) (fun _ _ _ _ _ => pv 11)) pa_nil)))
      (pss_one (ps_if (pt_cmpR (op_neD hr.units) (pe_call G3 hr (by rfl) m3 k3 b3 .nil pass0 (pa_cons pe_int (pa_cons (pv 3) (pa_cons (pv 2) (pa_cons (pv 6) pa_nil))))) (pe_lst (pa_cons pe_str (pa_cons (pe_call G6 hr (by rfl) m6 k6 b6 .nil pass0 (pa_cons (pv 1) (pa_cons (pv 2) (pa_cons (pv 6) pa_nil)))) pa_nil))) (nomark _)) pss_never pss_nil))))
    (pss_cons (ps_for PassesOwn.never rfl (pi_list (pe_op op_cat (pv 5) (pe_lc (own := [("one", 13)]) (g := gName 13) (by rfl) scLawRight.nd (pi_list (pv 5)) (blkOk_by (N := nLawRight) (sc := defScope sLawRight) (by decide +kernel))
        (fun _ _ _ _ _ => pg_name (i := 13) scLawRight.nd rfl (Or.inl rfl)) (fun _ _ _ _ _ => pts_nil) (fun _ _ _ _ _ => pe_callTy (T := "tuple") (r := rTup K) call_tuple_of (by rfl) T.tuple (by decide +kernel) (pa_cons (pe_callB (r := rSortTS K) (cr_sortTS hr.units) (by rfl) T.sorted (by decide +kernel) (pa_cons (pe_op (r := rCatA K) op_catA (pv 6) (pv 13)) pa_nil)) pa_nil))))) (pg_name (i := 7) scLawRight.nd rfl (.inl rfl))
      (pss_one (ps_if (pt_cmpR (op_neD hr.units) (pe_call G3 hr (by rfl) m3 k3 b3 .nil pass0 (pa_cons pe_int (pa_cons (pv 3) (pa_cons (pv 2) (pa_cons (pv 7) pa_nil))))) (pe_lst (pa_cons pe_str (pa_cons (pv 7) pa_nil))) (nomark _)) pss_never pss_nil)))
    (pss_mid (ps_set (i := 10) scLawRight.nd rfl (.inl rfl) (pe_ix ix_list (pe_lst (pa_cons pe_non (pa_cons (pe_lst (pa_cons pe_str pa_nil)) (pa_cons (pe_tup (pa_cons pe_str pa_nil)) (pa_cons (pe_tup (pa_cons pe_str (pa_cons pe_str pa_nil))) (pa_cons pe_str (pa_cons (pe_tup (pa_cons pe_str (pa_cons pe_str pa_nil))) (pa_cons (pe_tup (pa_cons pe_int pa_nil)) (pa_cons (pe_tup (pa_cons pe_str pa_nil)) (pa_cons pe_int pa_nil))))))))))
        (pe_call G1 hr (by rfl) m1 k1 b1 .nil pass0 (pa_cons (pv 0) (pa_cons pe_int pa_nil))) (fun _ _ => rfl)))
    (pss_one (ps_ret (pe_cmpR (op_eqD hr.units) (pe_call G3 hr (by rfl) m3 k3 b3 .nil pass0 (pa_cons pe_int (pa_cons (pv 3) (pa_cons (pv 2) (pa_cons (pv 10) pa_nil))))) (pe_lst (pa_cons pe_str (pa_cons (pv 10) pa_nil))) (nomark _)))))))))))))), ?_⟩
  have l6 : lot.length ≤ 6 := nodup_len_le (upX_nodup hlot.up) hpool
  -- the program
  refine ⟨rfl, .ref a, rfl, a, ys, S, rfl, .inr (SqL.of ha), hys, hI, few, fun H1 v S' s1 hS' few' hv => ?_⟩
  obtain rfl : S' = S := hS'.one hSL.self fun _ => Iff.rfl
  refine ⟨.ref a, rfl, .ref b, rfl, a, .ref b, ys, S', lot, rfl, SqL.of (s1 _ _ ha), dpAll_same s1 _ _ hys, hI, dp_same s1 _ _ (to_wd hb), fun H2 s2 => ?_⟩
  have s12 := s1.trans s2
  refine ⟨v, rfl, .ref b, rfl, told_splits (hv.same s2) hI few hlot (dp_same s12 _ _ (to_wd hb)) fun H3 l s3 hl => ?_⟩
  refine ⟨.bl (splitsB S' lot), rfl, splitsB S' lot, rfl, by show 2 ≤ sizeLine; decide, fun e he => ?_⟩
  have se := same_new he (.lst [.str "told", .str (boolS (splitsB S' lot))])
  have lb : (PyData.str (boolS (splitsB S' lot))).canLay0 = true := by
    cases splitsB S' lot <;> decide +kernel
  refine ne_same (dp_same se _ _ hl) (d := pr2 "told" (.str (boolS (splitsB S' lot)))) (.lst (SqL.of upd_same) (.cons (.str _) (.cons (.str _) .nil))) (lay_pr2 (by decide +kernel) lb (by rw [PyData.depth]; decide)) ⟨false, rfl, iteF ?_⟩
  have s4 := s12.trans (s3.trans se)
  -- outer
  refine ⟨by show 6 ≤ sizeLine; decide, fun e5 he5 => ?_⟩
  have s5 := same_new he5 (.lst (poolW.map V.str))
  have s45 := s4.trans s5
  refine ⟨e5, rfl, ⟨_, SqL.of upd_same⟩, fun O hO => ?_⟩
  let H5 : Hp := upd (upd H3 e (.lst [.str "told", .str (boolS (splitsB S' lot))])) e5 (.lst (poolW.map V.str))
  refine lc_list (K := K) (a := e5) (xs := poolW.map V.str) (fun i H6 => Same H5 H6 ∧ ∃ os, H6 O = some (.lst os) ∧ DpAll K H6 os (((poolW.take i).filter fun z => !decide (z ∈ lot)).map fun z => wd [z])) ⟨same_new hO _, [], upd_same, .nil⟩ (fun i H6 _ hI => SqL.of (hI.1 _ _ upd_same)) (fun i x H6 hx hI => ?_) (fun HX hI => ?_)
  · obtain ⟨sm, os, ho, hos⟩ := hI
    obtain ⟨z, hz, rfl⟩ := map_at hx
    have i6 : i < 6 := (List.getElem?_eq_some_iff.mp hz).1
    refine ⟨rfl, .str z, rfl, .ref b, rfl, b, lot.map V.str, rfl, .inr (same_tup (s45.trans sm) hb), rfl, flat_strs lot, _, rfl, ?_⟩
    rw [inV_str]
    refine ite2 (fun e => ?_) (fun e => ?_)
    · refine ⟨.str z, rfl, by show 1 ≤ sizeLine; decide, fun t ht => ?_⟩
      have st := same_new ht (.tup [.str z])
      have ho' := st _ _ ho
      have sy : Stay (upd H6 t (.tup [.str z])) (upd (upd H6 t (.tup [.str z])) O (.lst (os ++ [.ref t]))) := .put (by rw [ho']; exact True.intro) _
      have fl := List.length_filter_le (fun z => !decide (z ∈ lot)) (poolW.take i)
      rw [List.length_take] at fl
      refine ⟨os, ho', small_line' (by rw [dpAll_len hos, List.length_map]; omega), same_put (sm.trans st) hO, _, upd_same, ?_⟩
      rw [filt_t hz (show (!decide (z ∈ lot)) = true by simpa using e), List.map_append]
      exact dpAll_app (sy.dpAll _ _ (okDs_sg _) (dpAll_same st _ _ hos)) (.cons (sy.wd (to_wd (ns := [z]) (SqT.of upd_same))) .nil)
    · refine ⟨sm, os, ho, ?_⟩
      rw [filt_f hz (show (!decide (z ∈ lot)) = false by simpa using e)]
      exact hos
  · obtain ⟨smX, os, hO', hos⟩ := hI
    rw [List.length_map, List.take_length] at hos
    have sX := s45.trans smX
    have puX := hP.same sX
    have nOp : O ≠ p := (hP.same s45).some hO
    have ol : os.length ≤ 6 := by
      rw [dpAll_len hos, List.length_map]
      exact List.length_filter_le (fun z => !decide (z ∈ lot)) poolW
    have atS : ∀ H', Bar p HX H' → PgAt K C H' v S' := fun H' bar => (hv.same (s2.trans (s3.trans (se.trans (s5.trans smX))))).bar bar puX
    have atB : ∀ H', Bar p HX H' → SqT K H' b (lot.map V.str) := fun H' bar => (bar.stay puX.mut).seq (same_tup sX hb)
    have atO : ∀ H', Bar p HX H' → H' O = some (.lst os) := fun H' bar => bar _ _ nOp hO'
    have atOs : ∀ H', Bar p HX H' → DpAll K H' os ((poolW.filter fun z => !decide (z ∈ lot)).map fun z => wd [z]) := fun H' bar => (bar.stay puX.mut).dpAll _ _ (okDs_sg _) hos
    have atR : ∀ H', Bar p HX H' → H' a = some (.lst ys) := fun H' bar => bar _ _ nap (sX _ _ ha)
    have atRs : ∀ H', Bar p HX H' → DpAll K H' ys (S'.map rd) := fun H' bar => (bar.stay puX.mut).dpAll _ _ (okDs_rd S') (dpAll_same sX _ _ hys)
    have fin : ∀ H', Bar p HX H' → Pur H' p (c + 1000) → Q (.bl true) H' := fun H' bar pu => q H' ((Bar.same sX).trans bar) pu
    have lw : IsW lot := hlot
    -- the state
    refine ⟨.ref b, rfl, b, rfl, ⟨_, atB _ (.same fun _ _ e => e)⟩, fun D hD => walk_draw hD puX (atB _ (.same fun _ _ e => e)) (by omega) (fun z H7 Nx c' hz bar pu lc q7 => ?_) (fun H7 ws bar pu hsub hd => ?_)⟩
    · refine ⟨rfl, .ref p, rfl, p, 2, c', rfl, pu, by omega, by decide, by decide, fun r us r0 r1 pu2 => ?_⟩
      obtain ⟨q8, q9⟩ := q7 us pu2
      exact ⟨rfl, _, rfl, ite2 (fun _ => ⟨.str z, rfl, q8⟩) (fun _ => q9)⟩
    refine ⟨D, _, rfl, .inl ⟨SqL.of hd, fun t ht => ?_⟩⟩
    have st := same_new ht (.tup (ws.map V.str))
    have bar8 := bar.trans (.same st)
    have pu8 := pu.same st
    have hws : IsW ws := isW_sub hlot hsub
    have wl := hsub.length_le
    have dwt : ∀ H', Bar p (upd H7 t (.tup (ws.map V.str))) H' → Dp K H' (.ref t) (wd ws) := fun H' b => (b.stay pu8.mut).wd (to_wd (SqT.of upd_same))
    cases e0 : splitsB S' lot with
    | false =>
      refine ⟨.bl false, rfl, false, rfl, iteT ?_⟩
      refine ⟨.ref O, rfl, .ref t, rfl, by show 2 ≤ sizeLine; decide, fun u hu => ?_⟩
      have su := same_new hu (.tup [.str "b", .str "a"])
      refine ⟨by show 3 ≤ sizeLine; decide, fun l hl => ?_⟩
      have sl := same_new hl (.lst [.int 7, .ref t, .ref u])
      have b10 := bar8.trans (.same (su.trans sl))
      refine ⟨O, l, _, _, rfl, rfl, atO _ b10, upd_same, small_line (by show os.length + 3 ≤ _; omega), fun g hg => ?_⟩
      have sg := same_new hg (.lst (os ++ [.int 7, .ref t, .ref u]))
      have b11 := b10.trans (.same sg)
      have ha11 : DpAll K (upd (upd (upd (upd H7 t (.tup (ws.map V.str))) u (.tup [.str "b", .str "a"])) l (.lst [.int 7, .ref t, .ref u])) g (.lst (os ++ [.int 7, .ref t, .ref u]))) (os ++ [.int 7, .ref t, .ref u]) ((poolW.filter fun z => !decide (z ∈ lot)).map (fun z => wd [z]) ++ [.int 7, wd ws, wd ["b", "a"]]) :=
        dpAll_app (atOs _ b11) (.cons (.int 7) (.cons (dwt _ (.same (su.trans (sl.trans sg)))) (.cons (to_wd (ns := ["b", "a"]) (SqT.of ((sl.trans sg) _ _ upd_same))) .nil)))
      refine ⟨v, rfl, .ref b, rfl, told_nosplit (.inl rfl) (atS _ b11) hI few hlot (to_wd (atB _ b11)) e0 (.int 7) True.intro fun H12 l2 s12 hl2 => ?_⟩
      have b12 := b11.trans (.same s12)
      refine ⟨.ref b, rfl, by show 2 ≤ sizeLine; decide, fun e he => ?_⟩
      have se := same_new he (.lst [.str "split", .ref b])
      have b13 := b12.trans (.same se)
      refine eq_same (d := pr2 "split" (wd lot)) (dp_same se _ _ hl2) (.lst (SqL.of upd_same) (.cons (.str _) (.cons (to_wd (atB _ b13)) .nil))) (lay_pr2 (by decide +kernel) (lay_w hlot).1 (Nat.le_succ_of_le (lay_w hlot).2)) ⟨true, rfl, iteT ?_⟩
      refine ⟨v, rfl, .ref b, rfl, .ref g, rfl, v, .ref b, g, S', lot, _, _, rfl, atS _ b13, hI, few, hlot, to_wd (atB _ b13), e0, SqL.of ((s12.trans se) _ _ upd_same), dpAll_same (s12.trans se) _ _ ha11, fun d hd => ?_, fun H' s' => fin H' (b13.trans (.same s')) ((pu8.same (su.trans (sl.trans (sg.trans (s12.trans (se.trans s')))))).le (by omega))⟩
      rcases List.mem_append.mp hd with hd | hd
      · obtain ⟨z, hz, rfl⟩ := List.mem_map.mp hd
        exact oddW_wd (isW_one (pool_name z (List.mem_filter.mp hz).1))
      · simp only [List.mem_cons, List.mem_nil_iff, or_false] at hd
        rcases hd with rfl | rfl | rfl
        · exact True.intro
        · exact oddW_wd hws
        · exact odd_ba
    | true =>
      refine ⟨.bl true, rfl, true, rfl, iteF ?_⟩
      let H8 : Hp := upd H7 t (.tup (ws.map V.str))
      -- low
      refine ⟨.ref a, rfl, a, rfl, ⟨_, SqL.of (atR _ bar8)⟩, fun D2 hD2 => ?_⟩
      refine lc_list (K := K) (a := a) (xs := ys) (fun i H9 => Same H8 H9 ∧ ∃ zs, H9 D2 = some (.lst zs) ∧ DpAll K H9 zs (((S'.take i).filter fun r => sub (own r) lot).map rd)) ⟨same_new hD2 _, [], upd_same, .nil⟩ (fun i H9 _ hI => SqL.of (hI.1 _ _ (atR _ bar8))) (fun i x H9 hx hI9 => ?_) (fun HL hIL => ?_)
      · obtain ⟨sm, zs, hz, hzs⟩ := hI9
        have bar9 := bar8.trans (.same sm)
        obtain ⟨dd, hdd, hxd⟩ := dpAll_at' (atRs _ bar9) hx
        obtain ⟨r, hr0, rfl⟩ := map_at hdd
        have hr' := hI r (List.mem_of_getElem? hr0)
        have lim := own_len hr'
        have il : i < S'.length := (List.getElem?_eq_some_iff.mp hr0).1
        refine ⟨rfl, x, rfl, x, r, rfl, hxd, hr', fun H10 t2 s10 ht2 => ⟨t2, rfl, ⟨_, ht2⟩, fun D3 hD3 => walk_filt (p := fun z => !decide (z ∈ lot)) hD3 ht2 (by omega) (fun z H11 Nx hz sm11 yes no => ?_) (fun H11 sm11 hd11 => ?_)⟩⟩
        · refine ⟨rfl, .str z, rfl, .ref b, rfl, b, lot.map V.str, rfl, .inr (atB _ (bar9.trans (.same (s10.trans sm11)))), rfl, flat_strs lot, _, rfl, ?_⟩
          rw [inV_str]
          exact ite2 (fun e => ⟨.str z, rfl, yes (by simpa using e)⟩) (fun e => no (by simpa using e))
        · refine ⟨by show 0 ≤ sizeLine; decide, fun e he => ?_⟩
          have se := same_new he (.lst [])
          have s12 := s10.trans (sm11.trans se)
          refine eq_nil (SqL.of (se _ _ hd11)) (SqL.of upd_same) (fun x hx => own_names hr' x (List.mem_filter.mp hx).1) ⟨_, rfl, ?_⟩
          have hz12 := s12 _ _ hz
          have hzs12 := dpAll_same s12 _ _ hzs
          cases e5 : sub (own r) lot with
          | true =>
            have z5 : decide ((own r).filter (fun z => !decide (z ∈ lot)) = []) = true := (sub_minus (own r) lot).symm.trans e5
            rw [z5]
            have sy : Stay (upd H11 e (.lst [])) (upd (upd H11 e (.lst [])) D2 (.lst (zs ++ [x]))) := .put (by rw [hz12]; exact True.intro) _
            have fl := List.length_filter_le (fun r => sub (own r) lot) (S'.take i)
            rw [List.length_take] at fl
            refine iteT ⟨x, rfl, zs, hz12, small_line' (by rw [dpAll_len hzs, List.length_map]; omega), same_put (sm.trans s12) hD2, _, upd_same, ?_⟩
            rw [filt_t hr0 e5, List.map_append]
            exact dpAll_app (sy.dpAll _ _ (okDs_rd _) hzs12) (.cons (sy.dp _ _ (ok_rd r) (dp_same s12 _ _ hxd)) .nil)
          | false =>
            have z5 : decide ((own r).filter (fun z => !decide (z ∈ lot)) = []) = false := (sub_minus (own r) lot).symm.trans e5
            rw [z5]
            refine iteF ⟨sm.trans s12, zs, hz12, ?_⟩
            rw [filt_f hr0 e5]
            exact hzs12
      obtain ⟨smL, zs, hzL, hzsL⟩ := hIL
      have yl : ys.length = S'.length := by rw [dpAll_len hys, List.length_map]
      rw [yl, List.take_length] at hzsL
      have barL := bar8.trans (.same smL)
      have hIl : ∀ r ∈ lowerL S' lot, IsR r := fun r hr => hI r (List.mem_filter.mp hr).1
      refine ⟨v, rfl, .ref b, rfl, told_lower (atS _ barL) hI few hlot (to_wd (atB _ barL)) e0 fun S2 hS2 HA l sA hl => ?_⟩
      obtain rfl : S2 = lowerL S' lot := hS2.one (hSL.filter _) fun _ => Iff.rfl
      refine ⟨.ref D2, rfl, by show 2 ≤ sizeLine; decide, fun e he => ?_⟩
      have se := same_new he (.lst [.str "told", .ref D2])
      refine ne_same (dp_same se _ _ hl) (.lst (SqL.of upd_same) (.cons (.str _) (.cons (.lst (SqL.of ((sA.trans se) _ _ hzL)) (dpAll_same (sA.trans se) _ _ hzsL)) .nil))) (lay_told hIl) ⟨false, rfl, iteF ?_⟩
      have sM := smL.trans (sA.trans se)
      have barM := bar8.trans (.same sM)
      have puM := pu8.same sM
      let HM : Hp := upd HA e (.lst [.str "told", .ref D2])
      -- four states
      refine ⟨4, rfl, by decide, by decide, for_range (fun i σ H1 => (∃ (t : Addr) (ws : W) (y9 : Option V), σ = [some (.ref p), some (.ref a), some (.ref b), some v, some (.bl true), some (.ref O), some (.ref t), none, some (.ref D2), y9, none, none, none, none] ∧ SqT K H1 t (ws.map V.str) ∧ ws.Sublist lot) ∧ Bar p HX H1 ∧ Pur H1 p (c + 6 + 6 * i)) ⟨⟨t, ws, none, rfl, same_tup sM (SqT.of upd_same), hsub⟩, barM, puM.le (by omega)⟩ (fun i σ H1 il hI1 => ?_) (fun σ HN hIN => ?_)⟩
      · obtain ⟨⟨t, ws, y9, rfl, ht, hsub⟩, bar, pu⟩ := hI1
        have i4 : i < 4 := by omega
        refine ⟨.ref b, rfl, b, rfl, ⟨_, atB _ bar⟩, fun D hD => walk_draw hD pu (atB _ bar) (by omega) (fun z H7 Nx c' hz bar7 pu7 lc q7 => ?_) (fun H7 ws bar7 pu7 hsub hd => ?_)⟩
        · refine ⟨rfl, .ref p, rfl, p, 2, c', rfl, pu7, by omega, by decide, by decide, fun r us r0 r1 pu2 => ?_⟩
          obtain ⟨q8, q9⟩ := q7 us pu2
          exact ⟨rfl, _, rfl, ite2 (fun _ => ⟨.str z, rfl, q8⟩) (fun _ => q9)⟩
        refine ⟨D, _, rfl, .inl ⟨SqL.of hd, fun t ht => ?_⟩⟩
        have st := same_new ht (.tup (ws.map V.str))
        have barT := bar.trans (bar7.trans (.same st))
        have puT := pu7.same st
        have hws : IsW ws := isW_sub hlot hsub
        have hwt : SqT K (upd H7 t (.tup (ws.map V.str))) t (ws.map V.str) := SqT.of upd_same
        refine ⟨v, rfl, .ref b, rfl, .ref t, rfl, told_rest (atS _ barT) hI few hlot (to_wd (atB _ barT)) e0 hws (to_wd hwt) (sub_of_sublist hsub) fun S2 hS2 HA l sA hl => ?_⟩
        have barA := barT.trans (.same sA)
        refine ⟨.ref a, rfl, .ref b, rfl, .ref t, rfl, a, .ref b, .ref t, ys, S', lot, ws, rfl, SqL.of (atR _ barA), atRs _ barA, hI, few, to_wd (atB _ barA), to_wd (same_tup sA hwt), sub_of_sublist hsub, fun HB l3 zs3 S3 sB hS3 few3 hl3 hzs3 => ?_⟩
        obtain rfl : S3 = S2 := hS3.one hS2 fun _ => Iff.rfl
        refine ⟨by show 2 ≤ sizeLine; decide, fun e he => ?_⟩
        have se := same_new he (.lst [.str "told", .ref l3])
        have hI3 : ∀ r ∈ S3, IsR r := fun r hr => restL_isR hI r ((hS3.mem r).mp hr)
        refine ne_same (dp_same (sB.trans se) _ _ hl) (.lst (SqL.of upd_same) (.cons (.str _) (.cons (.lst (SqL.of (se _ _ hl3)) (dpAll_same se _ _ hzs3)) .nil))) (lay_told hI3) ⟨false, rfl, iteF ?_⟩
        have sAB := sA.trans (sB.trans se)
        exact ⟨⟨t, ws, _, rfl, same_tup sAB hwt, hsub⟩, barT.trans (.same sAB), (puT.same sAB).le (by omega)⟩
      · obtain ⟨⟨t, ws, y9, rfl, ht, hsub⟩, barN, puN⟩ := hIN
        have wl2 := hsub.length_le
        have osBad : ∀ d ∈ ((poolW.filter fun z => !decide (z ∈ lot)).map fun z => wd [z]), BadW lot d := fun d hd => by
          obtain ⟨z, hz, rfl⟩ := List.mem_map.mp hd
          obtain ⟨h1, h2⟩ := List.mem_filter.mp hz
          exact ⟨[z], rfl, fun x hx => by rw [List.mem_singleton.mp hx]; exact pool_name z h1, by show 1 ≤ 40; decide, z, List.mem_singleton.mpr rfl, by simpa using h2⟩
        -- one more name
        refine ⟨.ref O, rfl, .ref O, rfl, O, rfl, ⟨_, SqL.of (atO _ barN)⟩, fun D4 hD4 => ?_⟩
        refine lc_list (K := K) (a := O) (xs := os) (fun i H1 => Same HN H1 ∧ ∃ us ds, H1 D4 = some (.lst us) ∧ DpAll K H1 us ds ∧ us.length = i ∧ okDs ds = true ∧ ∀ d ∈ ds, BadW lot d) ⟨same_new hD4 _, [], [], upd_same, .nil, rfl, rfl, fun _ z => nomatch z⟩ (fun i H1 _ hI => SqL.of (hI.1 _ _ (atO _ barN))) (fun i x H1 hx hI1 => ?_) (fun HG hIG => ?_)
        · obtain ⟨sm, us, ds, hu, hus, ul, okd, hbad⟩ := hI1
          have bar1 := barN.trans (.same sm)
          obtain ⟨dd, hdd, hxd⟩ := dpAll_at' (atOs _ bar1) hx
          obtain ⟨z, hz, rfl⟩ := map_at hdd
          obtain ⟨h1, h2⟩ := List.mem_filter.mp (List.mem_of_getElem? hz)
          obtain ⟨bx, rfl, tx⟩ := of_wd hxd
          have il : i < os.length := (List.getElem?_eq_some_iff.mp hx).1
          refine ⟨rfl, .ref t, rfl, .ref bx, rfl, catA_w (same_tup sm ht) tx (small_line (by rw [List.length_map, List.length_map]; show _ + 1 ≤ _; omega)) fun g H2 s2 hg => ?_⟩
          refine ⟨g, ws ++ [z], rfl, by rw [List.map_append]; exact hg, by rw [List.length_append]; show _ + 1 < _; omega, fun zs2 p2 perm hp2 => ?_⟩
          have sp := same_new hp2 (.lst (zs2.map V.str))
          refine ⟨p2, _, rfl, .inl ⟨SqL.of upd_same, fun l hl => ?_⟩⟩
          have sl := same_new hl (.tup (zs2.map V.str))
          have s4 := s2.trans (sp.trans sl)
          have hu4 := s4 _ _ hu
          refine ⟨us, hu4, small_line' (by omega), same_put (sm.trans s4) hD4, _, ds ++ [wd zs2], upd_same, ?_, by rw [List.length_append, ul]; rfl, okDs_snoc okd (ok_wd zs2), fun d hd => ?_⟩
          · have sy : Stay (upd (upd H2 p2 (.lst (zs2.map V.str))) l (.tup (zs2.map V.str))) (upd (upd (upd H2 p2 (.lst (zs2.map V.str))) l (.tup (zs2.map V.str))) D4 (.lst (us ++ [.ref l]))) := .put (by rw [hu4]; exact True.intro) _
            exact dpAll_app (sy.dpAll _ _ okd (dpAll_same s4 _ _ hus)) (.cons (sy.wd (to_wd (SqT.of upd_same))) .nil)
          · rcases List.mem_append.mp hd with hd | hd
            · exact hbad d hd
            · rw [List.mem_singleton.mp hd]
              refine ⟨zs2, rfl, fun x hx => ?_, by rw [perm.length_eq, List.length_append]; show _ + 1 ≤ 40; omega, z, perm.mem_iff.mpr (List.mem_append_right _ (List.mem_singleton.mpr rfl)), by simpa using h2⟩
              rcases List.mem_append.mp (perm.mem_iff.mp hx) with h | h
              · exact (isW_sub hlot hsub).names x h
              · rw [List.mem_singleton.mp h]
                exact pool_name z h1
        · obtain ⟨smG, us, ds, hu, hus, ul, okd, hbad⟩ := hIG
          have barG := barN.trans (.same smG)
          refine ⟨O, D4, os, us, rfl, rfl, atO _ barG, hu, small_line (by omega), fun g hg => ?_⟩
          have sg := same_new hg (.lst (os ++ us))
          have hall : DpAll K (upd HG g (.lst (os ++ us))) (os ++ us) (((poolW.filter fun z => !decide (z ∈ lot)).map fun z => wd [z]) ++ ds) := dpAll_same sg _ _ (dpAll_app (atOs _ barG) hus)
          have hallBad : ∀ d ∈ (((poolW.filter fun z => !decide (z ∈ lot)).map fun z => wd [z]) ++ ds), BadW lot d := fun d hd => (List.mem_append.mp hd).elim (osBad d) (hbad d)
          have barQ := barG.trans (.same sg)
          have puQ := puN.same (smG.trans sg)
          refine ⟨g, rfl, ⟨_, SqL.of upd_same⟩, for_list (K := K) (a := g) (xs := os ++ us) (fun i σ H1 => (∃ y7, σ = [some (.ref p), some (.ref a), some (.ref b), some v, some (.bl true), some (.ref O), some (.ref t), y7, some (.ref D2), y9, none, none, none, none]) ∧ Same (upd HG g (.lst (os ++ us))) H1) ⟨⟨none, rfl⟩, fun _ _ e => e⟩ (fun i σ H1 _ hI => SqL.of (hI.2 _ _ upd_same)) (fun i x σ H1 hx hI1 => ?_) (fun σ HR hIR => ?_)⟩
          · obtain ⟨⟨y7, rfl⟩, sm⟩ := hI1
            obtain ⟨d, hdi, hxd⟩ := dpAll_at' hall hx
            have hb1 := hallBad d (List.mem_of_getElem? hdi)
            have bar1 := barQ.trans (.same sm)
            have hxd1 := dp_same sm _ _ hxd
            refine ⟨v, rfl, .ref b, rfl, x, rfl, told_state (atS _ bar1) hI few hlot (to_wd (atB _ bar1)) e0 hxd1 hb1.odd hb1.no fun HA l sA hl => ?_⟩
            refine ⟨x, rfl, by show 2 ≤ sizeLine; decide, fun e he => ?_⟩
            have se := same_new he (.lst [.str "world", x])
            exact ne_same (dp_same se _ _ hl) (.lst (SqL.of upd_same) (.cons (.str _) (.cons (dp_same (sA.trans se) _ _ hxd1) .nil))) (lay_pr2 (by decide +kernel) hb1.lay.1 (Nat.le_succ_of_le hb1.lay.2)) ⟨false, rfl, iteF ⟨⟨_, rfl⟩, sm.trans (sA.trans se)⟩⟩
          · obtain ⟨⟨y7, rfl⟩, smR⟩ := hIR
            have barR := barQ.trans (.same smR)
            have puR := puQ.same smR
            refine ⟨fun σ H1 => ∃ x d, σ = [some (.ref p), some (.ref a), some (.ref b), some v, some (.bl true), some (.ref O), some (.ref t), y7, some (.ref D2), y9, some x, none, none, none] ∧ Bar p HX H1 ∧ Pur H1 p (c + 40) ∧ Dp K H1 x d ∧ oddW d ∧ d.canLay0 = true ∧ d.depth ≤ 19 ∧ ∀ ws, IsW ws → d = wd ws → sub ws lot = false, ?_, ?_⟩
            · refine ⟨by show 1 ≤ sizeLine; decide, fun e1 h1 => ?_⟩
              have s1 := same_new h1 (.lst [.str "a"])
              refine ⟨by show 1 ≤ sizeLine; decide, fun t2 h2 => ?_⟩
              have s2 := same_new h2 (.tup [.str "zz"])
              refine ⟨by show 2 ≤ sizeLine; decide, fun t3 h3 => ?_⟩
              have s3 := same_new h3 (.tup [.str "b", .str "a"])
              refine ⟨by show 2 ≤ sizeLine; decide, fun t5 h5 => ?_⟩
              have s5 := same_new h5 (.tup [.str "a", .str "a"])
              refine ⟨by show 1 ≤ sizeLine; decide, fun t6 h6 => ?_⟩
              have s6 := same_new h6 (.tup [.int 7])
              refine ⟨by show 1 ≤ sizeLine; decide, fun t7 h7 => ?_⟩
              have s7 := same_new h7 (.tup [.str "A"])
              refine ⟨by show 9 ≤ sizeLine; decide, fun L9 h9 => ?_⟩
              have s9 := same_new h9 (.lst [.non, .ref e1, .ref t2, .ref t3, .str "a", .ref t5, .ref t6, .ref t7, .int 7])
              have s79 := s7.trans s9
              have s69 := s6.trans s79
              have s59 := s5.trans s69
              have s39 := s3.trans s59
              have s29 := s2.trans s39
              have s19 := s1.trans s29
              have pu9 := puR.same s19
              refine ⟨.ref p, rfl, p, 9, _, rfl, pu9, by omega, by decide, by decide, fun r us r0 r1 pu10 => ?_⟩
              have ne1 : e1 ≠ p := puR.some h1
              have neL : L9 ≠ p := (puR.same (s1.trans (s2.trans (s3.trans (s5.trans (s6.trans s7)))))).some h9
              have stT : Stay _ _ := (Bar.draw (p := p) (o := .lst us)).stay pu9.mut
              have all9 : DpAll K _ [.non, .ref e1, .ref t2, .ref t3, .str "a", .ref t5, .ref t6, .ref t7, .int 7] oddD9 :=
                .cons .non (.cons (.lst (SqL.of (Bar.draw (p := p) (o := .lst us) _ _ ne1 (s29 _ _ upd_same))) (.cons (.str _) .nil)) (.cons (.tup (stT.seq (SqT.of (s39 _ _ upd_same))) (.cons (.str _) .nil)) (.cons (.tup (stT.seq (SqT.of (s59 _ _ upd_same))) (.cons (.str _) (.cons (.str _) .nil))) (.cons (.str _) (.cons (.tup (stT.seq (SqT.of (s69 _ _ upd_same))) (.cons (.str _) (.cons (.str _) .nil)))
                  (.cons (.tup (stT.seq (SqT.of (s79 _ _ upd_same))) (.cons (.int _) .nil)) (.cons (.tup (stT.seq (SqT.of (s9 _ _ upd_same))) (.cons (.str _) .nil)) (.cons (.int _) .nil))))))))
              obtain ⟨m, rfl⟩ := Int.eq_ofNat_of_zero_le r0
              have lt : m < 9 := by omega
              have hx : ([V.non, .ref e1, .ref t2, .ref t3, .str "a", .ref t5, .ref t6, .ref t7, .int 7] : List V)[m]? = some ([V.non, .ref e1, .ref t2, .ref t3, .str "a", .ref t5, .ref t6, .ref t7, .int 7][m]'lt) := List.getElem?_eq_getElem lt
              obtain ⟨d, hdi, hxd⟩ := dpAll_at' all9 hx
              obtain ⟨g1, g2, g3, g4⟩ := oddD9_ok d (List.mem_of_getElem? hdi)
              refine ⟨L9, _, m, _, rfl, rfl, SqL.of (Bar.draw (p := p) (o := .lst us) _ _ neL upd_same), (atI_nat hx), ?_⟩
              refine ⟨_, d, rfl, barR.trans ((Bar.same s19).trans .draw), pu10.le (by omega), hxd, g1, g2, g3, fun ws hws e => ?_⟩
              rcases g4 with g4 | rfl
              · rw [e, worldD_wd hws] at g4
                exact nomatch g4
              · have := wd_inj e
                subst this
                cases g : sub ["zz"] lot with
                | false => rfl
                | true => exact absurd (hpool _ (sub_mem g "zz" (List.mem_singleton.mpr rfl))) (by decide +kernel)
            · rintro σ H1 ⟨x, d, rfl, bar, pu, hxd, hodd, hl1, hl2, hno⟩
              refine ⟨v, rfl, .ref b, rfl, x, rfl, told_state (atS _ bar) hI few hlot (to_wd (atB _ bar)) e0 hxd hodd hno fun HA l sA hl => ?_⟩
              refine ⟨x, rfl, by show 2 ≤ sizeLine; decide, fun e he => ?_⟩
              have se := same_new he (.lst [.str "world", x])
              exact eq_same (dp_same se _ _ hl) (.lst (SqL.of upd_same) (.cons (.str _) (.cons (dp_same (sA.trans se) _ _ hxd) .nil))) (lay_pr2 (by decide +kernel) hl1 hl2) (fin _ (bar.trans (.same (sA.trans se))) ((pu.same (sA.trans se)).le (by omega)))
end
end Rw
namespace Rw
open PySem PySem.Spec PyProof.Rows L2
/-! ### == and != of instances by their class's own __eq__ -/
section
variable {X : Cx}
def rEqP (C : Addr) (sp : Sp) (E : XK) : R2 := fun x y H Q => ∃ a dx fs b dy gs, x = .ref a ∧ y = .ref b ∧ H a = some (.ins C dx fs) ∧ H b = some (.ins C dy gs) ∧ sp [x, y] H Q E
theorem op_eqP {CX : CXT} {C g : Addr} {n : Nat} {sp : Sp} {E : XK} (hs : PySem.W.findIn X.K (.ref C) "__eq__" = some (some (.ref g))) (hf : PySem.W.isFn X.K (.ref g) = true) (F : FnR X.prog X.w X.K X.mg X.base CX n g sp) (hr : Room n X.A) (hx : Passes CX X E) : OpR X (compareOp .Eq) (rEqP C sp E) := by
  intro pins s σ H x y v u Q I rx ry h
  obtain ⟨a, dx, fs, b, dy, gs, rfl, rfl, ha, hb, q⟩ := h
  obtain rfl : v = Value.ref a := rx
  obtain rfl : u = Value.ref b := ry
  obtain ⟨mA, J, _⟩ := ins_get I.hok ha
  obtain ⟨mB, J', _⟩ := ins_get I.hok hb
  obtain ⟨od, J, _⟩ := J.look
  obtain ⟨od', J', _⟩ := J'.look
  obtain ⟨m, hF⟩ := I.fr
  show wpAny _ _ (richCompare .Eq (.ref a) (.ref b)) _ _ _
  refine PySem.W.cmp_K hr.units0 hF I.ok.mod.kin J J'.type (by simp [PySem.W.notFirst]) hs hf ?_
  refine wpAny_mono (wpAny_call (run_fnR F hr hx I (vs := [.ref a, .ref b]) (.cons rfl (.cons rfl .nil)) q)) (fun r s' h => ?_) fun e s' h => h
  obtain ⟨z, H', I', r, q⟩ := h
  exact SlX.cmpback r ⟨z, H', I', r, q⟩
/-- what the class is, for != -/
structure NeC (K : PySem.W.Frag) (C g : Addr) : Prop where
  cls : ∃ nm q N bs hd sn sub ab col dd k0 k1 k2 k3 k5 nid oN es ep, K.lookup C = some (excClassObj nm q C N bs [.type "object"] hd sn sub ab col dd k0 k1 k2 k3 k5 nid) ∧ K.lookup N = some oN ∧ oN.data = .dict es ep ∧ StrKeys es ∧ nsFind es "__eq__" = some (.ref g) ∧ nsFind es "__ne__" = none
  fn : ∃ og, K.lookup g = some og ∧ og.cls = .type "function"
def rNeP (C : Addr) (sp : Sp) (E : XK) : R2 := fun x y H Q => ∃ a dx fs b dy gs, x = .ref a ∧ y = .ref b ∧ H a = some (.ins C dx fs) ∧ H b = some (.ins C dy gs) ∧ sp [x, y] H (fun v H' => ∃ t, v = .bl t ∧ Q (.bl (!t)) H') E
theorem op_neP {CX : CXT} {C g : Addr} {n : Nat} {sp : Sp} {E : XK} (N : NeC X.K C g) (F : FnR X.prog X.w X.K X.mg X.base CX n g sp) (hr : Room (n + 1) X.A) (hx : Passes CX X E) : OpR X (compareOp .NotEq) (rNeP C sp E) := by
  intro pins s σ H x y v u Q I rx ry h
  obtain ⟨a, dx, fs, b, dy, gs, rfl, rfl, ha, hb, q⟩ := h
  obtain rfl : v = Value.ref a := rx
  obtain rfl : u = Value.ref b := ry
  obtain ⟨mA, J, _⟩ := ins_get I.hok ha
  obtain ⟨mB, J', _⟩ := ins_get I.hok hb
  obtain ⟨od, J, _⟩ := J.look
  obtain ⟨od', J', _⟩ := J'.look
  obtain ⟨nm, q1, NN, bs, hd, sn, sub, ab, col, dd, k0, k1, k2, k3, k5, nid, oN, es, ep, c1, c2, c3, c4, c5, c6⟩ := N.cls
  obtain ⟨og, g1, g2⟩ := N.fn
  have kin := I.kIn
  have own : s.heap.OwnEqNoNe a C g "object" [.type "object"] := ⟨_, og, nm, q1, NN, bs, hd, sn, sub, ab, col, dd, k0, k1, k2, k3, k5, nid, _, _, J.at_, J.cls, kin _ _ c1, ⟨oN, es, ep, kin _ _ c2, c3, c4, fun _ => rfl⟩, c5, kin _ _ g1, g2, PySem.F.cmp_object.mro, PySem.F.cmp_object.eq.lookup, c6⟩
  have un := hr.un
  refine compareOp_ne_ownEq PySem.F.cmp_object own J'.at_ J'.cls (by omega) ?_
  have e0 := I.env0
  have e1 : Env0 X.prog X.w X.K X.mg X.base X.A.in1 X.stack s H := ⟨e0.frames, e0.mod, e0.bs, e0.bsz, e0.funs, e0.frf, e0.hok, e0.bare⟩
  refine wpAny_call (codeAny_mono (F X.A.in1 X.stack s H [.ref a, .ref b] [.ref a, .ref b] _ E hr.in1 e1 (.cons rfl (.cons rfl .nil)) q) fun r s' h => ?_)
  cases r with
  | error e => exact hx pins σ H s e s' I h
  | ok f =>
    cases f with
    | ret v =>
      obtain ⟨z, H', I', r, t, rfl, q⟩ := I.after h
      obtain rfl : v = Value.bool t := r
      exact ⟨t, rfl, .bl (!t), H', I', rfl, q⟩
    | _ => exact h.elim
end
end Rw
namespace Rw
open PySem PySem.Spec PyProof.Rows L2
/-! ### Program.__eq__ -/
abbrev sPEq : Stmt := inClass (topS 14) 12
theorem scPEq : FnScope ["self", "other"] ["self", "other"] (defScope sPEq) := ⟨rfl, rfl, rfl, by decide +kernel, rfl, by decide +kernel, by decide +kernel⟩
section
variable {P : Program} {w : World} {K : PySem.W.Frag} {mg : Str → Option Value} {base : Heap} {f : Addr} {fd : FuncData} {k : Nat}
/-- of two programs with the same rules -/
def spPEq (K : PySem.W.Frag) (C : Addr) : Sp := fun vs H Q _ => ∃ (x y : V) (S : List Rl), vs = [x, y] ∧ PgAt K C H x S ∧ PgAt K C H y S ∧ (∀ r ∈ S, IsR r) ∧ Q (.bl true) H
theorem lay_tup {ds : List PyData} (h : Lay (.list ds)) : Lay (.tuple ds) := by
  obtain ⟨h1, h2⟩ := h
  have e1 : (PyData.tuple ds).canLay0 = (PyData.list ds).canLay0 := by
    simp only [PyData.canLay0]
  have e2 : (PyData.tuple ds).depth = (PyData.list ds).depth := by
    simp only [PyData.depth]
  exact ⟨by rw [e1]; exact h1, by rw [e2]; exact h2⟩
theorem ok_pEq {C : Addr} (F : Fun K "__eq__" "Program.__eq__" sPEq f fd) (T : Bl mg) (G : PgC K mg C) (n : NoAttr K C "_rules") : FnOk P w K mg base CX0 (k + 1) f fd ["self", "other"] (spPEq K C) := by
  refine F.ok scPEq (fun vs H Q E h => ?_) (fun cdv A outer s H vs Q E hr h => ?_)
  · obtain ⟨x, y, S, rfl, _⟩ := h
    rfl
  obtain ⟨x, y, S, rfl, ⟨a, dx, t, ys, rfl, h1, h2, h3⟩, ⟨b, dy, u, zs, rfl, g1, g2, g3⟩, hI, q⟩ := h
  refine ⟨_, pss_one (ps_ret (pe_and (pe_callB call_isi (by rfl) T.isi PyProof.Rows.boot_isinstance (pa_cons (pv 1) (pa_cons (pe_glob (v := .ref C) (by rfl) G.m rfl) pa_nil))) (pe_one (pe_cmpR (op_eqD hr.units) (pe_fld (pv 0) rfl) (pe_fld (pv 1) rfl) (nomark _))))), ?_⟩
  refine ⟨.ref b, rfl, .ref b, .ref C, .ref C, .ref C, true, rfl, .own C, .base (.ins g1 G.cls G.cg G.sp G.tk G.mro), G.yes, true, rfl, iteT ?_⟩
  refine ⟨.ref a, rfl, a, C, dx, _, .ref t, rfl, h1, G.cls, n, rfl, .ref b, rfl, b, C, dy, _, .ref u, rfl, g1, G.cls, n, rfl, ?_⟩
  exact eq_same (.tup h2 h3) (.tup g2 g3) (lay_tup (lay_rules hI)) q
end
end Rw
namespace Rw
open PySem PySem.Spec PyProof.Rows L2
/-! ### a def without defaults, called by names; C() of a class whose __init__ takes *args -/
theorem kbn_fun {K : PySem.W.Frag} {x qual : Str} {st : Stmt} {f : Addr} {fd : FuncData} {ps : List Str} (F : Fun K x qual st f fd) (n : Nat) (ks : List Str) (g : List Value → List Value → List Value) (gV : List V → List V → List V)
    (h : ∀ (kV doc pm : Value) (an : Option Addr) (cdv ct : Value) (us ws : List Value), us.length = n → ws.length = ks.length → bindArgs (PySem.W.fnOf x qual (defArgs st) (defBody st) (defScope st) .none kV doc pm an cdv ct) { pos := us, kw := ks.zip ws } = pure (ps.zip (g us ws)))
    (rel : ∀ {vs : List V} {us : List Value} {zs : List V} {ws : List Value}, Vals vs us → Vals zs ws → Vals (gV vs zs) (g us ws)) : KBn K fd ps n ks g gV := by
  obtain ⟨oc, od, kV, doc, pm, an, cdv, ct, osl, rfl, lk, hcd⟩ := F.ex
  refine ⟨fun s us ws X l1 l2 => ?_, fun a b => rel a b⟩
  intro M A E Q q
  rw [h kV doc pm an cdv ct us ws l1 l2]
  exact wpAny_pure q
theorem pe_makeR0 {X : Cx} {CX : CXT} {k : Nat} {f C : Addr} {sp : Sp} {E : XK} {x : Str} {p pos : Pos} (M : Mk X.K C f) (F : FnR X.prog X.w X.K X.mg X.base CX k f sp) (hr : Room (k + 1) X.A) (hg : Gl X x) (hm : X.mg x = some (.ref C)) (hx : Passes CX X E)
    (hd : (x == ("__debug__" : Str)) = false := by rfl) : PE X (.Call (.Name x p) [] [] pos) (StX.tMakeR C sp E tNil) :=
  ⟨fun pins s σ H Q I h => wpAny_Call_Name_kw (ld_glob I hg hm (PySem.W.callWith_K0 I.kIn M.kp (StX.run_makeR M F hr hx I Paired.nil h)) hd)⟩
theorem passNo {P : Program} {w : World} {X : Cx} : Passes (L2.CX P w) X (fun _ _ _ => False) := fun pins σ H s e s' _ h => by
  obtain ⟨_, _, _, _, _, _, _, _, _, _, _, _, z⟩ := h
  exact z.elim
end Rw
namespace Rw
open PySem PySem.Spec PyProof.Rows L2 ClX
/-! ### law -/
abbrev sLaw : Stmt := topS 52
abbrev nLaw : List Str := ["script", "pool", "at", "purse", "letters", "turn", "rules", "odd", "more", "row", "way"]
theorem scLaw : FnScope ["script", "pool", "at", "purse", "letters", "turn", "rules", "odd", "more", "row", "way"] ["script"] (defScope sLaw) := ⟨rfl, rfl, rfl, by decide +kernel, rfl, by decide +kernel, by decide +kernel⟩
def swap2 {α : Type} (_ zs : List α) : List α := zs.reverse
def swap3 {α : Type} (_ zs : List α) : List α := zs.take 1 ++ (zs.drop 1).reverse
def app2 {α : Type} (us zs : List α) : List α := us ++ zs
theorem vals_rev {vs : List V} {us : List Value} (h : Vals vs us) : Vals vs.reverse us.reverse := by
  induction h with
  | nil => exact .nil
  | cons h _ ih =>
    rw [List.reverse_cons, List.reverse_cons]
    exact vals_app ih (.cons h .nil)
theorem vals_take : ∀ {vs : List V} {us : List Value} (n : Nat), Vals vs us → Vals (vs.take n) (us.take n)
  | _, _, 0, _ => by
    rw [List.take_zero, List.take_zero]
    exact .nil
  | _, _, _ + 1, .nil => .nil
  | _, _, n + 1, .cons h t => .cons h (vals_take n t)
theorem vals_drop : ∀ {vs : List V} {us : List Value} (n : Nat), Vals vs us → Vals (vs.drop n) (us.drop n)
  | _, _, 0, h => h
  | _, _, _ + 1, .nil => .nil
  | _, _, n + 1, .cons _ t => vals_drop n t
/-! ### three answers in a list -/
section
variable {K : PySem.W.Frag} {C CP CW CS : Addr} {H : Hp} {Q : VK}
variable {v nm wv : V} {S : List Rl} {d dw dv : PyData} {way : Int}
theorem told_EL {H' : Hp} {dx : Addr} {D : Addr} {x : V} {s : Str} (hD : (D = CP ∧ s = "program") ∨ (D = CW ∧ s = "world") ∨ (D = CS ∧ s = "split")) (e : Same H H') (hx : H' dx = none) (q : TL Q s x H) :
    TE' CP CW CS Q (.ref D) (some dx) (upd H' dx (.xd [(("thing" : Str), x)])) := ⟨dx, D, x, s, rfl, rfl, upd_same, hD, q.same (e.trans (same_new hx _))⟩
theorem told_badL (hway : way = 0 ∨ way = 1 ∨ way = 2) (hS : PgAt K C H v S) (hI : ∀ r ∈ S, IsR r) (few : S.length < 64) (hd : Dp K H nm d) (odd : oddW d) (no : worldD d = false) (hw : Dp K H wv dw) (oddw : oddW dw) (q : TL Q "world" nm H) : spLawTold K C CP CW CS [.int way, v, nm, wv] H Q (fun _ _ _ => False) := by
  have no' : ∀ ns, IsW ns → d = wd ns → False := fun ns hn e => by
    rw [e, worldD_wd hn] at no
    exact nomatch no
  have X : ∀ R, SpX K C CP CW CS v nm H (TE' CP CW CS Q) R := fun R => .inl ⟨S, d, hS, hI, few, hd, odd, fun H' e => ⟨fun ns hn e' => (no' ns hn e').elim, fun _ dx hdx => told_EL (.inr (.inl ⟨rfl, rfl⟩)) e hdx q⟩⟩
  refine ⟨way, v, nm, wv, rfl, ?_⟩
  rcases hway with rfl | rfl | rfl
  · exact .inl ⟨rfl, v, nm, rfl, .inl ⟨S, d, hS, hI, few, hd, odd, fun H' e => ⟨fun ns hn e' => (no' ns hn e').elim, fun _ dx hdx => told_EL (.inr (.inl ⟨rfl, rfl⟩)) e hdx q⟩⟩⟩
  · exact .inr (.inl ⟨rfl, v, nm, rfl, X _⟩)
  · exact .inr (.inr ⟨rfl, v, nm, wv, dw, rfl, hw, oddw, X _⟩)
theorem told_progL (hway : way = 0 ∨ way = 1 ∨ way = 2) (hv : Dp K H v dv) (hw : Dp K H wv dw) (oddw : oddW dw) (q : TL Q "program" v H) : spLawTold K C CP CW CS [.int way, v, nm, wv] H Q (fun _ _ _ => False) := by
  have X : ∀ R, SpX K C CP CW CS v nm H (TE' CP CW CS Q) R := fun R => .inr ⟨dv, hv, fun dx hdx => told_EL (.inl ⟨rfl, rfl⟩) (fun _ _ e => e) hdx q⟩
  refine ⟨way, v, nm, wv, rfl, ?_⟩
  rcases hway with rfl | rfl | rfl
  · exact .inl ⟨rfl, v, nm, rfl, .inr ⟨dv, hv, fun dx hdx => told_EL (.inl ⟨rfl, rfl⟩) (fun _ _ e => e) hdx q⟩⟩
  · exact .inr (.inl ⟨rfl, v, nm, rfl, X _⟩)
  · exact .inr (.inr ⟨rfl, v, nm, wv, dw, rfl, hw, oddw, X _⟩)
end
section
variable {K : PySem.W.Frag} {C : Addr} {σ : L2.St} {H : Hp} {Q : VK} {E : XK}
theorem make0_ok (q : ∀ H' v S, Same H H' → Srt S [] → S.length < 64 → PgAt K C H' v S → Q v H') : StX.tMakeR C (spInit K C) E tNil σ H Q :=
  made_ok (C := C) (L := []) (Q := Q) .nil (fun _ z => nomatch z) (by decide) q
theorem makeRow_ok {e : TE} (r : Rl) (hr : IsR r) (he : ∀ Q2 : VK, (∀ H' y, Same H H' → Dp K H' y (rd r) → Q2 y H') → e σ H Q2) (q : ∀ H' v S, Same H H' → Srt S [r] → S.length < 64 → PgAt K C H' v S → Q v H') : StX.tMakeR C (spInit K C) E (tCons e tNil) σ H Q :=
  he _ fun H' y s hy => made_ok (C := C) (L := [r]) (Q := Q) (.cons hy .nil) (fun x hx => by rw [List.mem_singleton.mp hx]; exact hr) (by show 1 < 64; decide) fun H2 v S s2 => q H2 v S (s.trans s2)
end
def Three (H0 : Hp) (D : Addr) (s : Str) (x : V) (i : Nat) (H : Hp) : Prop := Same H0 H ∧ ∃ ls : List Addr, ls.length = i ∧ H D = some (.lst (ls.map V.ref)) ∧ ∀ l ∈ ls, H l = some (.lst [.str s, x])
section
variable {K : PySem.W.Frag} {H0 H H2 : Hp} {D : Addr} {s : Str} {x : V} {d : PyData}
theorem Three.start (hD : H0 D = none) : Three H0 D s x 0 (upd H0 D (.lst [])) := ⟨same_new hD _, [], rfl, upd_same, fun _ z => nomatch z⟩
theorem Three.step {i : Nat} {l : Addr} (h : Three H0 D s x i H) (hD : H0 D = none) (hi : i < 3) (e : Same H H2) (hl : H2 l = some (.lst [.str s, x])) : ∃ acc, H2 D = some (.lst acc) ∧ acc.length < sizeLine ∧ Three H0 D s x (i + 1) (upd H2 D (.lst (acc ++ [.ref l]))) := by
  obtain ⟨sm, ls, h1, h2, h3⟩ := h
  have hD2 := e _ _ h2
  have ne : ∀ b, H2 b = some (.lst [.str s, x]) → b ≠ D := fun b hb z => by
    rw [z, hD2] at hb
    cases ls with
    | nil => cases hb
    | cons a t => cases hb
  refine ⟨_, hD2, small_line' (by rw [List.length_map]; omega), same_put (sm.trans e) hD, ls ++ [l], by rw [List.length_append, h1]; rfl, by rw [upd_same, List.map_append]; rfl, fun b hb => ?_⟩
  have hb2 : H2 b = some (.lst [.str s, x]) := by
    rcases List.mem_append.mp hb with z | z
    · exact e _ _ (h3 b z)
    · rw [List.mem_singleton.mp z]
      exact hl
  rw [upd_ne (ne b hb2)]
  exact hb2
theorem Three.fin (h : Three H0 D s x 3 H) (hx : Dp K H x d) : Dp K H (.ref D) (.list [pr2 s d, pr2 s d, pr2 s d]) := by
  obtain ⟨sm, ls, h1, h2, h3⟩ := h
  match ls, h1 with
  | [a, b, c], _ =>
    have one : ∀ l, l ∈ [a, b, c] → Dp K H (.ref l) (pr2 s d) := fun l hl => .lst (SqL.of (h3 l hl)) (.cons (.str s) (.cons hx .nil))
    exact .lst (SqL.of h2) (.cons (one a (by simp)) (.cons (one b (by simp)) (.cons (one c (by simp)) .nil)))
theorem depth_pr2 (s : Str) (d : PyData) : (pr2 s d).depth ≤ d.depth + 3 := by
  unfold pr2
  rw [PyData.depth, PyData.depthAll, PyData.depthAll, PyData.depthAll, PyData.depth]
  omega
theorem lay_three (hs : (PyData.str s).canLay0 = true) (h : d.canLay0 = true) (n : d.depth ≤ 10) : Lay (.list [pr2 s d, pr2 s d, pr2 s d]) := Lay.list fun y hy => by
  simp only [List.mem_cons, List.mem_nil_iff, or_false] at hy
  have e := depth_pr2 s d
  rcases hy with rfl | rfl | rfl <;> exact ⟨(lay_pr2 hs h (by omega)).lay, by omega⟩
/-- [[word, thing]] * 3, and the comparison with the three answers -/
theorem three_ne {Q : VK} (h : Three H0 D s x 3 H) (hx : Dp K H x d) (hs : (PyData.str s).canLay0 = true) (l1 : d.canLay0 = true) (l2 : d.depth ≤ 10) (q : ∀ H3, Same H H3 → Q (.bl false) H3) :
    2 ≤ sizeLine ∧ ∀ a, H a = none → 1 ≤ sizeLine ∧ ∀ b, (upd H a (.lst [.str s, x])) b = none → rRep (.ref b) (.int 3) (upd (upd H a (.lst [.str s, x])) b (.lst [.ref a])) fun y H3 => rNeD K (.ref D) y H3 Q := by
  refine ⟨by decide, fun a ha => ⟨by decide, fun b hb => ?_⟩⟩
  have s1 := same_new ha (.lst [.str s, x])
  have s2 := same_new hb (.lst [.ref a])
  refine ⟨b, 3, [.ref a], rfl, rfl, upd_same, by decide, by decide, by show 1 * 3 ≤ sizeLine; decide, fun c hc => ?_⟩
  have s3 := same_new hc (.lst (List.replicate (3 : Int).toNat [V.ref a]).flatten)
  have s23 := s2.trans s3
  have s123 := s1.trans s23
  have one : Dp K (upd (upd (upd H a (.lst [.str s, x])) b (.lst [.ref a])) c (.lst (List.replicate (3 : Int).toNat [V.ref a]).flatten)) (.ref a) (pr2 s d) := .lst (SqL.of (s23 _ _ upd_same)) (.cons (.str s) (.cons (dp_same s123 _ _ hx) .nil))
  exact ne_same (dp_same s123 _ _ (h.fin hx)) (.lst (xs := [.ref a, .ref a, .ref a]) (SqL.of upd_same) (.cons one (.cons one (.cons one .nil)))) (lay_three hs l1 l2) (q _ s123)
end
def oddDA : List PyData := [.none, .list [.str "a"], wd ["b", "a"], .str "a", .tuple [.str "a", .str "a"], .tuple [.int 7], .tuple [.str "A"], .int 7, .tuple [.str "not"]]
def oddDB : List PyData := [.none, .list [.str "a"], wd ["b", "a"], .int 7, wd [], wd ["a"]]
theorem oddDA_ok : ∀ d ∈ oddDA, oddW d ∧ d.canLay0 = true ∧ d.depth ≤ 10 ∧ worldD d = false := fun d hd => by
  unfold oddDA at hd
  simp only [List.mem_cons, List.mem_nil_iff, or_false] at hd
  rcases hd with rfl | rfl | rfl | rfl | rfl | rfl | rfl | rfl | rfl
  · exact ⟨True.intro, by decide +kernel, by decide +kernel, by decide +kernel⟩
  · exact ⟨True.intro, by decide +kernel, by decide +kernel, by decide +kernel⟩
  · exact ⟨odd_ba, by decide +kernel, by decide +kernel, by decide +kernel⟩
  · exact ⟨True.intro, by decide +kernel, by decide +kernel, by decide +kernel⟩
  · exact ⟨odd_tup (fun d hd => by
      simp only [List.mem_cons, List.mem_nil_iff, or_false] at hd
      rcases hd with rfl | rfl <;> exact ⟨_, rfl, by decide +kernel⟩) (by decide), by decide +kernel, by decide +kernel, by decide +kernel⟩
  · exact ⟨⟨fun d hd => by rw [List.mem_singleton.mp hd]; exact True.intro, by decide⟩, by decide +kernel, by decide +kernel, by decide +kernel⟩
  · exact ⟨odd_tup (fun d hd => by rw [List.mem_singleton.mp hd]; exact ⟨_, rfl, by decide +kernel⟩) (by decide), by decide +kernel, by decide +kernel, by decide +kernel⟩
  · exact ⟨True.intro, by decide +kernel, by decide +kernel, by decide +kernel⟩
  · exact ⟨odd_tup (fun d hd => by rw [List.mem_singleton.mp hd]; exact ⟨_, rfl, by decide +kernel⟩) (by decide), by decide +kernel, by decide +kernel, by decide +kernel⟩
theorem isW_nil : IsW [] := ⟨(fun _ z => nomatch z), List.Pairwise.nil, by decide⟩
theorem isW_a : IsW ["a"] := isW_one (by decide +kernel)
theorem isW_more : IsW ["more"] := isW_one (by decide +kernel)
theorem isW_b : IsW ["b"] := isW_one (by decide +kernel)
theorem oddDB_ok : ∀ d ∈ oddDB, oddW d := fun d hd => by
  unfold oddDB at hd
  simp only [List.mem_cons, List.mem_nil_iff, or_false] at hd
  rcases hd with rfl | rfl | rfl | rfl | rfl | rfl
  · exact True.intro
  · exact True.intro
  · exact odd_ba
  · exact True.intro
  · exact oddW_wd isW_nil
  · exact oddW_wd isW_a
theorem isW_pool : IsW poolW := ⟨pool_name, by decide +kernel, by decide⟩
theorem cut_pool (m : Nat) : cutV (poolW.map V.str) none (some ((2 + m : Nat) : Int)) = (poolW.take (min (2 + m) 6)).map V.str := by
  unfold cutV
  rw [HT.sIx_nat]
  show ((poolW.map V.str).drop 0).take (_ - 0) = _
  rw [List.drop_zero, Nat.sub_zero, List.map_take]
  rfl
theorem srt_nil {S : List Rl} (h : Srt S []) : S = [] := List.eq_nil_iff_forall_not_mem.mpr fun p hp => nomatch (h.mem p).mp hp
theorem srt_sing (r : Rl) : Srt [r] [r] := ⟨List.nodup_cons.mpr ⟨(fun z => nomatch z), List.nodup_nil⟩, List.pairwise_singleton _ _, fun _ => Iff.rfl⟩
theorem srt_one {S : List Rl} {r : Rl} (h : Srt S [r]) : S = [r] := h.one (srt_sing r) fun _ => Iff.rfl
def rowA : Rl := (["a"], [], [], [])
def rowR0 : Rl := ([], ["a"], [], ["b"])
def rowR1 : Rl := ([], [], [], ["b"])
theorem isR_A : IsR rowA := ⟨isW_a, isW_nil, isW_nil, isW_nil⟩
theorem isR_R0 : IsR rowR0 := ⟨isW_nil, isW_a, isW_nil, isW_b⟩
theorem isR_R1 : IsR rowR1 := ⟨isW_nil, isW_nil, isW_nil, isW_b⟩
theorem rest_R : restL [rowR0] ["a"] ["a"] = [rowR1] := by decide +kernel
theorem split_R : splitsB [rowR0] ["a"] = true := by decide +kernel
section
variable {P : Program} {w : World} {K : PySem.W.Frag} {mg : Str → Option Value} {base : Heap} {f : Addr} {fd : FuncData} {k : Nat}
def spLaw (K : PySem.W.Frag) : Sp := fun vs H Q _ => ∃ (a : Addr) (ns : List Int), vs = [.ref a] ∧ SqL K H a (ns.map V.int) ∧ ns.length ≤ 63 ∧ ∀ H', Q (.bl true) H'
theorem ok_law {C CP CW CS pO fO fI fE f1 f2 f3 f4 f5 f6 f7 f8 f9 : Addr} {mc : Value} {fd1 fd2 fd3 fd4 fd5 fd6 fd7 fd8 fd9 : FuncData} (F : Fun K "law" "law" sLaw f fd) (T : Bl mg) (mC : mg "Program" = some (.ref C)) (cr : CRead K C mc) (cm : CMet K C mc "of" pO fO) (GO : FnR P w K mg base CX0 (k + 1) fO (spOf K C))
    (M : Mk K C fI) (GI : FnR P w K mg base CX0 k fI (spInit K C)) (hE : PySem.W.findIn K (.ref C) "__eq__" = some (some (.ref fE))) (iE : PySem.W.isFn K (.ref fE) = true) (NE : NeC K C fE) (GE : FnR P w K mg base CX0 k fE (spPEq K C))
    (G1 : FnOk P w K mg base CX0 (k + 1) f1 fd1 ["script", "at"] (spLawPurse K)) (b1 : Binds K fd1 ["script", "at"] []) (k1 : PySem.W.keepIn K (.ref f1) = true) (m1 : mg "_law_purse" = some (.ref f1))
    (G2 : FnOk P w K mg base CX0 (k + 1) f2 fd2 ["purse", "out_of"] spLawDraw) (b2 : Binds K fd2 ["purse", "out_of"] []) (k2 : PySem.W.keepIn K (.ref f2) = true) (m2 : mg "_law_draw" = some (.ref f2))
    (G3 : FnOk P w K mg base CX0 (k + 1) f3 fd3 ["purse", "letters", "sort", "most"] (spLawRules K)) (b3 : Binds K fd3 ["purse", "letters", "sort", "most"] []) (k3 : PySem.W.keepIn K (.ref f3) = true) (m3 : mg "_law_rules" = some (.ref f3))
    (G4 : FnOk P w K mg base CX0 (k + 1) f4 fd4 ["purse", "rules", "letters"] (spLawLot K)) (b4 : Binds K fd4 ["purse", "rules", "letters"] []) (k4 : PySem.W.keepIn K (.ref f4) = true) (m4 : mg "_law_lot" = some (.ref f4))
    (G5 : FnOk P w K mg base CX0 (k + 1) f5 fd5 ["purse", "rules", "lot"] (spLawRight K)) (b5 : Binds K fd5 ["purse", "rules", "lot"] []) (k5 : PySem.W.keepIn K (.ref f5) = true) (m5 : mg "_law_right" = some (.ref f5))
    (G6 : FnOk P w K mg base CX0 (k + 1) f6 fd6 ["way", "sheet", "lot", "state"] (spLawTold K C CP CW CS)) (b6 : Binds K fd6 ["way", "sheet", "lot", "state"] []) (k6 : PySem.W.keepIn K (.ref f6) = true) (m6 : mg "_law_told" = some (.ref f6))
    (G7 : FnOk P w K mg base (L2.CX P w) (k + 1) f7 fd7 ["program", "names"] (spSplits K C CP CW)) (kb7 : KBn K fd7 ["program", "names"] 0 ["names", "program"] swap2 swap2) (k7 : PySem.W.keepIn K (.ref f7) = true) (m7 : mg "splits" = some (.ref f7))
    (G8 : FnOk P w K mg base (L2.CX P w) (k + 1) f8 fd8 ["program", "names"] (spLower K C CP CW CS)) (kb8 : KBn K fd8 ["program", "names"] 1 ["names"] app2 app2) (k8 : PySem.W.keepIn K (.ref f8) = true) (m8 : mg "lower" = some (.ref f8))
    (G9 : FnOk P w K mg base (L2.CX P w) (k + 1) f9 fd9 ["program", "names", "world"] (spRest K C CP CW CS)) (kb9 : KBn K fd9 ["program", "names", "world"] 0 ["program", "world", "names"] swap3 swap3) (k9 : PySem.W.keepIn K (.ref f9) = true) (m9 : mg "rest" = some (.ref f9)) :
    FnOk P w K mg base CX0 (k + 2) f fd ["script"] (spLaw K) := by
  refine F.ok scLaw (fun vs H Q E h => ?_) (fun cdv A outer s H vs Q E hr h => ?_)
  · obtain ⟨a, ns, rfl, _⟩ := h
    rfl
  obtain ⟨a, ns, rfl, hS, hl, q⟩ := h
  refine ⟨_, pss_cons (ps_set (i := 1) scLaw.nd rfl (.inl rfl) (pe_lst (pa_cons pe_str (pa_cons pe_str (pa_cons pe_str (pa_cons pe_str (pa_cons pe_str (pa_cons pe_str pa_nil))))))))
    (pss_cons (ps_for PassesOwn.never rfl (pi_range1 rfl T.range (pa_cons (pe_op op_add pe_int (pe_callB (call_min2 rfl) (by rfl) T.min (by decide +kernel) (pa_cons pe_int (pa_cons (pe_callB call_len_seq (by rfl) T.len PySem.boot_len (pa_cons (pv 0) pa_nil)) pa_nil)))) pa_nil)) (pg_name (i := 2) scLaw.nd rfl (.inl rfl))
      (pss_cons (ps_set (i := 3) scLaw.nd rfl (.inl rfl) (pe_call G1 hr (by rfl) m1 k1 b1 .nil pass0 (pa_cons (pv 0) (pa_cons (pv 2) pa_nil))))
      (pss_cons (ps_set (i := 4) scLaw.nd rfl (.inl rfl) (pe_slice sl_list (pv 1) po_none (po_some (pe_op op_add pe_int (pe_call G2 hr (by rfl) m2 k2 b2 .nil pass0 (pa_cons (pv 3) (pa_cons pe_int pa_nil)))))))
      (pss_cons (ps_for PassesOwn.never rfl (pi_range1 rfl T.range (pa_cons pe_int pa_nil)) (pg_name (i := 5) scLaw.nd rfl (.inl rfl))
        (pss_cons (ps_set (i := 6) scLaw.nd rfl (.inr rfl) (pe_call G3 hr (by rfl) m3 k3 b3 .nil pass0 (pa_cons (pv 3) (pa_cons (pv 4) (pa_cons pe_int (pa_cons pe_int pa_nil))))))
        (pss_cons (ps_if (pt_not (pt_val (pe_call G5 hr (by rfl) m5 k5 b5 .nil pass0 (pa_cons (pv 3) (pa_cons (pv 6) (pa_cons (pe_call G4 hr (by rfl) m4 k4 b4 .nil pass0 (pa_cons (pv 3) (pa_cons (pv 6) (pa_cons (pv 4) pa_nil)))) pa_nil)))))) pss_never pss_nil)
        (pss_mid (ps_set (i := 7) scLaw.nd rfl (.inr rfl) (pe_ix ix_list (pe_lst (pa_cons pe_non (pa_cons (pe_lst (pa_cons pe_str pa_nil)) (pa_cons (pe_tup (pa_cons pe_str (pa_cons pe_str pa_nil))) (pa_cons pe_str (pa_cons (pe_tup (pa_cons pe_str (pa_cons pe_str pa_nil))) (pa_cons (pe_tup (pa_cons pe_int pa_nil)) (pa_cons (pe_tup (pa_cons pe_str pa_nil)) (pa_cons pe_int (pa_cons (pe_tup (pa_cons pe_str pa_nil)) pa_nil))))))))))
            (pe_call G2 hr (by rfl) m2 k2 b2 .nil pass0 (pa_cons (pv 3) (pa_cons pe_int pa_nil))) (fun _ _ => rfl)))
        (pss_cons (ps_if (pt_cmpR (op_neD hr.units) (pe_lc (own := [("way", 10)]) (g := gName 10) (by rfl) scLaw.nd (pi_range1 rfl T.range (pa_cons pe_int pa_nil)) (blkOk_by (N := nLaw) (sc := defScope sLaw) (by decide +kernel))
              (fun _ _ _ _ _ => pg_name (i := 10) scLaw.nd rfl (Or.inl rfl)) (fun _ _ _ _ _ => pts_nil) (fun _ _ _ _ _ => pe_call G6 hr (by rfl) m6 k6 b6 .nil pass0 (pa_cons (pv 10) (pa_cons (pe_cmeth (pe_glob (v := .ref C) (by rfl) mC rfl) cr cm GO hr pass0 (pa_cons (pv 6) pa_nil)) (pa_cons (pv 7) (pa_cons (pv 7) pa_nil))))))
            (pe_op op_rep (pe_lst (pa_cons (pe_lst (pa_cons pe_str (pa_cons (pv 7) pa_nil))) pa_nil)) pe_int) (nomark _)) pss_never pss_nil)
        (pss_mid (ps_set (i := 8) scLaw.nd rfl (.inr rfl) (pe_ix ix_list (pe_lst (pa_cons pe_non (pa_cons (pe_lst (pa_cons pe_str pa_nil)) (pa_cons (pe_tup (pa_cons pe_str (pa_cons pe_str pa_nil))) (pa_cons pe_int (pa_cons (pe_tup pa_nil) (pa_cons (pe_tup (pa_cons pe_str pa_nil)) pa_nil)))))))
            (pe_call G2 hr (by rfl) m2 k2 b2 .nil pass0 (pa_cons (pv 3) (pa_cons pe_int pa_nil))) (fun _ _ => rfl)))
        (pss_cons (ps_if (pt_cmpR (op_neD hr.units) (pe_lc (own := [("way", 10)]) (g := gName 10) (by rfl) scLaw.nd (pi_range1 rfl T.range (pa_cons pe_int pa_nil)) (blkOk_by (N := nLaw) (sc := defScope sLaw) (by decide +kernel))
              (fun _ _ _ _ _ => pg_name (i := 10) scLaw.nd rfl (Or.inl rfl)) (fun _ _ _ _ _ => pts_nil) (fun _ _ _ _ _ => pe_call G6 hr (by rfl) m6 k6 b6 .nil pass0 (pa_cons (pv 10) (pa_cons (pe_cmeth (pe_glob (v := .ref C) (by rfl) mC rfl) cr cm GO hr pass0 (pa_cons (pv 6) pa_nil)) (pa_cons (pv 7) (pa_cons (pv 8) pa_nil))))))
            (pe_op op_rep (pe_lst (pa_cons (pe_lst (pa_cons pe_str (pa_cons (pv 7) pa_nil))) pa_nil)) pe_int) (nomark _)) pss_never pss_nil)
        (pss_cons (ps_if (pt_cmpR (op_neD hr.units) (pe_lc (own := [("way", 10)]) (g := gName 10) (by rfl) scLaw.nd (pi_range1 rfl T.range (pa_cons pe_int pa_nil)) (blkOk_by (N := nLaw) (sc := defScope sLaw) (by decide +kernel))
              (fun _ _ _ _ _ => pg_name (i := 10) scLaw.nd rfl (Or.inl rfl)) (fun _ _ _ _ _ => pts_nil) (fun _ _ _ _ _ => pe_call G6 hr (by rfl) m6 k6 b6 .nil pass0 (pa_cons (pv 10) (pa_cons (pv 7) (pa_cons (pv 7) (pa_cons (pv 8) pa_nil))))))
            (pe_op op_rep (pe_lst (pa_cons (pe_lst (pa_cons pe_str (pa_cons (pv 7) pa_nil))) pa_nil)) pe_int) (nomark _)) pss_never pss_nil)
        (pss_cons (ps_set (i := 9) scLaw.nd rfl (.inr rfl) (pe_tup (pa_cons (pe_tup (pa_cons pe_str pa_nil)) (pa_cons (pe_tup pa_nil) (pa_cons (pe_tup pa_nil) (pa_cons (pe_tup pa_nil) pa_nil))))))
        (pss_one (ps_if (pt_cmpR (op_neD hr.units) (pe_lc (own := [("way", 10)]) (g := gName 10) (by rfl) scLaw.nd (pi_range1 rfl T.range (pa_cons pe_int pa_nil)) (blkOk_by (N := nLaw) (sc := defScope sLaw) (by decide +kernel))
              (fun _ _ _ _ _ => pg_name (i := 10) scLaw.nd rfl (Or.inl rfl)) (fun _ _ _ _ _ => pts_nil) (fun _ _ _ _ _ => pe_call G6 hr (by rfl) m6 k6 b6 .nil pass0 (pa_cons (pv 10) (pa_cons (pv 9) (pa_cons (pe_tup (pa_cons pe_str pa_nil)) (pa_cons (pe_tup (pa_cons pe_str pa_nil)) pa_nil))))))
            (pe_op op_rep (pe_lst (pa_cons (pe_lst (pa_cons pe_str (pa_cons (pv 9) pa_nil))) pa_nil)) pe_int) (nomark _)) pss_never pss_nil)))))))))))
      (pss_one (ps_if (PW.pt (pw_or (pt_cmpR op_notBl (pe_callK0 G7 hr (by rfl) m7 k7 kb7 passNo (pk_cons (pe_tup (pa_cons pe_str pa_nil)) (pk_cons (pe_makeR0 M GI hr (by rfl) mC pass0) pk_nil)) (by rfl) (by rfl) (by rfl) (by rfl) (by rfl)) pe_bl (nomark _))
          (pw_or1 (pt_cmpR (op_neP NE GE hr pass0) (pe_callN G8 hr (by rfl) m8 k8 kb8 passNo (pa_cons (pe_makeR0 M GI hr (by rfl) mC pass0) pa_nil) (pk_cons (pe_tup pa_nil) pk_nil)) (pe_makeR0 M GI hr (by rfl) mC pass0) (nomark _))))) pss_never pss_nil))))))
    (pss_one (ps_ret (pe_cmpR (op_eqP hE iE GE (hr.mono (Nat.le_succ k)) pass0) (pe_callK0 G9 hr (by rfl) m9 k9 kb9 passNo (pk_cons (StX.pe_makeR M GI hr (by rfl) mC pass0 (pa_cons (pe_tup (pa_cons (pe_tup pa_nil) (pa_cons (pe_tup (pa_cons pe_str pa_nil)) (pa_cons (pe_tup pa_nil) (pa_cons (pe_tup (pa_cons pe_str pa_nil)) pa_nil))))) pa_nil)) (pk_cons (pe_tup (pa_cons pe_str pa_nil)) (pk_cons (pe_tup (pa_cons pe_str pa_nil)) pk_nil))) (by rfl) (by rfl) (by rfl) (by rfl) (by rfl))
      (StX.pe_makeR M GI hr (by rfl) mC pass0 (pa_cons (pe_tup (pa_cons (pe_tup pa_nil) (pa_cons (pe_tup pa_nil) (pa_cons (pe_tup pa_nil) (pa_cons (pe_tup (pa_cons pe_str pa_nil)) pa_nil))))) pa_nil)) (nomark _))))), ?_⟩
  refine ⟨by show 6 ≤ sizeLine; decide, fun e1 he1 => ?_⟩
  have s1 := same_new he1 (.lst (poolW.map V.str))
  let HP0 : Hp := upd H e1 (.lst (poolW.map V.str))
  obtain ⟨n0, hn0, hn1⟩ : ∃ n0 : Nat, (1 + (if ((ns.map V.int).length : Int) < 5 then ((ns.map V.int).length : Int) else 5)) = (n0 : Int) ∧ n0 ≤ 6 := by
    rw [List.length_map]
    by_cases c : (ns.length : Int) < 5
    · rw [if_pos c]
      exact ⟨1 + ns.length, by omega, by omega⟩
    · rw [if_neg c]
      exact ⟨6, by omega, by omega⟩
  refine ⟨.ref a, rfl, a, _, rfl, .inl (s1.seq hS), 5, ((ns.map V.int).length : Int), rfl, _, _, rfl, rfl, _, rfl, ?_⟩
  rw [hn0]
  refine ⟨by omega, by omega, ?_⟩
  refine for_range (n := (n0 : Int).toNat) (fun i σ H1 => (∃ y2 y3 y4 y5 y6 y7 y8 y9, σ = [some (.ref a), some (.ref e1), y2, y3, y4, y5, y6, y7, y8, y9, none]) ∧ Same HP0 H1) ⟨⟨_, _, _, _, _, _, _, _, rfl⟩, fun _ _ e => e⟩ (fun i σ HA hi hI => ?_) (fun σ H1 hI => ?_)
  · obtain ⟨⟨y2, y3, y4, y5, y6, y7, y8, y9, rfl⟩, smA⟩ := hI
    have hi6 : i < 6 := by omega
    -- the purse
    refine ⟨.ref a, rfl, .int (0 + (i : Int)), rfl, a, ns, i, ?_, (s1.trans smA).seq hS, hl, by omega, fun HB p sAB hpn hP0 => ?_⟩
    · rw [Int.zero_add]
      rfl
    have up : ∀ H', Bar p HB H' → Same HP0 H' := fun H' b c u e => b c u (fun z => by
      have := smA _ _ e
      rw [z, hpn] at this
      cases this) (sAB _ _ (smA _ _ e))
    have hp1 : HB e1 = some (.lst (poolW.map V.str)) := (smA.trans sAB) _ _ upd_same
    have ne1 : e1 ≠ p := fun z => by
      have := smA _ _ (upd_same : HP0 e1 = _)
      rw [z, hpn] at this
      cases this
    -- the letters
    refine ⟨.ref e1, rfl, .ref p, rfl, p, 5, _, rfl, hP0, by omega, by decide, by decide, fun r us r0 r1 hP1 => ?_⟩
    obtain ⟨m, rfl⟩ := Int.eq_ofNat_of_zero_le r0
    have bar1 : Bar p HB (upd HB p (.lst us)) := .draw
    refine ⟨2, (m : Int), rfl, rfl, _, rfl, e1, _, rfl, SqL.of (bar1 _ _ ne1 hp1), fun lL hlL => ?_⟩
    have ec : cutV (poolW.map V.str) none (some (2 + (m : Int))) = (poolW.take (min (2 + m) 6)).map V.str := by
      have z := cut_pool m
      rw [show ((2 + m : Nat) : Int) = 2 + (m : Int) by omega] at z
      exact z
    let lets : W := poolW.take (min (2 + m) 6)
    let HC : Hp := upd (upd HB p (.lst us)) lL (.lst (cutV (poolW.map V.str) none (some (2 + (m : Int)))))
    have hL : HC lL = some (.lst (lets.map V.str)) := by
      show upd _ _ _ lL = _
      rw [upd_same, ec]
    have sC : Same (upd HB p (.lst us)) HC := same_new hlL _
    have barC : Bar p HB HC := bar1.trans (.same sC)
    have puC : Pur HC p (100000 + 1) := hP1.same sC
    have nlp : lL ≠ p := hP1.some hlL
    have hlets : IsW lets := isW_sub isW_pool (List.take_sublist _ _)
    have ln : 1 ≤ lets.length := by
      show 1 ≤ (poolW.take (min (2 + m) 6)).length
      rw [List.length_take]
      show 1 ≤ min (min (2 + m) 6) 6
      omega
    refine ⟨4, rfl, by decide, by decide, for_range (n := 4) (fun j σ H1 => (∃ y5 y6 y7 y8 y9, σ = [some (.ref a), some (.ref e1), some (.int (0 + (i : Int))), some (.ref p), some (.ref lL), y5, y6, y7, y8, y9, none]) ∧ Bar p HC H1 ∧ Pur H1 p (100010 + 6000 * j)) ⟨⟨_, _, _, _, _, rfl⟩, fun _ _ _ e => e, puC.le (by omega)⟩ (fun j σ H1 hj hI => ?_) (fun σ HD hI => ?_)⟩
    · obtain ⟨⟨y5, y6, y7, y8, y9, rfl⟩, bar, pu⟩ := hI
      refine ⟨.ref p, rfl, .ref lL, rfl, p, lL, _, lets, rfl, pu, by omega, nlp, bar _ _ nlp hL, ln, hlets, fun H2 aR ys S L bar2 pu2 hnR hR hys hSrt few hRIn => ?_⟩
      have naR : aR ≠ p := pu.some hnR
      have hIs : ∀ r ∈ S, IsR r := fun r hr => (hRIn r hr).1
      refine ⟨.ref p, rfl, .ref aR, rfl, .ref p, rfl, .ref aR, rfl, .ref lL, rfl, p, aR, lL, _, lets, ys, S, rfl, pu2, by omega, nlp, bar2 _ _ nlp (bar _ _ nlp hL), ln, hlets, naR, hR, hys, hRIn, fun H3 t lot bar3 pu3 ht hlot hsub => ?_⟩
      refine ⟨p, aR, t, _, ys, S, L, lot, rfl, pu3, by omega, naR, bar3 _ _ naR hR, (bar3.stay pu2.mut).dpAll _ _ (okDs_rd S) hys, hSrt, hIs, few, ht, hlot, fun z hz => List.mem_of_mem_take (hsub z hz), fun H4 bar4 pu4 => ⟨_, rfl, iteF ?_⟩⟩
      have bar24 : Bar p H2 H4 := bar3.trans bar4
      have bar04 : Bar p HC H4 := bar.trans (bar2.trans bar24)
      -- the rules stay
      have atR : ∀ H', Bar p H4 H' → H' aR = some (.lst ys) := fun H' b => (bar24.trans b) _ _ naR hR
      have atRs : ∀ H', Bar p H4 H' → DpAll K H' ys (S.map rd) := fun H' b => ((bar24.trans b).stay pu2.mut).dpAll _ _ (okDs_rd S) hys
      -- odd
      refine ⟨fun σ H5 => ∃ x d, σ = [some (.ref a), some (.ref e1), some (.int (0 + (i : Int))), some (.ref p), some (.ref lL), some (.int (0 + (j : Int))), some (.ref aR), some x, y8, y9, none] ∧ Bar p H4 H5 ∧ Pur H5 p (100010 + 6000 * j + 5150) ∧ (∀ H', Bar p H5 H' → Dp K H' x d) ∧ oddW d ∧ d.canLay0 = true ∧ d.depth ≤ 10 ∧ worldD d = false, ?_, ?_⟩
      · refine ⟨by show 1 ≤ sizeLine; decide, fun u1 h1 => ?_⟩
        have v1 := same_new h1 (.lst [.str "a"])
        refine ⟨by show 2 ≤ sizeLine; decide, fun u3 h3 => ?_⟩
        have v3 := same_new h3 (.tup [.str "b", .str "a"])
        refine ⟨by show 2 ≤ sizeLine; decide, fun u5 h5 => ?_⟩
        have v5 := same_new h5 (.tup [.str "a", .str "a"])
        refine ⟨by show 1 ≤ sizeLine; decide, fun u6 h6 => ?_⟩
        have v6 := same_new h6 (.tup [.int 7])
        refine ⟨by show 1 ≤ sizeLine; decide, fun u7 h7 => ?_⟩
        have v7 := same_new h7 (.tup [.str "A"])
        refine ⟨by show 1 ≤ sizeLine; decide, fun u8 h8 => ?_⟩
        have v8 := same_new h8 (.tup [.str "not"])
        refine ⟨by show 9 ≤ sizeLine; decide, fun u9 h9 => ?_⟩
        have v9 := same_new h9 (.lst [.non, .ref u1, .ref u3, .str "a", .ref u5, .ref u6, .ref u7, .int 7, .ref u8])
        have v89 := v8.trans v9
        have v79 := v7.trans v89
        have v69 := v6.trans v79
        have v59 := v5.trans v69
        have v39 := v3.trans v59
        have v19 := v1.trans v39
        have pu9 := pu4.same v19
        refine ⟨.ref p, rfl, p, 9, _, rfl, pu9, by omega, by decide, by decide, fun r us r0 r1 pu10 => ?_⟩
        have n1 : u1 ≠ p := pu4.some h1
        have n9 : u9 ≠ p := (pu4.same (v1.trans (v3.trans (v5.trans (v6.trans (v7.trans v8)))))).some h9
        have all9 : ∀ H', Bar p _ H' → DpAll K H' [.non, .ref u1, .ref u3, .str "a", .ref u5, .ref u6, .ref u7, .int 7, .ref u8] oddDA := fun H' b =>
          have st : Stay _ H' := b.stay pu9.mut
          .cons .non (.cons (.lst (SqL.of (b _ _ n1 (v39 _ _ upd_same))) (.cons (.str _) .nil)) (.cons (to_wd (ns := ["b", "a"]) (st.seq (SqT.of (v59 _ _ upd_same)))) (.cons (.str _) (.cons (.tup (st.seq (SqT.of (v69 _ _ upd_same))) (.cons (.str _) (.cons (.str _) .nil))) (.cons (.tup (st.seq (SqT.of (v79 _ _ upd_same))) (.cons (.int _) .nil))
            (.cons (.tup (st.seq (SqT.of (v89 _ _ upd_same))) (.cons (.str _) .nil)) (.cons (.int _) (.cons (.tup (st.seq (SqT.of (v9 _ _ upd_same))) (.cons (.str _) .nil)) .nil))))))))
        obtain ⟨n, rfl⟩ := Int.eq_ofNat_of_zero_le r0
        have lt : n < 9 := by omega
        have hx : ([V.non, .ref u1, .ref u3, .str "a", .ref u5, .ref u6, .ref u7, .int 7, .ref u8] : List V)[n]? = some ([V.non, .ref u1, .ref u3, .str "a", .ref u5, .ref u6, .ref u7, .int 7, .ref u8][n]'lt) := List.getElem?_eq_getElem lt
        have lt2 : n < oddDA.length := lt
        have hd : oddDA[n]? = some (oddDA[n]'lt2) := List.getElem?_eq_getElem lt2
        obtain ⟨g1, g2, g3, g4⟩ := oddDA_ok _ (List.mem_of_getElem? hd)
        refine ⟨u9, _, n, _, rfl, rfl, SqL.of (Bar.draw (p := p) (o := .lst us) _ _ n9 upd_same), (atI_nat hx), ?_⟩
        refine ⟨_, oddDA[n]'lt2, rfl, (Bar.same v19).trans .draw, pu10.le (by omega), fun H' b => ?_, g1, g2, g3, g4⟩
        obtain ⟨d', e', hd'⟩ := dpAll_at' (all9 H' (Bar.draw.trans b)) hx
        rw [hd] at e'
        cases e'
        exact hd'
      · rintro σ H5 ⟨x, d, rfl, bar5, pu5, hxd, hodd, hl1, hl2, hno⟩
        -- all three refuse the names
        refine ⟨3, rfl, by decide, by decide, fun D hD => lc_range (Three H5 D "world" x) (Three.start hD) (fun n H6 n3 h6 => ?_) (fun H6 h6 => ?_)⟩
        · have s6 := h6.1
          have bar6 := bar5.trans (Bar.same (p := p) s6)
          refine ⟨rfl, .int (0 + (n : Int)), rfl, rfl, .ref aR, rfl, aR, ys, S, rfl, .inr (SqL.of (atR _ bar6)), atRs _ bar6, hIs, few, fun H7 v S' s7 hS' few' hv => ?_⟩
          exact ⟨x, rfl, x, rfl, told_badL (by omega) hv (fun r hr => hIs r ((hS'.mem r).mp hr)) few' (hxd _ (.same (s6.trans s7))) hodd hno (hxd _ (.same (s6.trans s7))) hodd fun H8 l s8 hl => h6.step hD n3 (s7.trans s8) hl⟩
        refine ⟨x, rfl, three_ne h6 (hxd _ (.same h6.1)) (by decide +kernel) hl1 hl2 fun H7 s7 => ⟨false, rfl, iteF ?_⟩⟩
        have s57 := h6.1.trans s7
        have bar7 := bar5.trans (Bar.same (p := p) s57)
        have pu7 := pu5.same s57
        have hxd7 : ∀ H', Bar p H7 H' → Dp K H' x d := fun H' b => hxd _ ((Bar.same s57).trans b)
        -- more
        refine ⟨fun σ H8 => ∃ x2 d2, σ = [some (.ref a), some (.ref e1), some (.int (0 + (i : Int))), some (.ref p), some (.ref lL), some (.int (0 + (j : Int))), some (.ref aR), some x, some x2, y9, none] ∧ Bar p H7 H8 ∧ Pur H8 p (100010 + 6000 * j + 5160) ∧ (∀ H', Bar p H8 H' → Dp K H' x2 d2) ∧ oddW d2, ?_, ?_⟩
        · refine ⟨by show 1 ≤ sizeLine; decide, fun u1 h1 => ?_⟩
          have v1 := same_new h1 (.lst [.str "a"])
          refine ⟨by show 2 ≤ sizeLine; decide, fun u3 h3 => ?_⟩
          have v3 := same_new h3 (.tup [.str "b", .str "a"])
          refine ⟨by show 0 ≤ sizeLine; decide, fun u5 h5 => ?_⟩
          have v5 := same_new h5 (.tup [])
          refine ⟨by show 1 ≤ sizeLine; decide, fun u6 h6 => ?_⟩
          have v6 := same_new h6 (.tup [.str "a"])
          refine ⟨by show 6 ≤ sizeLine; decide, fun u9 h9 => ?_⟩
          have v9 := same_new h9 (.lst [.non, .ref u1, .ref u3, .int 7, .ref u5, .ref u6])
          have v69 := v6.trans v9
          have v59 := v5.trans v69
          have v39 := v3.trans v59
          have v19 := v1.trans v39
          have pu9 := pu7.same v19
          refine ⟨.ref p, rfl, p, 6, _, rfl, pu9, by omega, by decide, by decide, fun r us r0 r1 pu10 => ?_⟩
          have n1 : u1 ≠ p := pu7.some h1
          have n9 : u9 ≠ p := (pu7.same (v1.trans (v3.trans (v5.trans v6)))).some h9
          have all9 : ∀ H', Bar p _ H' → DpAll K H' [.non, .ref u1, .ref u3, .int 7, .ref u5, .ref u6] oddDB := fun H' b =>
            have st : Stay _ H' := b.stay pu9.mut
            .cons .non (.cons (.lst (SqL.of (b _ _ n1 (v39 _ _ upd_same))) (.cons (.str _) .nil)) (.cons (to_wd (ns := ["b", "a"]) (st.seq (SqT.of (v59 _ _ upd_same)))) (.cons (.int _) (.cons (to_wd (ns := []) (st.seq (SqT.of (v69 _ _ upd_same)))) (.cons (to_wd (ns := ["a"]) (st.seq (SqT.of (v9 _ _ upd_same)))) .nil)))))
          obtain ⟨n, rfl⟩ := Int.eq_ofNat_of_zero_le r0
          have lt : n < 6 := by omega
          have hx : ([V.non, .ref u1, .ref u3, .int 7, .ref u5, .ref u6] : List V)[n]? = some ([V.non, .ref u1, .ref u3, .int 7, .ref u5, .ref u6][n]'lt) := List.getElem?_eq_getElem lt
          have lt2 : n < oddDB.length := lt
          have hd : oddDB[n]? = some (oddDB[n]'lt2) := List.getElem?_eq_getElem lt2
          refine ⟨u9, _, n, _, rfl, rfl, SqL.of (Bar.draw (p := p) (o := .lst us) _ _ n9 upd_same), (atI_nat hx), ?_⟩
          refine ⟨_, oddDB[n]'lt2, rfl, (Bar.same v19).trans .draw, pu10.le (by omega), fun H' b => ?_, oddDB_ok _ (List.mem_of_getElem? hd)⟩
          obtain ⟨d', e', hd'⟩ := dpAll_at' (all9 H' (Bar.draw.trans b)) hx
          rw [hd] at e'
          cases e'
          exact hd'
        · rintro σ H8 ⟨x2, d2, rfl, bar8, pu8, hxd2, hodd2⟩
          have bar48 := bar7.trans bar8
          have hxd8 : ∀ H', Bar p H8 H' → Dp K H' x d := fun H' b => hxd7 _ (bar8.trans b)
          refine ⟨3, rfl, by decide, by decide, fun D hD => lc_range (Three H8 D "world" x) (Three.start hD) (fun n H6 n3 h6 => ?_) (fun H9 h9 => ?_)⟩
          · have s6 := h6.1
            have bar6 := bar48.trans (Bar.same (p := p) s6)
            refine ⟨rfl, .int (0 + (n : Int)), rfl, rfl, .ref aR, rfl, aR, ys, S, rfl, .inr (SqL.of (atR _ bar6)), atRs _ bar6, hIs, few, fun H7 v S' s7 hS' few' hv => ?_⟩
            exact ⟨x, rfl, x2, rfl, told_badL (by omega) hv (fun r hr => hIs r ((hS'.mem r).mp hr)) few' (hxd8 _ (.same (s6.trans s7))) hodd hno (hxd2 _ (.same (s6.trans s7))) hodd2 fun H8 l s8 hl => h6.step hD n3 (s7.trans s8) hl⟩
          refine ⟨x, rfl, three_ne h9 (hxd8 _ (.same h9.1)) (by decide +kernel) hl1 hl2 fun H10 s10 => ⟨false, rfl, iteF ?_⟩⟩
          have t10 := h9.1.trans s10
          -- no program
          refine ⟨3, rfl, by decide, by decide, fun D2 hD2 => lc_range (Three H10 D2 "program" x) (Three.start hD2) (fun n H6 n3 h6 => ?_) (fun H11 h11 => ?_)⟩
          · have s6 := t10.trans h6.1
            exact ⟨rfl, .int (0 + (n : Int)), rfl, x, rfl, x, rfl, x2, rfl, told_progL (by omega) (hxd8 _ (.same s6)) (hxd2 _ (.same s6)) hodd2 fun H8 l s8 hl => h6.step hD2 n3 s8 hl⟩
          refine ⟨x, rfl, three_ne h11 (hxd8 _ (.same (t10.trans h11.1))) (by decide +kernel) hl1 hl2 fun H12 s12 => ⟨false, rfl, iteF ?_⟩⟩
          have t12 := t10.trans (h11.1.trans s12)
          -- a rule is no program
          refine ⟨by show 1 ≤ sizeLine; decide, fun w1 hw1 => ?_⟩
          have z1 := same_new hw1 (.tup [.str "a"])
          refine ⟨by show 0 ≤ sizeLine; decide, fun w2 hw2 => ?_⟩
          have z2 := same_new hw2 (.tup [])
          refine ⟨by show 0 ≤ sizeLine; decide, fun w3 hw3 => ?_⟩
          have z3 := same_new hw3 (.tup [])
          refine ⟨by show 0 ≤ sizeLine; decide, fun w4 hw4 => ?_⟩
          have z4 := same_new hw4 (.tup [])
          refine ⟨by show 4 ≤ sizeLine; decide, fun w5 hw5 => ?_⟩
          have z5 := same_new hw5 (.tup [.ref w1, .ref w2, .ref w3, .ref w4])
          let H13 : Hp := upd (upd (upd (upd (upd H12 w1 (.tup [.str "a"])) w2 (.tup [])) w3 (.tup [])) w4 (.tup [])) w5 (.tup [.ref w1, .ref w2, .ref w3, .ref w4])
          have rowDp : Dp K H13 (.ref w5) (rd rowA) := .tup (SqT.of upd_same) (.cons (to_wd (ns := ["a"]) (SqT.of ((z2.trans (z3.trans (z4.trans z5))) _ _ upd_same))) (.cons (to_wd (ns := []) (SqT.of ((z3.trans (z4.trans z5)) _ _ upd_same))) (.cons (to_wd (ns := []) (SqT.of ((z4.trans z5) _ _ upd_same))) (.cons (to_wd (ns := []) (SqT.of (z5 _ _ upd_same))) .nil))))
          refine ⟨3, rfl, by decide, by decide, fun D3 hD3 => lc_range (Three H13 D3 "program" (.ref w5)) (Three.start hD3) (fun n H6 n3 h6 => ?_) (fun H14 h14 => ?_)⟩
          · refine ⟨rfl, .int (0 + (n : Int)), rfl, .ref w5, rfl, by show 1 ≤ sizeLine; decide, fun ta hta => ⟨by show 1 ≤ sizeLine; decide, fun tb htb => ?_⟩⟩
            have x1 := same_new hta (.tup [.str "a"])
            have x2 := same_new htb (.tup [.str "b"])
            exact told_progL (by omega) (dp_same (h6.1.trans (x1.trans x2)) _ _ rowDp) (to_wd (ns := ["b"]) (SqT.of upd_same)) (oddW_wd isW_b) fun H8 l s8 hl => h6.step hD3 n3 (x1.trans (x2.trans s8)) hl
          refine ⟨.ref w5, rfl, three_ne h14 (dp_same h14.1 _ _ rowDp) (by decide +kernel) (lay_rd isR_A) (Nat.le_trans (depth_rd _) (by decide)) fun H15 s15 => ⟨false, rfl, iteF ?_⟩⟩
          have t15 := t12.trans (z1.trans (z2.trans (z3.trans (z4.trans (z5.trans (h14.1.trans s15))))))
          exact ⟨⟨_, _, _, _, _, rfl⟩, bar04.trans (bar48.trans (.same t15)), (pu8.same t15).le (by omega)⟩
    · obtain ⟨⟨y5, y6, y7, y8, y9, rfl⟩, barD, puD⟩ := hI
      have smD : Same HP0 HD := up _ (barC.trans barD)
      -- splits(names=("more",), program=Program())
      refine ⟨by show 1 ≤ sizeLine; decide, fun t ht => make0_ok fun H1 v S s1 hS few hv => ?_⟩
      obtain rfl := srt_nil hS
      have st := same_new ht (.tup [.str "more"])
      refine ⟨rfl, ?_⟩
      refine ⟨v, .ref t, rfl, .inl ⟨[], wd ["more"], hv, (fun _ z => nomatch z), by decide, dp_same s1 _ _ (to_wd (ns := ["more"]) (SqT.of upd_same)), oddW_wd isW_more, fun H2 s2 => ⟨fun ns' hn' e' => ?_, fun e' => by rw [worldD_wd isW_more] at e'; exact nomatch e'⟩⟩⟩
      refine ⟨true, true, rfl, rfl, false, rfl, iteF ?_⟩
      have sA := st.trans (s1.trans s2)
      -- lower(Program(), names=()) != Program()
      dsimp only [tTest, tOp, tCallN, tCons]
      refine make0_ok fun H3 v3 S3 s3 hS3 few3 hv3 => ?_
      obtain rfl := srt_nil hS3
      refine ⟨by show 0 ≤ sizeLine; decide, fun t3 ht3 => ⟨rfl, rfl, ?_⟩⟩
      have st3 := same_new ht3 (.tup [])
      refine ⟨v3, .ref t3, rfl, split_X (hv3.same st3) (fun _ z => nomatch z) (by decide) isW_nil (to_wd (ns := []) (SqT.of upd_same)) rfl fun H4 s4 H5 u S5 s5 hS5 few5 hu => ?_⟩
      obtain rfl := srt_nil hS5
      refine make0_ok fun H6 v6 S6 s6 hS6 few6 hv6 => ?_
      obtain rfl := srt_nil hS6
      have hu6 := hu.same s6
      obtain ⟨a1, d1, _, _, rfl, g1, _, _⟩ := id hu6
      obtain ⟨a2, d2, _, _, rfl, g2, _, _⟩ := id hv6
      refine ⟨a1, d1, _, a2, d2, _, rfl, rfl, g1, g2, .ref a1, .ref a2, [], rfl, hu6, hv6, (fun _ z => nomatch z), true, rfl, false, rfl, iteF ?_⟩
      exact ⟨⟨_, _, _, _, _, _, _, _, rfl⟩, smD.trans (sA.trans (s3.trans (st3.trans (s4.trans (s5.trans s6)))))⟩
  · obtain ⟨⟨y2, y3, y4, y5, y6, y7, y8, y9, rfl⟩, sm⟩ := hI
    -- rest(program=.., world=.., names=..) == Program(..)
    dsimp only [tRet, tOp]
    refine makeRow_ok rowR0 isR_R0 (fun Q2 q2 => ⟨by show 0 ≤ sizeLine; decide, fun t1 ht1 => ⟨by show 1 ≤ sizeLine; decide, fun t2 ht2 => ⟨by show 0 ≤ sizeLine; decide, fun t3 ht3 => ⟨by show 1 ≤ sizeLine; decide, fun t4 ht4 => ⟨by show 4 ≤ sizeLine; decide, fun t5 ht5 => ?_⟩⟩⟩⟩⟩) fun H2 v S s2 hS few hv => ?_
    · have u1 := same_new ht1 (.tup [])
      have u2 := same_new ht2 (.tup [.str "a"])
      have u3 := same_new ht3 (.tup [])
      have u4 := same_new ht4 (.tup [.str "b"])
      have u5 := same_new ht5 (.tup [.ref t1, .ref t2, .ref t3, .ref t4])
      exact q2 _ (.ref t5) (u1.trans (u2.trans (u3.trans (u4.trans u5)))) (.tup (SqT.of upd_same) (.cons (to_wd (ns := []) (SqT.of ((u2.trans (u3.trans (u4.trans u5))) _ _ upd_same))) (.cons (to_wd (ns := ["a"]) (SqT.of ((u3.trans (u4.trans u5)) _ _ upd_same))) (.cons (to_wd (ns := []) (SqT.of ((u4.trans u5) _ _ upd_same))) (.cons (to_wd (ns := ["b"]) (SqT.of (u5 _ _ upd_same))) .nil)))))
    obtain rfl := srt_one hS
    refine ⟨by show 1 ≤ sizeLine; decide, fun tw htw => ⟨by show 1 ≤ sizeLine; decide, fun tn htn => ⟨rfl, ?_⟩⟩⟩
    have uw := same_new htw (.tup [.str "a"])
    have un := same_new htn (.tup [.str "a"])
    have hI0 : ∀ r ∈ [rowR0], IsR r := fun r hr => by rw [List.mem_singleton.mp hr]; exact isR_R0
    refine ⟨v, .ref tn, .ref tw, wd ["a"], rfl, to_wd (ns := ["a"]) (SqT.of (un _ _ upd_same)), oddW_wd isW_a, split_X (hv.same (uw.trans un)) hI0 (by decide) isW_a (to_wd (ns := ["a"]) (SqT.of upd_same)) split_R fun H3 s3 H4 s4 => ⟨fun ws hws ew h3 H5 u S2 s5 hS2 few2 hu => ?_, fun b => ?_⟩⟩
    · have := wd_inj ew
      subst this
      rw [rest_R] at hS2
      obtain rfl := srt_one hS2
      refine makeRow_ok rowR1 isR_R1 (fun Q2 q2 => ⟨by show 0 ≤ sizeLine; decide, fun p1 hp1 => ⟨by show 0 ≤ sizeLine; decide, fun p2 hp2 => ⟨by show 0 ≤ sizeLine; decide, fun p3 hp3 => ⟨by show 1 ≤ sizeLine; decide, fun p4 hp4 => ⟨by show 4 ≤ sizeLine; decide, fun p5 hp5 => ?_⟩⟩⟩⟩⟩) fun H6 v6 S6 s6 hS6 few6 hv6 => ?_
      · have q1 := same_new hp1 (.tup [])
        have q2' := same_new hp2 (.tup [])
        have q3 := same_new hp3 (.tup [])
        have q4 := same_new hp4 (.tup [.str "b"])
        have q5 := same_new hp5 (.tup [.ref p1, .ref p2, .ref p3, .ref p4])
        exact q2 _ (.ref p5) (q1.trans (q2'.trans (q3.trans (q4.trans q5)))) (.tup (SqT.of upd_same) (.cons (to_wd (ns := []) (SqT.of ((q2'.trans (q3.trans (q4.trans q5))) _ _ upd_same))) (.cons (to_wd (ns := []) (SqT.of ((q3.trans (q4.trans q5)) _ _ upd_same))) (.cons (to_wd (ns := []) (SqT.of ((q4.trans q5) _ _ upd_same))) (.cons (to_wd (ns := ["b"]) (SqT.of (q5 _ _ upd_same))) .nil)))))
      obtain rfl := srt_one hS6
      have hu6 := hu.same s6
      obtain ⟨a1, d1, _, _, rfl, g1, _, _⟩ := id hu6
      obtain ⟨a2, d2, _, _, rfl, g2, _, _⟩ := id hv6
      exact ⟨a1, d1, _, a2, d2, _, rfl, rfl, g1, g2, .ref a1, .ref a2, [rowR1], rfl, hu6, hv6, (fun r hr => by rw [List.mem_singleton.mp hr]; exact isR_R1), q _⟩
    · have := b ["a"] isW_a rfl
      exact absurd this (by decide +kernel)
end
end Rw
namespace Rw
open PySem PySem.Spec PyProof.Rows L2
/-! ### a head that tells of defs anywhere, and more -/
def hookY (n : Nat) (fa : List He.Fa) (fn : List He5.DefA) (ex : PySem.W.Frag → Bool) : PySem.W.Hook where
  α := He.AlD × Bool
  obs s := (He5.obsAG n fa fn s.heap.get?, ex (He.frG s.heap.get? (He5.asA s.heap.get? n)))
  val _ := (He5.valA fn, true)
  says _ h := ∃ K : PySem.W.Frag, K.In h ∧ He5.SaysA fa fn K ∧ ex K = true
  of _ s e := ⟨_, He.frG_in, (Prod.mk.inj e).1, (Prod.mk.inj e).2⟩
  keeps _ _ _ | ⟨K, X, a, b⟩, k => ⟨K, fun c o e => k _ _ (X c o e), a, b⟩
def obY (n : Nat) (fa : List He.Fa) (fn : List He5.DefA) (ex : PySem.W.Frag → Bool) (g : Addr → Option Obj) : He.AlD × Bool := (He5.obsAG n fa fn g, ex (He.frG g (He5.asA g n)))
theorem obY_eq {n : Nat} {fa : List He.Fa} {fn : List He5.DefA} {ex : PySem.W.Frag → Bool} {g : Addr → Option Obj} {s : Shared} (h : ∀ a, g a = s.heap.get? a) : obY n fa fn ex g = (hookY n fa fn ex).obs s := by
  have e : g = s.heap.get? := funext h
  subst e
  rfl
/-! ### what a class is, as a test -/
def clsB (K : PySem.W.Frag) (C : Addr) (f : List Value → Addr → Bool → Bool) (nid : String) : Bool :=
  match K.lookup C with
  | some ⟨.type t, _, .cls cd, sl⟩ => decide (t = "type" ∧ cd.hasDel = false) && (decide (cd.mro = .ref C :: cd.mro.tail) && (f cd.mro.tail cd.ns cd.hasDict && (match sl with | ⟨[_, _, _, _, some (.builtin i), _]⟩ => decide (i = nid) | _ => false)))
  | _ => false
theorem clsB_ok {K : PySem.W.Frag} {C : Addr} {f : List Value → Addr → Bool → Bool} {nid : String} (h : clsB K C f nid = true) : ∃ nm q N bs bm hd sn sub ab col dd k0 k1 k2 k3 k5, K.lookup C = some (excClassObj nm q C N bs bm hd sn sub ab col dd k0 k1 k2 k3 k5 nid) ∧ f bm N hd = true := by
  unfold clsB at h
  split at h
  · rename_i t dd cd sl e
    rw [Bool.and_eq_true, Bool.and_eq_true, Bool.and_eq_true] at h
    obtain ⟨h1, h2, h3, h4⟩ := h
    obtain ⟨h1, h0⟩ := of_decide_eq_true h1
    have h2 := of_decide_eq_true h2
    split at h4
    · rename_i k0 k1 k2 k3 i k5
      have h4 := of_decide_eq_true h4
      subst h1 h4
      obtain ⟨nm, bs, mro, ns, q, hd, sn, sub, ab, col, del⟩ := cd
      refine ⟨nm, q, ns, bs, mro.tail, hd, sn, sub, ab, col, dd, k0, k1, k2, k3, k5, ?_, h3⟩
      rw [e]
      have h2' : mro = .ref C :: mro.tail := h2
      have h0' : del = false := h0
      subst h0'
      unfold excClassObj
      rw [← h2']
    · exact nomatch h4
  · exact nomatch h
def strKeysB (es : Array DictEntry) : Bool := es.toList.all fun e => match e.key with | .str _ _ => true | _ => false
theorem strKeysB_ok {es : Array DictEntry} (h : strKeysB es = true) : StrKeys es := fun e he => by
  have z := List.all_eq_true.mp h e (Array.mem_toList_iff.mpr he)
  split at z
  · exact ⟨_, _, by assumption⟩
  · exact nomatch z
def nsB (K : PySem.W.Frag) (N g : Addr) : Bool :=
  match K.lookup N with
  | some ⟨_, _, .dict es _, _⟩ => strKeysB es && (decide (nsFind es "__eq__" = some (.ref g)) && decide (nsFind es "__ne__" = none))
  | _ => false
def fnB (K : PySem.W.Frag) (g : Addr) : Bool :=
  match K.lookup g with
  | some o => decide (o.cls = .type "function")
  | none => false
theorem neC_of {K : PySem.W.Frag} {C g : Addr} (h1 : clsB K C (fun bm N _ => decide (bm = [.type "object"]) && nsB K N g) "object.__new__" = true) (h2 : fnB K g = true) : NeC K C g := by
  obtain ⟨nm, q, N, bs, bm, hd, sn, sub, ab, col, dd, k0, k1, k2, k3, k5, e, hf⟩ := clsB_ok h1
  rw [Bool.and_eq_true] at hf
  obtain ⟨f1, f2⟩ := hf
  have f1 := of_decide_eq_true f1
  subst f1
  constructor
  · unfold nsB at f2
    split at f2
    · rename_i oc od es ep os eN
      rw [Bool.and_eq_true, Bool.and_eq_true] at f2
      obtain ⟨g1, g2, g3⟩ := f2
      exact ⟨nm, q, N, bs, hd, sn, sub, ab, col, dd, k0, k1, k2, k3, k5, "object.__new__", _, es, ep, e, eN, rfl, strKeysB_ok g1, of_decide_eq_true g2, of_decide_eq_true g3⟩
    · exact nomatch f2
  · unfold fnB at h2
    split at h2
    · exact ⟨_, by assumption, of_decide_eq_true h2⟩
    · exact nomatch h2
/-- an own error class, by tests -/
def oexB (K : PySem.W.Frag) (C : Addr) : Bool := clsB K C (fun bm _ hd => hd && HandSPX.refsVE bm) "ValueError.__new__" && (decide (PySem.W.findIn K (.ref C) "__setattr__" = some (some (.builtin "object.__setattr__"))) && (decide (PySem.W.subIn K (.ref C) (.type "BaseException") = some true) && (decide (PySem.W.typeIn K (.ref C) = some (.type "type")) && PySem.W.keepIn K (.ref C))))
theorem oexB_ok {K : PySem.W.Frag} {C : Addr} (h : oexB K C = true) : OexC K C := by
  unfold oexB at h
  rw [Bool.and_eq_true, Bool.and_eq_true, Bool.and_eq_true, Bool.and_eq_true] at h
  obtain ⟨h1, h2, h3, h4, h5⟩ := h
  obtain ⟨nm, q, N, bs, bm, hd, sn, sub, ab, col, dd, k0, k1, k2, k3, k5, e, hf⟩ := clsB_ok h1
  rw [Bool.and_eq_true] at hf
  obtain ⟨f1, f2⟩ := hf
  subst f1
  exact ⟨⟨nm, q, N, bs, bm, sn, sub, ab, col, dd, k0, k1, k2, k3, k5, e, f2⟩, of_decide_eq_true h2, of_decide_eq_true h3, of_decide_eq_true h4, h5⟩
def excP (K : PySem.W.Frag) (D : Addr) : Prop := PySem.W.findIn K (.ref D) "__getattribute__" = some (some (.builtin "BaseException.__getattribute__")) ∧ PySem.W.findIn K (.ref D) "__getattr__" = some none ∧ PySem.W.subIn K (.ref D) (.type "BaseException") = some true ∧ PySem.W.hasDictIn K D = true ∧
  PySem.W.findIn K (.ref D) "__class__" = some (some (.builtin "object.__class__")) ∧ PySem.W.specialIn K (.builtin "object.__class__") "__get__" = some (some (.builtin "getset_descriptor.__get__")) ∧ PySem.W.takesIn K (.builtin "object.__class__") = some true ∧ PySem.W.mroIn K D (.type "object") = some true
instance (K : PySem.W.Frag) (D : Addr) : Decidable (excP K D) := by unfold excP; infer_instance
theorem excP_ok {K : PySem.W.Frag} {D : Addr} (h : excP K D) : ExcC K D := by
  obtain ⟨h1, h2, h3, h4, h5, h6, h7, h8⟩ := h
  exact ⟨h1, h2, h3, h4, h5, h6, h7, h8⟩
def initP (K : PySem.W.Frag) (C : Addr) : Prop := PySem.W.findIn K (.ref C) "__init__" = some (some (.ref (He.ma K C "__init__"))) ∧ PySem.W.typeIn K (.ref (He.ma K C "__init__")) = some (.type "function")
instance (K : PySem.W.Frag) (D : Addr) : Decidable (initP K D) := by unfold initP; infer_instance
def propP (K : PySem.W.Frag) (C : Addr) (f : Str) : Prop := PySem.W.findIn K (.ref C) f = some (some (.ref (He.ma K C f))) ∧ PySem.W.specialIn K (.ref (He.ma K C f)) "__get__" = some (some (.builtin "property.__get__")) ∧ PySem.W.takesIn K (.ref (He.ma K C f)) = some true
instance (K : PySem.W.Frag) (D : Addr) (f : Str) : Decidable (propP K D f) := by unfold propP; infer_instance
def recB (K : PySem.W.Frag) (p : Addr) (T : String) : Bool := match PySem.W.recIn K p T with | some (.ref _ :: _) => true | _ => false
theorem propP_ok {K : PySem.W.Frag} {C : Addr} {f : Str} (h : propP K C f) (r : recB K (He.ma K C f) "property" = true) : PropOf K C f (He.ma K C f) (He5.wf K C "property" f) := by
  obtain ⟨h1, h2, h3⟩ := h
  refine ⟨h1, h2, h3, ?_⟩
  unfold recB at r
  unfold He5.wf
  split at r
  · rename_i a l e
    rw [e]
    exact ⟨_, rfl⟩
  · exact nomatch r
end Rw
namespace Rw
open PySem PySem.Spec PyProof.Rows L2 ClX
/-! ### what the top has written -/
def dOf (x : Str) (st : Stmt) : He5.DefA := ⟨fun K => He.ga K x, x, x, defArgs st, defBody st, defScope st, [], []⟩
def dMInit : He5.DefA := ⟨fun K => He.ma K (He.ga K "Program") "__init__", "__init__", "Program.__init__", defArgs sInit, defBody sInit, defScope sInit, [], []⟩
def dMOf : He5.DefA := ⟨fun K => He5.wf K (He.ga K "Program") "classmethod" "of", "of", "Program.of", defArgs sOf, defBody sOf, defScope sOf, [], []⟩
def dMRules : He5.DefA := ⟨fun K => He5.wf K (He.ga K "Program") "property" "rules", "rules", "Program.rules", defArgs sRules, defBody sRules, defScope sRules, [], []⟩
def dMPEq : He5.DefA := ⟨fun K => He.ma K (He.ga K "Program") "__eq__", "__eq__", "Program.__eq__", defArgs sPEq, defBody sPEq, defScope sPEq, [], []⟩
def dMENotProg : He5.DefA := ⟨fun K => He.ma K (He.ga K "NotAProgram") "__init__", "__init__", "NotAProgram.__init__", defArgs sENotProg, defBody sENotProg, defScope sENotProg, [.non], []⟩
def dMEWorld : He5.DefA := ⟨fun K => He.ma K (He.ga K "InvalidWorld") "__init__", "__init__", "InvalidWorld.__init__", defArgs sEWorld, defBody sEWorld, defScope sEWorld, [.non], []⟩
def dMESplit : He5.DefA := ⟨fun K => He.ma K (He.ga K "NotASplit") "__init__", "__init__", "NotASplit.__init__", defArgs sESplit, defBody sESplit, defScope sESplit, [.non], []⟩
def hfn : List He5.DefA := [dOf "is_name" sIsName, dOf "_are_names" sAreNames, dOf "_set_of" sSetOf, dOf "is_world" sIsWorld, dOf "is_rule" sIsRule, dOf "has_all" sHasAll, dOf "meet" sMeet, dOf "without" sWithout, dOf "_names_in" sNamesIn, dOf "_row_without" sRowWithout, dOf "_asked" sAsked, dOf "_is_asked_for" sIsAskedFor, dOf "check_program" sCheckProgram, dOf "check_world" sCheckWorld, dOf "splits" sSplits, dOf "_check_split" sCheckSplit, dOf "lower" sLower, dOf "rest" sRest, dOf "_law_at" sLawAt, dOf "_law_mixed" sLawMixed, dOf "_law_purse" sLawPurse, dOf "_law_draw" sLawDraw, dOf "_law_some" sLawSome, dOf "_law_rule" sLawRule, dOf "_law_rules" sLawRules, dOf "_law_own" sLawOwn, dOf "_law_splits" sLawSplits, dOf "_law_lot" sLawLot, dOf "_law_rest" sLawRest, dOf "_law_told" sLawTold, dOf "_law_all_split" sLawAllSplit, dOf "_law_right" sLawRight, dOf "law" sLaw, dMInit, dMOf, dMRules, dMPEq, dMENotProg, dMEWorld, dMESplit]
def hfa1 : List He.Fa := [.free "len", .free "isinstance", .free "all", .free "any", .free "tuple", .free "list", .free "sorted", .free "set", .free "str", .free "int", .free "max", .free "min", .free "range", .free "enumerate", .str "LETTERS" lettersS, .glo "Program", .glo "NotAProgram", .glo "InvalidWorld", .glo "NotASplit", .glo "RuleError", .glo "is_name", .glo "_are_names", .glo "_set_of", .glo "is_world", .glo "is_rule", .glo "has_all", .glo "meet", .glo "without", .glo "_names_in", .glo "_row_without"]
def hfa2 : List He.Fa := [.glo "_asked", .glo "_is_asked_for", .glo "check_program", .glo "check_world", .glo "splits", .glo "_check_split", .glo "lower", .glo "rest", .glo "_law_at", .glo "_law_mixed", .glo "_law_purse", .glo "_law_draw", .glo "_law_some", .glo "_law_rule", .glo "_law_rules", .glo "_law_own", .glo "_law_splits", .glo "_law_lot", .glo "_law_rest", .glo "_law_told", .glo "_law_all_split", .glo "_law_right", .glo "law", .cls "Program", .noat "Program" "_rules", .mkr "Program", .meth "Program" "__eq__", .noat "NotAProgram" "thing", .noat "InvalidWorld" "thing", .noat "NotASplit" "thing", .exm "NotAProgram" "RuleError" true, .exm "InvalidWorld" "RuleError" true, .exm "NotASplit" "RuleError" true]
def hfa : List He.Fa := hfa1 ++ hfa2
/-- more of the classes -/
def pgP (K : PySem.W.Frag) (C : Addr) : Prop := PySem.W.kitOne K (.ref C) (.ref C) = some true ∧ PySem.W.kitOne K (.type "NoneType") (.ref C) = some false ∧ PySem.W.kitOne K (.type "bool") (.ref C) = some false ∧ PySem.W.kitOne K (.type "int") (.ref C) = some false ∧ PySem.W.kitOne K (.type "str") (.ref C) = some false ∧
  PySem.W.kitOne K (.type "list") (.ref C) = some false ∧ PySem.W.kitOne K (.type "tuple") (.ref C) = some false ∧ PySem.W.kitOne K (.type "dict") (.ref C) = some false ∧ PySem.W.findIn K (.ref C) "__class__" = some (some (.builtin "object.__class__")) ∧
  PySem.W.specialIn K (.builtin "object.__class__") "__get__" = some (some (.builtin "getset_descriptor.__get__")) ∧ PySem.W.takesIn K (.builtin "object.__class__") = some true ∧ PySem.W.mroIn K C (.type "object") = some true
instance (K : PySem.W.Frag) (C : Addr) : Decidable (pgP K C) := by unfold pgP; infer_instance
def kitP (K : PySem.W.Frag) (P W S : Addr) : Prop := PySem.W.kitOne K (.ref P) (.ref P) = some true ∧ PySem.W.kitOne K (.ref W) (.ref P) = some false ∧ PySem.W.kitOne K (.ref W) (.ref W) = some true ∧ PySem.W.kitOne K (.ref S) (.ref P) = some false ∧ PySem.W.kitOne K (.ref S) (.ref W) = some false ∧ PySem.W.kitOne K (.ref S) (.ref S) = some true
instance (K : PySem.W.Frag) (P W S : Addr) : Decidable (kitP K P W S) := by unfold kitP; infer_instance
def readP (K : PySem.W.Frag) (C : Addr) : Prop := PySem.W.readsIn K C (.type "type") = true ∧ PySem.W.specialIn K (.ref C) "__getattribute__" = some (some (.builtin "type.__getattribute__"))
instance (K : PySem.W.Frag) (C : Addr) : Decidable (readP K C) := by unfold readP; infer_instance
def exL (K : PySem.W.Frag) (C P W S g : Addr) : List Bool := [decide (pgP K C), decide (kitP K P W S), decide (readP K C), oexB K P, oexB K W, oexB K S, decide (excP K P), decide (excP K W), decide (excP K S), decide (initP K P), decide (initP K W), decide (initP K S),
  clsB K C (fun bm N _ => decide (bm = [.type "object"]) && nsB K N g) "object.__new__", fnB K g, decide (propP K C "rules"), recB K (He.ma K C "rules") "property", He5.wrapB K C "classmethod" "classmethod.__get__" "of", PySem.W.fnIn K (He5.wf K C "classmethod" "of")]
def exB (K : PySem.W.Frag) : Bool := (exL K (He.ga K "Program") (He.ga K "NotAProgram") (He.ga K "InvalidWorld") (He.ga K "NotASplit") (He.ma K (He.ga K "Program") "__eq__")).all id
theorem exL_at {K : PySem.W.Frag} {C P W S g : Addr} (h : (exL K C P W S g).all id = true) (i : Nat) {b : Bool} (e : (exL K C P W S g)[i]? = some b) : b = true := List.all_eq_true.mp h b (List.mem_of_getElem? e)
theorem pgC_of {K : PySem.W.Frag} {mg : Str → Option Value} {C : Addr} (h : pgP K C) (m : mg "Program" = some (.ref C)) (c : Cls K C) : PgC K mg C := by
  obtain ⟨h1, h2, h3, h4, h5, h6, h7, h8, h9, h10, h11, h12⟩ := h
  exact ⟨h1, h2, h3, h4, h5, h6, h7, h8, m, c, h9, h10, h11, h12⟩
abbrev hR : PySem.W.OpenRow := PySem.W.OpenLaw.row PySem.Challenge.rw_ruleworlds_k32_splitting
abbrev hH : PySem.W.Hook := hookY 6 hfa hfn exB
def hob (s : PySem.W.SharedT) : He.AlD × Bool := obY 6 hfa hfn exB (HandSHeadRun.getT s)
theorem hob_eq (s : PySem.W.SharedT) : hob s = hH.obs s.abs := obY_eq (HandSHeadRun.getT_eq s)
def hloose1 : List Str := ["_wall", "RuleError", "InvalidRule", "NotAProgram", "InvalidWorld", "Unreadable", "NotASplit", "LETTERS", "NOT", "is_name", "is_world", "is_rule", "Program", "_are_names", "_set_of", "_written_rule", "_with_not", "_read_rule", "_halves", "_without_not", "has_all", "meet", "without", "check_program", "check_world", "splits", "lower", "rest", "_check_split", "_names_in"]
def hloose2 : List Str := ["_row_without", "_asked", "_is_asked_for", "_law_at", "_law_mixed", "_law_purse", "_law_draw", "_law_some", "_law_rule", "_law_rules", "_law_own", "_law_splits", "_law_rest", "_law_told", "_law_lot", "_law_all_split", "_law_right"]
def hloose : List Str := hloose1 ++ hloose2
theorem hrun (w : World) : HandSHeadRun.RunEq hR (PySem.W.view hR.prog [52]) hH hob 9000 hloose w := by
  intro os
  kernel_rfl
theorem hfacts {P : Program} {w : World} {K : PySem.W.Frag} {h : Heap} {mg : Str → Option Value} {f : Addr} (X : K.In h) (G : h.Ns mainGlobals mg) (hfa_ : mg ("law" : Str) = some (.ref f)) (c : He5.SaysA hfa hfn K) (ce : exB K = true) :
    ∃ fd : FuncData, (∀ (s : Shared) (v : Value), BindsTo s fd ⟨[v], []⟩ [("script", v)]) ∧ ∀ base : Heap, K.In base → base.Ns mainGlobals mg → FnOk P w K mg base CX0 11 f fd ["script"] (spLaw K) := by
  obtain ⟨fd0, D0⟩ := c.def_ 0 (d := dOf "is_name" sIsName) rfl
  have F0 : Fun K "is_name" "is_name" sIsName _ fd0 := fun_of D0
  have B0 := D0.bindsN (ps := ["thing"]) fun _ _ _ _ _ _ us hl => match us, hl with | [_], _ => rfl
  have M0 : mg "is_name" = _ := He.glo_ok X G (c.fact 20 (f := .glo "is_name") rfl)
  obtain ⟨fd1, D1⟩ := c.def_ 1 (d := dOf "_are_names" sAreNames) rfl
  have F1 : Fun K "_are_names" "_are_names" sAreNames _ fd1 := fun_of D1
  have B1 := D1.bindsN (ps := ["thing"]) fun _ _ _ _ _ _ us hl => match us, hl with | [_], _ => rfl
  have M1 : mg "_are_names" = _ := He.glo_ok X G (c.fact 21 (f := .glo "_are_names") rfl)
  obtain ⟨fd2, D2⟩ := c.def_ 2 (d := dOf "_set_of" sSetOf) rfl
  have F2 : Fun K "_set_of" "_set_of" sSetOf _ fd2 := fun_of D2
  have B2 := D2.bindsN (ps := ["names"]) fun _ _ _ _ _ _ us hl => match us, hl with | [_], _ => rfl
  have M2 : mg "_set_of" = _ := He.glo_ok X G (c.fact 22 (f := .glo "_set_of") rfl)
  obtain ⟨fd3, D3⟩ := c.def_ 3 (d := dOf "is_world" sIsWorld) rfl
  have F3 : Fun K "is_world" "is_world" sIsWorld _ fd3 := fun_of D3
  have B3 := D3.bindsN (ps := ["thing"]) fun _ _ _ _ _ _ us hl => match us, hl with | [_], _ => rfl
  have M3 : mg "is_world" = _ := He.glo_ok X G (c.fact 23 (f := .glo "is_world") rfl)
  obtain ⟨fd4, D4⟩ := c.def_ 4 (d := dOf "is_rule" sIsRule) rfl
  have F4 : Fun K "is_rule" "is_rule" sIsRule _ fd4 := fun_of D4
  have B4 := D4.bindsN (ps := ["thing"]) fun _ _ _ _ _ _ us hl => match us, hl with | [_], _ => rfl
  have M4 : mg "is_rule" = _ := He.glo_ok X G (c.fact 24 (f := .glo "is_rule") rfl)
  obtain ⟨fd5, D5⟩ := c.def_ 5 (d := dOf "has_all" sHasAll) rfl
  have F5 : Fun K "has_all" "has_all" sHasAll _ fd5 := fun_of D5
  have B5 := D5.bindsN (ps := ["names", "wanted"]) fun _ _ _ _ _ _ us hl => match us, hl with | [_, _], _ => rfl
  have M5 : mg "has_all" = _ := He.glo_ok X G (c.fact 25 (f := .glo "has_all") rfl)
  obtain ⟨fd6, D6⟩ := c.def_ 6 (d := dOf "meet" sMeet) rfl
  have F6 : Fun K "meet" "meet" sMeet _ fd6 := fun_of D6
  have B6 := D6.bindsN (ps := ["one", "other"]) fun _ _ _ _ _ _ us hl => match us, hl with | [_, _], _ => rfl
  have M6 : mg "meet" = _ := He.glo_ok X G (c.fact 26 (f := .glo "meet") rfl)
  obtain ⟨fd7, D7⟩ := c.def_ 7 (d := dOf "without" sWithout) rfl
  have F7 : Fun K "without" "without" sWithout _ fd7 := fun_of D7
  have B7 := D7.bindsN (ps := ["names", "left_out"]) fun _ _ _ _ _ _ us hl => match us, hl with | [_, _], _ => rfl
  have M7 : mg "without" = _ := He.glo_ok X G (c.fact 27 (f := .glo "without") rfl)
  obtain ⟨fd8, D8⟩ := c.def_ 8 (d := dOf "_names_in" sNamesIn) rfl
  have F8 : Fun K "_names_in" "_names_in" sNamesIn _ fd8 := fun_of D8
  have B8 := D8.bindsN (ps := ["row"]) fun _ _ _ _ _ _ us hl => match us, hl with | [_], _ => rfl
  have M8 : mg "_names_in" = _ := He.glo_ok X G (c.fact 28 (f := .glo "_names_in") rfl)
  obtain ⟨fd9, D9⟩ := c.def_ 9 (d := dOf "_row_without" sRowWithout) rfl
  have F9 : Fun K "_row_without" "_row_without" sRowWithout _ fd9 := fun_of D9
  have B9 := D9.bindsN (ps := ["row", "names"]) fun _ _ _ _ _ _ us hl => match us, hl with | [_, _], _ => rfl
  have M9 : mg "_row_without" = _ := He.glo_ok X G (c.fact 29 (f := .glo "_row_without") rfl)
  obtain ⟨fd10, D10⟩ := c.def_ 10 (d := dOf "_asked" sAsked) rfl
  have F10 : Fun K "_asked" "_asked" sAsked _ fd10 := fun_of D10
  have B10 := D10.bindsN (ps := ["row", "names"]) fun _ _ _ _ _ _ us hl => match us, hl with | [_, _], _ => rfl
  have M10 : mg "_asked" = _ := He.glo_ok X G (c.fact 30 (f := .glo "_asked") rfl)
  obtain ⟨fd11, D11⟩ := c.def_ 11 (d := dOf "_is_asked_for" sIsAskedFor) rfl
  have F11 : Fun K "_is_asked_for" "_is_asked_for" sIsAskedFor _ fd11 := fun_of D11
  have B11 := D11.bindsN (ps := ["asked", "world"]) fun _ _ _ _ _ _ us hl => match us, hl with | [_, _], _ => rfl
  have M11 : mg "_is_asked_for" = _ := He.glo_ok X G (c.fact 31 (f := .glo "_is_asked_for") rfl)
  obtain ⟨fd12, D12⟩ := c.def_ 12 (d := dOf "check_program" sCheckProgram) rfl
  have F12 : Fun K "check_program" "check_program" sCheckProgram _ fd12 := fun_of D12
  have B12 := D12.bindsN (ps := ["thing"]) fun _ _ _ _ _ _ us hl => match us, hl with | [_], _ => rfl
  have M12 : mg "check_program" = _ := He.glo_ok X G (c.fact 32 (f := .glo "check_program") rfl)
  obtain ⟨fd13, D13⟩ := c.def_ 13 (d := dOf "check_world" sCheckWorld) rfl
  have F13 : Fun K "check_world" "check_world" sCheckWorld _ fd13 := fun_of D13
  have B13 := D13.bindsN (ps := ["thing"]) fun _ _ _ _ _ _ us hl => match us, hl with | [_], _ => rfl
  have M13 : mg "check_world" = _ := He.glo_ok X G (c.fact 33 (f := .glo "check_world") rfl)
  obtain ⟨fd14, D14⟩ := c.def_ 14 (d := dOf "splits" sSplits) rfl
  have F14 : Fun K "splits" "splits" sSplits _ fd14 := fun_of D14
  have B14 := D14.bindsN (ps := ["program", "names"]) fun _ _ _ _ _ _ us hl => match us, hl with | [_, _], _ => rfl
  have M14 : mg "splits" = _ := He.glo_ok X G (c.fact 34 (f := .glo "splits") rfl)
  obtain ⟨fd15, D15⟩ := c.def_ 15 (d := dOf "_check_split" sCheckSplit) rfl
  have F15 : Fun K "_check_split" "_check_split" sCheckSplit _ fd15 := fun_of D15
  have B15 := D15.bindsN (ps := ["program", "names"]) fun _ _ _ _ _ _ us hl => match us, hl with | [_, _], _ => rfl
  have M15 : mg "_check_split" = _ := He.glo_ok X G (c.fact 35 (f := .glo "_check_split") rfl)
  obtain ⟨fd16, D16⟩ := c.def_ 16 (d := dOf "lower" sLower) rfl
  have F16 : Fun K "lower" "lower" sLower _ fd16 := fun_of D16
  have B16 := D16.bindsN (ps := ["program", "names"]) fun _ _ _ _ _ _ us hl => match us, hl with | [_, _], _ => rfl
  have M16 : mg "lower" = _ := He.glo_ok X G (c.fact 36 (f := .glo "lower") rfl)
  obtain ⟨fd17, D17⟩ := c.def_ 17 (d := dOf "rest" sRest) rfl
  have F17 : Fun K "rest" "rest" sRest _ fd17 := fun_of D17
  have B17 := D17.bindsN (ps := ["program", "names", "world"]) fun _ _ _ _ _ _ us hl => match us, hl with | [_, _, _], _ => rfl
  have M17 : mg "rest" = _ := He.glo_ok X G (c.fact 37 (f := .glo "rest") rfl)
  obtain ⟨fd18, D18⟩ := c.def_ 18 (d := dOf "_law_at" sLawAt) rfl
  have F18 : Fun K "_law_at" "_law_at" sLawAt _ fd18 := fun_of D18
  have B18 := D18.bindsN (ps := ["script", "k"]) fun _ _ _ _ _ _ us hl => match us, hl with | [_, _], _ => rfl
  have M18 : mg "_law_at" = _ := He.glo_ok X G (c.fact 38 (f := .glo "_law_at") rfl)
  obtain ⟨fd19, D19⟩ := c.def_ 19 (d := dOf "_law_mixed" sLawMixed) rfl
  have F19 : Fun K "_law_mixed" "_law_mixed" sLawMixed _ fd19 := fun_of D19
  have B19 := D19.bindsN (ps := ["cell", "k"]) fun _ _ _ _ _ _ us hl => match us, hl with | [_, _], _ => rfl
  have M19 : mg "_law_mixed" = _ := He.glo_ok X G (c.fact 39 (f := .glo "_law_mixed") rfl)
  obtain ⟨fd20, D20⟩ := c.def_ 20 (d := dOf "_law_purse" sLawPurse) rfl
  have F20 : Fun K "_law_purse" "_law_purse" sLawPurse _ fd20 := fun_of D20
  have B20 := D20.bindsN (ps := ["script", "at"]) fun _ _ _ _ _ _ us hl => match us, hl with | [_, _], _ => rfl
  have M20 : mg "_law_purse" = _ := He.glo_ok X G (c.fact 40 (f := .glo "_law_purse") rfl)
  obtain ⟨fd21, D21⟩ := c.def_ 21 (d := dOf "_law_draw" sLawDraw) rfl
  have F21 : Fun K "_law_draw" "_law_draw" sLawDraw _ fd21 := fun_of D21
  have B21 := D21.bindsN (ps := ["purse", "out_of"]) fun _ _ _ _ _ _ us hl => match us, hl with | [_, _], _ => rfl
  have M21 : mg "_law_draw" = _ := He.glo_ok X G (c.fact 41 (f := .glo "_law_draw") rfl)
  obtain ⟨fd22, D22⟩ := c.def_ 22 (d := dOf "_law_some" sLawSome) rfl
  have F22 : Fun K "_law_some" "_law_some" sLawSome _ fd22 := fun_of D22
  have B22 := D22.bindsN (ps := ["purse", "letters", "most"]) fun _ _ _ _ _ _ us hl => match us, hl with | [_, _, _], _ => rfl
  have M22 : mg "_law_some" = _ := He.glo_ok X G (c.fact 42 (f := .glo "_law_some") rfl)
  obtain ⟨fd23, D23⟩ := c.def_ 23 (d := dOf "_law_rule" sLawRule) rfl
  have F23 : Fun K "_law_rule" "_law_rule" sLawRule _ fd23 := fun_of D23
  have B23 := D23.bindsN (ps := ["purse", "letters", "sort"]) fun _ _ _ _ _ _ us hl => match us, hl with | [_, _, _], _ => rfl
  have M23 : mg "_law_rule" = _ := He.glo_ok X G (c.fact 43 (f := .glo "_law_rule") rfl)
  obtain ⟨fd24, D24⟩ := c.def_ 24 (d := dOf "_law_rules" sLawRules) rfl
  have F24 : Fun K "_law_rules" "_law_rules" sLawRules _ fd24 := fun_of D24
  have B24 := D24.bindsN (ps := ["purse", "letters", "sort", "most"]) fun _ _ _ _ _ _ us hl => match us, hl with | [_, _, _, _], _ => rfl
  have M24 : mg "_law_rules" = _ := He.glo_ok X G (c.fact 44 (f := .glo "_law_rules") rfl)
  obtain ⟨fd25, D25⟩ := c.def_ 25 (d := dOf "_law_own" sLawOwn) rfl
  have F25 : Fun K "_law_own" "_law_own" sLawOwn _ fd25 := fun_of D25
  have B25 := D25.bindsN (ps := ["row"]) fun _ _ _ _ _ _ us hl => match us, hl with | [_], _ => rfl
  have M25 : mg "_law_own" = _ := He.glo_ok X G (c.fact 45 (f := .glo "_law_own") rfl)
  obtain ⟨fd26, D26⟩ := c.def_ 26 (d := dOf "_law_splits" sLawSplits) rfl
  have F26 : Fun K "_law_splits" "_law_splits" sLawSplits _ fd26 := fun_of D26
  have B26 := D26.bindsN (ps := ["rules", "lot"]) fun _ _ _ _ _ _ us hl => match us, hl with | [_, _], _ => rfl
  have M26 : mg "_law_splits" = _ := He.glo_ok X G (c.fact 46 (f := .glo "_law_splits") rfl)
  obtain ⟨fd27, D27⟩ := c.def_ 27 (d := dOf "_law_lot" sLawLot) rfl
  have F27 : Fun K "_law_lot" "_law_lot" sLawLot _ fd27 := fun_of D27
  have B27 := D27.bindsN (ps := ["purse", "rules", "letters"]) fun _ _ _ _ _ _ us hl => match us, hl with | [_, _, _], _ => rfl
  have M27 : mg "_law_lot" = _ := He.glo_ok X G (c.fact 47 (f := .glo "_law_lot") rfl)
  obtain ⟨fd28, D28⟩ := c.def_ 28 (d := dOf "_law_rest" sLawRest) rfl
  have F28 : Fun K "_law_rest" "_law_rest" sLawRest _ fd28 := fun_of D28
  have B28 := D28.bindsN (ps := ["rules", "lot", "state"]) fun _ _ _ _ _ _ us hl => match us, hl with | [_, _, _], _ => rfl
  have M28 : mg "_law_rest" = _ := He.glo_ok X G (c.fact 48 (f := .glo "_law_rest") rfl)
  obtain ⟨fd29, D29⟩ := c.def_ 29 (d := dOf "_law_told" sLawTold) rfl
  have F29 : Fun K "_law_told" "_law_told" sLawTold _ fd29 := fun_of D29
  have B29 := D29.bindsN (ps := ["way", "sheet", "lot", "state"]) fun _ _ _ _ _ _ us hl => match us, hl with | [_, _, _, _], _ => rfl
  have M29 : mg "_law_told" = _ := He.glo_ok X G (c.fact 49 (f := .glo "_law_told") rfl)
  obtain ⟨fd30, D30⟩ := c.def_ 30 (d := dOf "_law_all_split" sLawAllSplit) rfl
  have F30 : Fun K "_law_all_split" "_law_all_split" sLawAllSplit _ fd30 := fun_of D30
  have B30 := D30.bindsN (ps := ["sheet", "lot", "some"]) fun _ _ _ _ _ _ us hl => match us, hl with | [_, _, _], _ => rfl
  have M30 : mg "_law_all_split" = _ := He.glo_ok X G (c.fact 50 (f := .glo "_law_all_split") rfl)
  obtain ⟨fd31, D31⟩ := c.def_ 31 (d := dOf "_law_right" sLawRight) rfl
  have F31 : Fun K "_law_right" "_law_right" sLawRight _ fd31 := fun_of D31
  have B31 := D31.bindsN (ps := ["purse", "rules", "lot"]) fun _ _ _ _ _ _ us hl => match us, hl with | [_, _, _], _ => rfl
  have M31 : mg "_law_right" = _ := He.glo_ok X G (c.fact 51 (f := .glo "_law_right") rfl)
  obtain ⟨fd32, D32⟩ := c.def_ 32 (d := dOf "law" sLaw) rfl
  have F32 : Fun K "law" "law" sLaw _ fd32 := fun_of D32
  have B32 := D32.bindsN (ps := ["script"]) fun _ _ _ _ _ _ us hl => match us, hl with | [_], _ => rfl
  have M32 : mg "law" = _ := He.glo_ok X G (c.fact 52 (f := .glo "law") rfl)
  obtain ⟨fdInit, DInit⟩ := c.def_ 33 (d := dMInit) rfl
  have FInit : Fun K "__init__" "Program.__init__" sInit _ fdInit := fun_of DInit
  obtain ⟨fdOf, DOf⟩ := c.def_ 34 (d := dMOf) rfl
  have FOf : Fun K "of" "Program.of" sOf _ fdOf := fun_of DOf
  have BOf := DOf.bindsN (ps := ["cls", "rules"]) fun _ _ _ _ _ _ us hl => match us, hl with | [_, _], _ => rfl
  obtain ⟨fdRules, DRules⟩ := c.def_ 35 (d := dMRules) rfl
  have FRules : Fun K "rules" "Program.rules" sRules _ fdRules := fun_of DRules
  have BRules := DRules.bindsN (ps := ["self"]) fun _ _ _ _ _ _ us hl => match us, hl with | [_], _ => rfl
  obtain ⟨fdPEq, DPEq⟩ := c.def_ 36 (d := dMPEq) rfl
  have FPEq : Fun K "__eq__" "Program.__eq__" sPEq _ fdPEq := fun_of DPEq
  have BPEq := DPEq.bindsN (ps := ["self", "other"]) fun _ _ _ _ _ _ us hl => match us, hl with | [_, _], _ => rfl
  obtain ⟨fdENotProg, DENotProg⟩ := c.def_ 37 (d := dMENotProg) rfl
  have EENotProg : FunD K "__init__" "NotAProgram.__init__" (defArgs sENotProg) (defBody sENotProg) (defScope sENotProg) [.non] [] _ fdENotProg := DENotProg
  obtain ⟨dsENotProg, vENotProg, BENotProg⟩ := EENotProg.binds1 (ps := ["self", "thing"]) 2 1 (by simp) rfl fun T kV doc pm an cdv ct us its h1 h2 => match us, its, h1, h2 with | [_, _], [_], _, _ => ⟨_, rfl, rfl⟩
  cases vENotProg
  obtain ⟨fdEWorld, DEWorld⟩ := c.def_ 38 (d := dMEWorld) rfl
  have EEWorld : FunD K "__init__" "InvalidWorld.__init__" (defArgs sEWorld) (defBody sEWorld) (defScope sEWorld) [.non] [] _ fdEWorld := DEWorld
  obtain ⟨dsEWorld, vEWorld, BEWorld⟩ := EEWorld.binds1 (ps := ["self", "thing"]) 2 1 (by simp) rfl fun T kV doc pm an cdv ct us its h1 h2 => match us, its, h1, h2 with | [_, _], [_], _, _ => ⟨_, rfl, rfl⟩
  cases vEWorld
  obtain ⟨fdESplit, DESplit⟩ := c.def_ 39 (d := dMESplit) rfl
  have EESplit : FunD K "__init__" "NotASplit.__init__" (defArgs sESplit) (defBody sESplit) (defScope sESplit) [.non] [] _ fdESplit := DESplit
  obtain ⟨dsESplit, vESplit, BESplit⟩ := EESplit.binds1 (ps := ["self", "thing"]) 2 1 (by simp) rfl fun T kV doc pm an cdv ct us its h1 h2 => match us, its, h1, h2 with | [_, _], [_], _, _ => ⟨_, rfl, rfl⟩
  cases vESplit
  have mProgram : mg "Program" = _ := He.glo_ok X G (c.fact 15 (f := .glo "Program") rfl)
  have mNotAProgram : mg "NotAProgram" = _ := He.glo_ok X G (c.fact 16 (f := .glo "NotAProgram") rfl)
  have mInvalidWorld : mg "InvalidWorld" = _ := He.glo_ok X G (c.fact 17 (f := .glo "InvalidWorld") rfl)
  have mNotASplit : mg "NotASplit" = _ := He.glo_ok X G (c.fact 18 (f := .glo "NotASplit") rfl)
  have mRuleError : mg "RuleError" = _ := He.glo_ok X G (c.fact 19 (f := .glo "RuleError") rfl)
  have T : Bl mg := ⟨He.free_ok X G (c.fact 0 (f := .free "len") rfl), He.free_ok X G (c.fact 1 (f := .free "isinstance") rfl), He.free_ok X G (c.fact 2 (f := .free "all") rfl), He.free_ok X G (c.fact 3 (f := .free "any") rfl), He.free_ok X G (c.fact 4 (f := .free "tuple") rfl), He.free_ok X G (c.fact 5 (f := .free "list") rfl), He.free_ok X G (c.fact 6 (f := .free "sorted") rfl), He.free_ok X G (c.fact 7 (f := .free "set") rfl), He.free_ok X G (c.fact 8 (f := .free "str") rfl), He.free_ok X G (c.fact 9 (f := .free "int") rfl), He.free_ok X G (c.fact 10 (f := .free "max") rfl), He.free_ok X G (c.fact 11 (f := .free "min") rfl), He.free_ok X G (c.fact 12 (f := .free "range") rfl), He.free_ok X G (c.fact 13 (f := .free "enumerate") rfl)⟩
  have mL := He.str_ok X G (c.fact 14 (f := .str "LETTERS" lettersS) rfl)
  have cP := He.cls_ok (c.fact 53 (f := .cls "Program") rfl)
  have nR := He.noat_ok (c.fact 54 (f := .noat "Program" "_rules") rfl)
  have MK := He.mkr_ok (c.fact 55 (f := .mkr "Program") rfl)
  have mE := He.meth_ok (c.fact 56 (f := .meth "Program" "__eq__") rfl)
  have noNotAProgram := He.noat_ok (c.fact 57 (f := .noat "NotAProgram" "thing") rfl)
  have exNotAProgram := He.exm_ok (c.fact 60 (f := .exm "NotAProgram" "RuleError" true) rfl)
  have noInvalidWorld := He.noat_ok (c.fact 58 (f := .noat "InvalidWorld" "thing") rfl)
  have exInvalidWorld := He.exm_ok (c.fact 61 (f := .exm "InvalidWorld" "RuleError" true) rfl)
  have noNotASplit := He.noat_ok (c.fact 59 (f := .noat "NotASplit" "thing") rfl)
  have exNotASplit := He.exm_ok (c.fact 62 (f := .exm "NotASplit" "RuleError" true) rfl)
  have ce' : (exL K (He.ga K "Program") (He.ga K "NotAProgram") (He.ga K "InvalidWorld") (He.ga K "NotASplit") (He.ma K (He.ga K "Program") "__eq__")).all id = true := ce
  have PG := pgC_of (of_decide_eq_true (exL_at ce' 0 rfl)) mProgram cP
  obtain ⟨kt1, kt2, kt3, kt4, kt5, kt6⟩ := of_decide_eq_true (exL_at ce' 1 rfl)
  obtain ⟨rd1, rd2⟩ := of_decide_eq_true (exL_at ce' 2 rfl)
  have CR : CRead K (He.ga K "Program") (.type "type") := ⟨rd1, rd2⟩
  have oP := oexB_ok (exL_at ce' 3 rfl)
  have oW := oexB_ok (exL_at ce' 4 rfl)
  have oS := oexB_ok (exL_at ce' 5 rfl)
  have eP := excP_ok (of_decide_eq_true (exL_at ce' 6 rfl))
  have eW := excP_ok (of_decide_eq_true (exL_at ce' 7 rfl))
  have eS := excP_ok (of_decide_eq_true (exL_at ce' 8 rfl))
  obtain ⟨iP1, iP2⟩ := of_decide_eq_true (exL_at ce' 9 rfl)
  obtain ⟨iW1, iW2⟩ := of_decide_eq_true (exL_at ce' 10 rfl)
  obtain ⟨iS1, iS2⟩ := of_decide_eq_true (exL_at ce' 11 rfl)
  have NE := neC_of (exL_at ce' 12 rfl) (exL_at ce' 13 rfl)
  have PR := propP_ok (of_decide_eq_true (exL_at ce' 14 rfl)) (exL_at ce' 15 rfl)
  have CM := He5.cmet_of (exL_at ce' 16 rfl) (exL_at ce' 17 rfl)
  have EK : ErrK K mg (He.ga K "NotAProgram") (He.ga K "InvalidWorld") (He.ga K "NotASplit") (He.ga K "RuleError") := ⟨mNotAProgram, mInvalidWorld, mNotASplit, mRuleError, exNotAProgram, exInvalidWorld, exNotASplit, eP, eW, eS, noNotAProgram, noInvalidWorld, noNotASplit, kt1, kt2, kt3, kt4, kt5, kt6⟩
  have e := hfa_.symm.trans M32
  cases e
  refine ⟨fd32, fun s v => ?_, fun base _ _ => ?_⟩
  · exact FunD.bindsA (ps := ["script"]) D32 (fun _ _ _ _ _ _ us hl => match us, hl with | [_], _ => rfl) s [v] rfl
  have gIsName : ∀ k, FnOk P w K mg base CX0 (k + 1) _ fd0 ["thing"] (spIsName K) := fun k => ok_isName (k := k) F0 T mL
  have gAre : ∀ k, FnOk P w K mg base CX0 (k + 2) _ fd1 ["thing"] (spAreNames K) := fun k => ok_areNames (k := k + 1) F1 T (gIsName k) B0 F0.kp M0
  have gSet : ∀ k, FnOk P w K mg base CX0 (k + 1) _ fd2 ["names"] (spSetOf K) := fun k => ok_setOf (k := k) F2 T
  have gIsW : ∀ k, FnOk P w K mg base CX0 (k + 3) _ fd3 ["thing"] (spIsWorld K) := fun k => ok_isWorld (k := k + 2) F3 T (gAre k) B1 F1.kp M1 (gSet (k + 1)) B2 F2.kp M2
  have gIsR : ∀ k, FnOk P w K mg base CX0 (k + 4) _ fd4 ["thing"] (spIsRule K) := fun k => ok_isRule (k := k + 3) F4 T (gIsW k) B3 F3.kp M3
  have gHas : ∀ k, FnOk P w K mg base CX0 (k + 1) _ fd5 ["names", "wanted"] (spHasAll K) := fun k => ok_hasAll (k := k) F5 T
  have gMeet : ∀ k, FnOk P w K mg base CX0 (k + 1) _ fd6 ["one", "other"] (spMeet K) := fun k => ok_meet (k := k) F6 T
  have gWout : ∀ k, FnOk P w K mg base CX0 (k + 1) _ fd7 ["names", "left_out"] (spWithout K) := fun k => ok_without (k := k) F7 T
  have gNin : ∀ k, FnOk P w K mg base CX0 (k + 1) _ fd8 ["row"] (spNamesIn K) := fun k => ok_namesIn (k := k) F8
  have gRw : ∀ k, FnOk P w K mg base CX0 (k + 2) _ fd9 ["row", "names"] (spRowWithout K) := fun k => ok_rowWithout (k := k + 1) F9 T (gWout k) B7 F7.kp M7
  have gAskd : ∀ k, FnOk P w K mg base CX0 (k + 1) _ fd10 ["row", "names"] (spAsked K) := fun k => ok_asked (k := k) F10 T
  have gIaf : ∀ k, FnOk P w K mg base CX0 (k + 2) _ fd11 ["asked", "world"] (spIsAskedFor K) := fun k => ok_isAskedFor (k := k + 1) F11 (gHas k) B5 F5.kp M5 (gMeet k) B6 F6.kp M6
  have gInit : ∀ k, FnR P w K mg base CX0 (k + 5) _ (spInit K (He.ga K "Program")) := fun k => by
    obtain ⟨oc, od, kV, doc, pm, an, cdv, ct, osl, e, lk, hcd⟩ := FInit.ex
    subst e
    exact ok_init (k := k + 4) lk hcd T cP nR (gIsR k) B4 F4.kp M4
  have gOf : ∀ k, FnR P w K mg base CX0 (k + 7) _ (spOf K (He.ga K "Program")) := fun k => fnr_of (ok_of (k := k + 5) FOf MK (gInit k)) BOf
  have gRules : ∀ k, FnOk P w K mg base CX0 (k + 1) _ fdRules ["self"] (spRules K (He.ga K "Program")) := fun k => ok_rules (k := k) FRules cP nR
  have gEq : ∀ k, FnR P w K mg base CX0 (k + 1) _ (spPEq K (He.ga K "Program")) := fun k => fnr_of (ok_pEq (k := k) FPEq T PG nR) BPEq
  have xP : ∀ k, ErrT P w K mg base (k + 1) "NotAProgram" "thing" (He.ga K "NotAProgram") := fun k => ⟨oP, ⟨_, _, iP1, iP2, ok_eNotProg (k := k) EENotProg oP noNotAProgram, BENotProg⟩, mNotAProgram⟩
  have xW : ∀ k, ErrT P w K mg base (k + 1) "InvalidWorld" "thing" (He.ga K "InvalidWorld") := fun k => ⟨oW, ⟨_, _, iW1, iW2, ok_eWorld (k := k) EEWorld oW noInvalidWorld, BEWorld⟩, mInvalidWorld⟩
  have xS : ∀ k, ErrT P w K mg base (k + 1) "NotASplit" "thing" (He.ga K "NotASplit") := fun k => ⟨oS, ⟨_, _, iS1, iS2, ok_eSplit (k := k) EESplit oS noNotASplit, BESplit⟩, mNotASplit⟩
  have gCP : ∀ k, FnOk P w K mg base (L2.CX P w) (k + 3) _ fd12 ["thing"] (spCheckProgram K (He.ga K "Program") (He.ga K "NotAProgram")) := fun k => ok_checkProgram (k := k + 1) F12 T PG (xP k)
  have gCW : ∀ k, FnOk P w K mg base (L2.CX P w) (k + 4) _ fd13 ["thing"] (spCheckWorld K (He.ga K "InvalidWorld")) := fun k => ok_checkWorld (k := k + 2) F13 (gIsW k) B3 F3.kp M3 (xW (k + 1))
  have gSpl : ∀ k, FnOk P w K mg base (L2.CX P w) (k + 5) _ fd14 ["program", "names"] (spSplits K (He.ga K "Program") (He.ga K "NotAProgram") (He.ga K "InvalidWorld")) := fun k => ok_splits (k := k + 3) F14 cP PR (gCP (k + 1)) B12 F12.kp M12 (gCW k) B13 F13.kp M13 (gRules (k + 2)) BRules (gMeet (k + 3)) B6 F6.kp M6 (gHas (k + 3)) B5 F5.kp M5 (gNin (k + 3)) B8 F8.kp M8
  have gCS : ∀ k, FnOk P w K mg base (L2.CX P w) (k + 6) _ fd15 ["program", "names"] (spCheckSplit K (He.ga K "Program") (He.ga K "NotAProgram") (He.ga K "InvalidWorld") (He.ga K "NotASplit")) := fun k => ok_checkSplit (k := k + 4) F15 (gSpl k) B14 F14.kp M14 (xS (k + 3))
  have gLow : ∀ k, FnOk P w K mg base (L2.CX P w) (k + 7) _ fd16 ["program", "names"] (spLower K (He.ga K "Program") (He.ga K "NotAProgram") (He.ga K "InvalidWorld") (He.ga K "NotASplit")) := fun k => ok_lower (k := k + 5) F16 cP PR MK (gInit k) mProgram (gCS k) B15 F15.kp M15 (gRules (k + 4)) BRules (gHas (k + 5)) B5 F5.kp M5 (gNin (k + 5)) B8 F8.kp M8
  have gRest : ∀ k, FnOk P w K mg base (L2.CX P w) (k + 7) _ fd17 ["program", "names", "world"] (spRest K (He.ga K "Program") (He.ga K "NotAProgram") (He.ga K "InvalidWorld") (He.ga K "NotASplit")) := fun k => ok_rest (k := k + 5) F17 cP PR MK (gInit k) mProgram (gCS k) B15 F15.kp M15 (gIsW (k + 3)) B3 F3.kp M3 (xW (k + 4)) (gRules (k + 4)) BRules (gRw (k + 4)) B9 F9.kp M9 (gHas (k + 5)) B5 F5.kp M5 (gNin (k + 5)) B8 F8.kp M8 (gAskd (k + 5)) B10 F10.kp M10 (gIaf (k + 4)) B11 F11.kp M11
  have gAt : ∀ k, FnOk P w K mg base CX0 (k + 1) _ fd18 ["script", "k"] (spLawAt K) := fun k => ok_lawAt (k := k) F18 T
  have gMix : ∀ k, FnOk P w K mg base CX0 (k + 1) _ fd19 ["cell", "k"] (spLawMixed) := fun k => ok_lawMixed (k := k) F19 T
  have gPur : ∀ k, FnOk P w K mg base CX0 (k + 2) _ fd20 ["script", "at"] (spLawPurse K) := fun k => ok_lawPurse (k := k + 1) F20 T (gAt k) B18 F18.kp M18
  have gDraw : ∀ k, FnOk P w K mg base CX0 (k + 2) _ fd21 ["purse", "out_of"] (spLawDraw) := fun k => ok_lawDraw (k := k + 1) F21 T (gMix k) B19 F19.kp M19
  have gSome : ∀ k, FnOk P w K mg base CX0 (k + 3) _ fd22 ["purse", "letters", "most"] (spLawSome K) := fun k => ok_lawSome (k := k + 2) F22 T (gDraw k) B21 F21.kp M21
  have gRule : ∀ k, FnOk P w K mg base CX0 (k + 4) _ fd23 ["purse", "letters", "sort"] (spLawRule K) := fun k => ok_lawRule (k := k + 3) F23 T (gDraw (k + 1)) B21 F21.kp M21 (gSome k) B22 F22.kp M22
  have gLRules : ∀ k, FnOk P w K mg base CX0 (k + 5) _ fd24 ["purse", "letters", "sort", "most"] (spLawRules K) := fun k => ok_lawRules (k := k + 4) F24 T (gDraw (k + 2)) B21 F21.kp M21 (gRule k) B23 F23.kp M23
  have gOwn : ∀ k, FnOk P w K mg base CX0 (k + 1) _ fd25 ["row"] (spLawOwn K) := fun k => ok_lawOwn (k := k) F25
  have gLSpl : ∀ k, FnOk P w K mg base CX0 (k + 2) _ fd26 ["rules", "lot"] (spLawSplits K) := fun k => ok_lawSplits (k := k + 1) F26 (gOwn k) B25 F25.kp M25
  have gLot : ∀ k, FnOk P w K mg base CX0 (k + 4) _ fd27 ["purse", "rules", "letters"] (spLawLot K) := fun k => ok_lawLot (k := k + 3) F27 T (gDraw (k + 1)) B21 F21.kp M21 (gSome k) B22 F22.kp M22 (gOwn (k + 2)) B25 F25.kp M25
  have gLRest : ∀ k, FnOk P w K mg base CX0 (k + 2) _ fd28 ["rules", "lot", "state"] (spLawRest K) := fun k => ok_lawRest (k := k + 1) F28 T (gOwn k) B25 F25.kp M25
  have gTold : ∀ k, FnOk P w K mg base CX0 (k + 8) _ fd29 ["way", "sheet", "lot", "state"] (spLawTold K (He.ga K "Program") (He.ga K "NotAProgram") (He.ga K "InvalidWorld") (He.ga K "NotASplit")) := fun k => ok_lawTold (k := k + 6) F29 T EK cP PR (gSpl (k + 2)) B14 F14.kp M14 (gLow k) B16 F16.kp M16 (gRest k) B17 F17.kp M17 (gRules (k + 5)) BRules
  have gAll : ∀ k, FnOk P w K mg base CX0 (k + 9) _ fd30 ["sheet", "lot", "some"] (spLawAllSplit K (He.ga K "Program")) := fun k => ok_lawAllSplit (k := k + 8) F30 (gTold k) B29 F29.kp M29
  have gRight : ∀ k, FnOk P w K mg base CX0 (k + 10) _ fd31 ["purse", "rules", "lot"] (spLawRight K) := fun k => ok_lawRight (k := k + 9) F31 T mProgram CR CM (gOf (k + 2)) (gDraw (k + 7)) B21 F21.kp M21 (gLSpl (k + 7)) B26 F26.kp M26 (gTold (k + 1)) B29 F29.kp M29 (gAll k) B30 F30.kp M30 (gOwn (k + 8)) B25 F25.kp M25 (gLRest (k + 7)) B28 F28.kp M28
  have kb7 := kbn_fun (ps := ["program", "names"]) F14 0 ["names", "program"] swap2 swap2 (fun _ _ _ _ _ _ us ws h1 h2 => match us, ws, h1, h2 with | [], [_, _], _, _ => rfl) fun _ b => vals_rev b
  have kb8 := kbn_fun (ps := ["program", "names"]) F16 1 ["names"] app2 app2 (fun _ _ _ _ _ _ us ws h1 h2 => match us, ws, h1, h2 with | [_], [_], _, _ => rfl) fun a b => vals_app a b
  have kb9 := kbn_fun (ps := ["program", "names", "world"]) F17 0 ["program", "world", "names"] swap3 swap3 (fun _ _ _ _ _ _ us ws h1 h2 => match us, ws, h1, h2 with | [], [_, _, _], _, _ => rfl) fun _ b => vals_app (vals_take 1 b) (vals_rev (vals_drop 1 b))
  exact ok_law (k := 9) F32 T mProgram CR CM (gOf 3) MK (gInit 4) mE.at_ mE.fn NE (gEq 8) (gPur 8) B20 F20.kp M20 (gDraw 8) B21 F21.kp M21 (gLRules 5) B24 F24.kp M24 (gLot 6) B27 F27.kp M27 (gRight 0) B31 F31.kp M31 (gTold 2) B29 F29.kp M29 (gSpl 5) kb7 F14.kp M14 (gLow 3) kb8 F16.kp M16 (gRest 3) kb9 F17.kp M17
end Rw
open PySem PySem.W PySem.Calls PyProof.Rows
theorem PySem.Challenge.cw_ruleworlds_k32_splitting_holds : PySem.Challenge.rw_ruleworlds_k32_splitting.Holds := by
  w_on; o_law
  refine HandSHeadRun.head_any (r := OpenLaw.row PySem.Challenge.rw_ruleworlds_k32_splitting) (q := view (OpenLaw.row PySem.Challenge.rw_ruleworlds_k32_splitting).prog [52]) (H := Rw.hH) (ob := Rw.hob) (M := 9000) (loose := Rw.hloose) (d := HandSHeadRun.topDef (OpenLaw.row PySem.Challenge.rw_ruleworlds_k32_splitting).prog 52) (kwd := []) Rw.hob_eq
    (by kernel_rfl) (fun s => by kernel_rfl) Rw.hrun (by kernel_rfl) (by kernel_rfl) (by kernel_rfl) (by rfl) (by first | assumption | decide +kernel) (by decide +kernel) ⟨rfl, rfl, rfl, rfl, rfl, by decide +kernel⟩ ?hw ?hc
  case hw => w_witness2
  case hc =>
    refine L2.walk_ofE (l := PySem.Challenge.rw_ruleworlds_k32_splitting) (n := 63) (k := 11) (x := "script") (CX := L2.CX0) rfl (by decide) (by kernel_rfl) ⟨rfl, by decide, by decide⟩ ?F (fun _ _ _ _ z => z)
    intro w mg fa h Y G hmg0
    obtain ⟨K, KX, c, ce⟩ := Y
    have hmg : mg ("law" : PySem.Str) = some (.ref fa) := by
      have e : (HandSHeadRun.topDef (OpenLaw.row PySem.Challenge.rw_ruleworlds_k32_splitting).prog 52).name = ("law" : PySem.Str) := by kernel_rfl
      rw [← e]
      exact hmg0
    obtain ⟨fd, hb, hF⟩ := Rw.hfacts (P := (PySem.Challenge.rw_ruleworlds_k32_splitting).prog) (w := w) KX G hmg c ce
    exact ⟨K, fd, Rw.spLaw K, KX, hb, fun H a ns hl _ hS => ⟨a, ns, rfl, hS, hl, fun _ => rfl⟩, hF⟩
