import PyProof.Rows.All
import Wide.All
import OpenK.AllK
import Wide.FinOn
import HandS.TupSets
import KE.KeyNested
import KE.KDictKeyed
import KE.SortData
import HandS.SetTxt0
import KE.DataCmp
import HandS.ForMost
import HandS.DictComp
import KE.GoesComp
import KE.GoesMore
import HandS.IsInst
import HandS.Defaults
import HandS.TupAny
import HandS.Deep
import HandS.Style
import HandS.Star
import HandS.ClsMeth
import HandS.Property
import HandS.CallLocal
import HandS.Exc
import HandS.ExcInit
import HandS.ExcValue
import HandS.ExcIs
import HandS.ExcField
import HandS.SetBool
import PySem.Challenge.RW_ruleworlds_k33_layers
import HandS.WordsExc
import PyProof.DictUpdate
import HandS.Dict
import HandS.Walk
import HandS.Iter
import HandS.WideBits
import KE.IntBitsLaws
import HandS.ExcOwn
import HandS.SlotsOwn
import PyProof.Rows.StrMeet
import KE.KStateDown
import HandS.Head0
import HandS.Head1
import HandS.Head2
import HandS.HeadEnd
import HandS.HeadHook1
import HandS.HeadHook2
import HandS.HeadHook3
import HandS.HeadHook4
import HandS.HeadNt
set_option Elab.async false
set_option linter.all false
set_option maxRecDepth 100000
set_option maxHeartbeats 0
/-! Sets whose members are texts, or tuples of texts and of such tuples: made of a list or a tuple, and gathered again. -/
namespace Rw
open PySem PySem.Spec PyProof.Rows L2
abbrev NK := NestedKey
section
variable {P : Program} {w : World}
/-! no class statement stands in a key -/
mutual
theorem noCls : ∀ (k : NK) (v : Value) (n : Nat) (A : Around) (E : Value → Shared → Prop) (s : Shared) (Q : Bool → Shared → Prop), NestedIs s.heap k v → k.depth ≤ n → Q false s → wpAny (model P w) A (ofAClassStatement n v) Q E s
  | .none, _, n, A, E, s, Q, x, _, h => by
    cases x
    cases n <;> exact wpAny_pure h
  | .num i, _, n, A, E, s, Q, x, _, h => by
    cases x <;> cases n <;> exact wpAny_pure h
  | .text y, _, n, A, E, s, Q, x, _, h => by
    cases x
    cases n <;> exact wpAny_pure h
  | .tup ks, _, n, A, E, s, Q, x, hn, h => by
    cases x with
    | @tup a o vs m _ hg hc hd hk =>
      simp only [NestedKey.depth] at hn
      cases n with
      | zero => omega
      | succ n =>
        have hT : s.TypeIs (.ref a) "tuple" := ⟨o, hg, hc⟩
        unfold ofAClassStatement
        refine wpAny_bind (wpAny_typeOf hT ?_)
        dsimp only
        have e : (("tuple" : String) == "tuple") = true := by decide
        simp only [e, if_true, Bool.not_true, Bool.false_eq_true, if_false]
        try refine wpAny_bind (wpAny_pure ?_)
        try simp only [Bool.not_true, Bool.false_eq_true, if_false]
        show wpAny _ _ (seqItems? (.ref a) >>= _) _ _ s
        refine wpAny_bind (wpAny_seqItems hg hd ?_)
        dsimp only
        refine wpAny_bind ?_
        show wpAny _ _ (forIn vs _ _) _ _ s
        rw [← Array.forIn_toList]
        refine noClsAll ks vs.toList n A E s _ hk (by omega) ?_
        exact wpAny_pure h
theorem noClsAll : ∀ (ks : List NK) (vs : List Value) (n : Nat) (A : Around) (E : Value → Shared → Prop) (s : Shared) (Q : Option Bool × Unit → Shared → Prop), NestedAll s.heap ks vs → NestedKey.depthAll ks ≤ n → Q (none, ()) s →
    wpAny (model P w) A (forIn vs ((none, ()) : Option Bool × Unit) fun y r => do if ← ofAClassStatement n y then pure (ForInStep.done (some true, ())) else pure (ForInStep.yield (none, ()))) Q E s
  | [], _, n, A, E, s, Q, x, _, h => by
    cases x
    exact wpAny_pure h
  | k :: ks, _, n, A, E, s, Q, x, hn, h => by
    cases x with
    | cons x1 x2 =>
      simp only [NestedKey.depthAll] at hn
      rw [List.forIn_cons]
      refine wpAny_bind (wpAny_bind (noCls k _ n A E s _ x1 (by omega) ?_))
      simp only [Bool.false_eq_true, if_false]
      refine wpAny_pure ?_
      exact noClsAll ks _ n A E s Q x2 (by omega) h
end
/-! whether a key is hashed by its value: either answer -/
mutual
theorem byVal : ∀ (k : NK) (v : Value) (n : Nat) (A : Around) (E : Value → Shared → Prop) (s : Shared) (Q : Bool → Shared → Prop), NestedIs s.heap k v → (∀ b, Q b s) → wpAny (model P w) A (hashByValue n v) Q E s
  | .none, _, n, A, E, s, Q, x, h => by
    cases x
    cases n <;> exact wpAny_pure (h _)
  | .num i, _, n, A, E, s, Q, x, h => by
    cases x <;> cases n <;> exact wpAny_pure (h _)
  | .text y, _, n, A, E, s, Q, x, h => by
    cases x
    cases n <;> exact wpAny_pure (h _)
  | .tup ks, _, n, A, E, s, Q, x, h => by
    cases x with
    | @tup a o vs m _ hg hc hd hk =>
      cases n with
      | zero => exact wpAny_pure (h _)
      | succ n =>
        have hT : s.TypeIs (.ref a) "tuple" := ⟨o, hg, hc⟩
        unfold hashByValue
        refine wpAny_bind (wpAny_specialOf hT F.slot_tuple_hash.lookup ?_)
        show wpAny _ _ (seqItems? (.ref a) >>= _) _ _ s
        refine wpAny_bind (wpAny_seqItems hg hd ?_)
        refine wpAny_bind ?_
        show wpAny _ _ (forIn vs _ _) _ _ s
        rw [← Array.forIn_toList]
        refine byValAll ks vs.toList n A E s _ hk ?_ ?_
        · exact wpAny_pure (h _)
        · exact wpAny_pure (h _)
theorem byValAll : ∀ (ks : List NK) (vs : List Value) (n : Nat) (A : Around) (E : Value → Shared → Prop) (s : Shared) (Q : Option Bool × Unit → Shared → Prop), NestedAll s.heap ks vs → Q (none, ()) s → Q (some false, ()) s →
    wpAny (model P w) A (forIn vs ((none, ()) : Option Bool × Unit) fun y r => do if !(← hashByValue n y) then pure (ForInStep.done (some false, ())) else pure (ForInStep.yield (none, ()))) Q E s
  | [], _, n, A, E, s, Q, x, h, _ => by
    cases x
    exact wpAny_pure h
  | k :: ks, _, n, A, E, s, Q, x, h, h2 => by
    cases x with
    | cons x1 x2 =>
      rw [List.forIn_cons]
      refine wpAny_bind (wpAny_bind (byVal k _ n A E s _ x1 fun b => ?_))
      cases b with
      | true =>
        simp only [Bool.not_true, Bool.false_eq_true, if_false]
        refine wpAny_pure ?_
        exact byValAll ks _ n A E s Q x2 h h2
      | false =>
        simp only [Bool.not_false, if_true]
        exact wpAny_pure (wpAny_pure h2)
end
end
/-! ### sets of tuples -/
/-- a tuple that is a key, not too deep -/
def TupK (h : Heap) (k : NK) (a : Addr) : Prop := NestedIs h k (.ref a) ∧ k.depth ≤ 8
theorem TupK.one {h : Heap} {k k' : NK} {a : Addr} (x : TupK h k a) (y : TupK h k' a) : k = k' := NestedIs.inj _ _ _ x.1 y.1
theorem TupK.kept {h h' : Heap} {k : NK} {a : Addr} (x : TupK h k a) (u : ∀ b o, h.get? b = some o → h'.get? b = some o) : TupK h' k a :=
  ⟨NestedIs.at (fun b o _ _ e _ => u b o e) _ _ x.1, x.2⟩
/-- all but a set stays -/
theorem TupK.butSet {h h' : Heap} {k : NK} {a b : Addr} {o : Obj} {es : Array (Int × Value)} {ep : Nat} {t : SetTable} (x : TupK h k b) (ho : h.get? a = some o) (hd : o.data = .set es ep t) (sb : Heap.SameBut a h h') : TupK h' k b := by
  refine ⟨NestedIs.at (fun c u vs n e es' => (sb.2 c ?_).trans e) _ _ x.1, x.2⟩
  intro z
  subst z
  have q : u = o := Option.some.inj (e.symm.trans ho)
  rw [q, hd] at es'
  exact nomatch es'
/-- the entries of a table -/
def ents (w : World) (L : List (Addr × NK)) : List (Int × Value) := L.map fun p => (p.2.hash w, Value.ref p.1)
def hashes (w : World) (L : List (Addr × NK)) : List Int := L.map fun p => p.2.hash w
theorem ents_len (w : World) (L : List (Addr × NK)) : (ents w L).length = L.length := List.length_map _
theorem hashes_len (w : World) (L : List (Addr × NK)) : (hashes w L).length = L.length := List.length_map _
structure TSet (P : Program) (w : World) (h : Heap) (a : Addr) (L : List (Addr × NK)) (es : Array (Int × Value)) (ep : Nat) (t : SetTable) : Prop where
  ob : ∃ o, h.get? a = some o ∧ o.ExactSet ∧ o.data = .set es ep t
  en : es.toList = ents w L
  tab : TabOk t (hashes w L)
  nd : (L.map (·.2)).Nodup
  ks : ∀ p ∈ L, TupK h p.2 p.1
  led : w.params.followText "set-order" = true ∨ t.led = true
  room : L.length * 5 < t.mask * 3
  few : L.length < 64
section
variable {P : Program} {w : World} {A : Around} {E : Value → Shared → Prop} {s : Shared} {a : Addr} {L : List (Addr × NK)} {es : Array (Int × Value)} {ep : Nat} {t : SetTable}
theorem size_of_ents (h : es.toList = ents w L) : es.size = L.length := by
  rw [← Array.length_toList, h, ents_len]
theorem TSet.fits (R : TSet P w s.heap a L es ep t) : t.fits es.size = true := by
  have a1 := R.tab.sz
  have a2 := size_of_ents R.en
  have a3 := R.room
  rw [hashes_len] at a1
  unfold SetTable.fits SetTable.fill
  rw [R.tab.dm, Bool.and_eq_true, beq_iff_eq, decide_eq_true_eq]
  refine ⟨by omega, ?_⟩
  show t.place.size + 0 ≤ t.mask
  omega
theorem TSet.at (R : TSet P w s.heap a L es ep t) {i : Nat} {p : Addr × NK} (h : L[i]? = some p) : es[i]? = some (p.2.hash w, Value.ref p.1) := by
  rw [← Array.getElem?_toList, R.en]
  unfold ents
  rw [List.getElem?_map, h]
  rfl
/-- nobody sees a search among such tuples -/
theorem unseen {k : NK} {b : Addr} {Q : Bool → Shared → Prop} (hk : TupK s.heap k b) {ys : List Value} (hy : ∀ y ∈ ys, ∃ k' c, y = Value.ref c ∧ TupK s.heap k' c) (h : Q false s) : wpAny (model P w) A (searchCouldBeSeen (.ref b) ys) Q E s := by
  unfold searchCouldBeSeen
  refine wpAny_bind ?_
  refine wpAny_forIn_list _ (fun rest r s' => r.1 = none ∧ s' = s ∧ ∀ y ∈ rest, ∃ k' c, y = Value.ref c ∧ TupK s.heap k' c) _ ?turn ?last _ _ ⟨rfl, rfl, hy⟩
  case turn =>
    rintro v rest r s' ⟨hr, rfl, all⟩
    obtain ⟨k', c, rfl, hc⟩ := all v List.mem_cons_self
    have more : ∀ y ∈ rest, ∃ k' c, y = Value.ref c ∧ TupK s'.heap k' c := fun u hu => all u (List.mem_cons_of_mem _ hu)
    dsimp only
    by_cases hv : (b == c || (carriedByValue (.ref b) && carriedByValue (.ref c))) = true
    · exact wp_if_pos hv (wpAny_pure ⟨rfl, rfl, more⟩)
    · refine wp_if_neg hv (wpAny_bind ((nestedKind P w).quiet (k := k) hk ?_))
      simp only [Bool.not_true, Bool.false_eq_true, if_false]
      refine wpAny_bind ((nestedKind P w).quiet (k := k') hc ?_)
      simp only [Bool.not_true, Bool.false_eq_true, if_false]
      refine wpAny_bind (noCls k _ 8 _ _ _ _ hk.1 hk.2 ?_)
      simp only [Bool.false_eq_true, if_false]
      refine wpAny_bind (noCls k' _ 8 _ _ _ _ hc.1 hc.2 ?_)
      simp only [Bool.false_eq_true, if_false]
      exact wpAny_pure ⟨rfl, rfl, more⟩
  case last =>
    rintro ⟨r1, r2⟩ s' ⟨hr, rfl, _⟩
    simp only at hr
    subst hr
    exact wpAny_pure h
end
/-! ### the search -/
/-- the states of a search for the hash g, one after the other -/
def st (m : Nat) (g : Int) (c : Nat) : SetTable.Probe := nth m (runAt m (SetTable.bits g % (m + 1)) (SetTable.bits g)) c
theorem st_way (m : Nat) (g : Int) (c : Nat) : (st m g c).j = way m g c := rfl
theorem st_more (m : Nat) (g : Int) (c q : Nat) : nth m (st m g c) q = st m g (c + q) := (nth_add m c _ q).symm
theorem nth_dummy (m : Nat) : ∀ (n : Nat) (p : SetTable.Probe), p.dummy = none → (nth m p n).dummy = none
  | 0, _, h => h
  | n + 1, p, h => nth_dummy m n (adv m p) (by unfold adv; split <;> exact h)
theorem st_dummy (m : Nat) (g : Int) (c : Nat) : (st m g c).dummy = none := nth_dummy m c _ rfl
section
variable {P : Program} {w : World} {A : Around} {E : Value → Shared → Prop} {s : Shared} {a : Addr} {L : List (Addr × NK)} {es : Array (Int × Value)} {ep : Nat} {t : SetTable}
theorem hunt (R : TSet P w s.heap a L es ep t) {x : Addr} {k : NK} (hx : TupK s.heap k x) (hu : A.units + 8 < cLine) {g : Int} (hg : g = k.hash w) {K : Nat} (hf : K < 10 * SetTable.turns t.mask)
    (free : way t.mask g K ∉ t.place.toList) (full : ∀ c, c < K → way t.mask g c ∈ t.place.toList) {Q : SetFound → Shared → Prop}
    (yes : k ∈ L.map (·.2) → Q (.there none) s) (no : k ∉ L.map (·.2) → Q (.free (way t.mask g K) false) s) :
    ∀ (f c : Nat) (stand : Option SetTable.Probe), stand.getD (t.probeStart g) = st t.mask g c → c ≤ K → K - c < f →
      (∀ (i : Nat) p, L[i]? = some p → p.2 = k → ∃ c', c ≤ c' ∧ c' < K ∧ t.place.toList[i]? = some (way t.mask g c')) →
      wpAny (model P w) A (setSearchFrom a (.ref x) g true f stand) Q E s
  | 0, c, stand, _, _, h, _ => absurd h (Nat.not_lt_zero _)
  | f + 1, c, stand, hst, hc, hlt, ahead => by
    obtain ⟨o, ho, hex, hd⟩ := R.ob
    have big := R.fits
    have hashOf : ∀ (i : Nat) p, L[i]? = some p → (es[i]?.map (·.1)).getD 0 = p.2.hash w := fun i p hp => by
      rw [R.at hp]
      rfl
    have oddM := mask_odd R.tab.mok
    rw [setSearchFrom_succ]
    refine wpAny_bind (wpAny_setState_of ho hd big ?_)
    dsimp only
    refine wp_if_neg (by unfold SetTable.gaveWay; rw [oddM]; decide) ?_
    try refine wpAny_bind (wpAny_pure ?_)
    have jAt : ∀ q, (nth t.mask (st t.mask g c) q).j = way t.mask g (c + q) := fun q => congrArg SetTable.Probe.j (st_more t.mask g c q)
    rcases go_spec t R.tab.ris R.tab.dm (fun i => (es[i]?.map (·.1)).getD 0) g (10 * SetTable.turns t.mask) (K - c) (st t.mask g c) (st_dummy _ _ _) (by omega)
      (fun q hq => by rw [jAt]; exact full (c + q) (by omega)) (by rw [jAt, show c + (K - c) = K by omega]; exact free) with ⟨q, i, hq, hi, hh, first, met⟩ | ⟨none_, met⟩
    · -- an entry of this hash
      have met' : t.probe (fun i => (es[i]?.map (·.1)).getD 0) g (stand.getD (t.probeStart g)) = some (.candidate (way t.mask g (c + q)) i (st t.mask g (c + (q + 1)))) := by
        rw [hst, ← jAt, ← st_more]
        exact met
      rw [met']
      dsimp only
      rw [jAt] at hi
      have il : i < L.length := by
        have z1 : i < t.place.toList.length := (List.getElem?_eq_some_iff.mp hi).1
        have z2 := R.tab.sz
        rw [hashes_len] at z2
        rw [Array.length_toList] at z1
        omega
      obtain ⟨p, hp⟩ : ∃ p, L[i]? = some p := ⟨L[i], List.getElem?_eq_getElem il⟩
      have pm : p ∈ L := List.mem_of_getElem? hp
      have pk := R.ks p pm
      have go : wpAny (model P w) A (searchRest a (.ref x) g true f es t (way t.mask g (c + q)) i (st t.mask g (c + (q + 1)))) Q E s := by
        unfold searchRest
        rw [R.at hp]
        dsimp only
        refine wpAny_bind (wpAny_holding ((nestedKind P w).eqBool (x := p.2) (y := k) hu pk hx ?_))
        refine wpAny_bind (wpAny_setState_of ho hd big ?_)
        dsimp only
        by_cases same : p.2 = k
        · refine wp_if_pos (by simp [same]) (wpAny_pure (yes ?_))
          exact List.mem_map.mpr ⟨p, pm, same⟩
        · refine wp_if_neg (by simp [same]) ?_
          try refine wpAny_bind (wpAny_pure ?_)
          rw [sameMem]
          dsimp only
          have live : t.slot (way t.mask g (c + q)) = .live i := slot_live R.tab.ris hi
          simp only [if_true, live, R.at hp]
          refine wpAny_bind (wpAny_isSame_ref_self (wpAny_bind (wpAny_pure ?_)))
          simp only [if_true]
          refine wp_if_neg (by simp [same]) ?_
          refine hunt R hx hu hg hf free full yes no f (c + (q + 1)) _ rfl (by omega) (by omega) fun i0 p0 h0 k0 => ?_
          obtain ⟨c', b1, b2, b3⟩ := ahead i0 p0 h0 k0
          refine ⟨c', ?_, b2, b3⟩
          by_cases ec : c' = c + q
          · exfalso
            rw [ec] at b3
            have l0 := slot_live R.tab.ris b3
            rw [live] at l0
            injection l0 with l0
            rw [← l0, hp] at h0
            exact same ((congrArg Prod.snd (Option.some.inj h0)).trans k0)
          · by_cases lt : c' < c + q
            · exfalso
              refine first (c' - c) i0 (by omega) (by rw [jAt, show c + (c' - c) = c' by omega]; exact b3) ?_
              show (es[i0]?.map (·.1)).getD 0 = g
              rw [hashOf i0 p0 h0, k0, hg]
            · omega
      by_cases hl : t.led = true
      · refine wp_if_neg (by simp [hl]) ?_
        try refine wpAny_bind (wpAny_pure ?_)
        exact go
      · refine wp_if_pos (by simp [hl]) (wpAny_bind (unseen hx (fun y hy => ?_) ?_))
        · obtain ⟨e, he, ee⟩ := List.mem_map.mp hy
          have he1 : e ∈ es ∧ e.1 = g := by simpa using he
          have he2 : e ∈ es.toList := by simpa using he1.1
          rw [R.en] at he2
          obtain ⟨p2, hp2, e2⟩ := List.mem_map.mp he2
          exact ⟨p2.2, p2.1, by rw [← ee, ← e2], R.ks p2 hp2⟩
        · refine wp_if_neg (by decide) ?_
          try refine wpAny_bind (wpAny_pure ?_)
          exact go
    · -- a free slot
      have met' : t.probe (fun i => (es[i]?.map (·.1)).getD 0) g (stand.getD (t.probeStart g)) = some (.empty (way t.mask g K) none) := by
        have e2 : way t.mask g K = (nth t.mask (st t.mask g c) (K - c)).j := by
          rw [jAt, show c + (K - c) = K by omega]
        rw [hst, e2]
        exact met
      rw [met']
      dsimp only
      refine wpAny_pure (no fun hm => ?_)
      obtain ⟨p0, m0, k0⟩ := List.mem_map.mp hm
      obtain ⟨i0, hi0, e0⟩ := List.getElem_of_mem m0
      have h0 : L[i0]? = some p0 := by rw [List.getElem?_eq_getElem hi0, e0]
      obtain ⟨c', b1, b2, b3⟩ := ahead i0 p0 h0 k0
      refine none_ (c' - c) i0 (by omega) (by rw [jAt, show c + (c' - c) = c' by omega]; exact b3) ?_
      show (es[i0]?.map (·.1)).getD 0 = g
      rw [hashOf i0 p0 h0, k0, hg]
theorem hunted (R : TSet P w s.heap a L es ep t) {x : Addr} {k : NK} (hx : TupK s.heap k x) (hu : A.units + 8 < cLine) {Q : SetFound → Shared → Prop} (yes : k ∈ L.map (·.2) → Q (.there none) s)
    (no : ∀ K, k ∉ L.map (·.2) → way t.mask (k.hash w) K ∉ t.place.toList → (∀ c, c < K → way t.mask (k.hash w) c ∈ t.place.toList) → Q (.free (way t.mask (k.hash w) K) false) s) :
    wpAny (model P w) A (setSearch a (.ref x) (k.hash w) true) Q E s := by
  have space := R.room
  obtain ⟨K, kf, free, full⟩ := R.tab.first (by rw [hashes_len]; omega) (k.hash w)
  have small : K < 100000 := by
    have : 10 * SetTable.turns t.mask ≤ 1420 := by
      unfold SetTable.turns
      rcases R.tab.mok with e | e | e <;> omega
    omega
  unfold setSearch
  refine hunt R hx hu rfl kf free full yes (fun hn => no K hn free full) 100000 0 none rfl (Nat.zero_le _) (by omega) fun i p hp hk => ?_
  have hi : (hashes w L)[i]? = some (k.hash w) := by
    unfold hashes
    rw [List.getElem?_map, hp, ← hk]
    rfl
  have il : i < t.place.toList.length := by
    have z1 : i < L.length := (List.getElem?_eq_some_iff.mp hp).1
    have z2 := R.tab.sz
    rw [hashes_len] at z2
    rw [Array.length_toList]
    omega
  have hj := List.getElem?_eq_getElem il
  obtain ⟨c, hc, e⟩ := R.tab.before free hi hj
  exact ⟨c, Nat.zero_le _, hc, by rw [hj, e]⟩
end
/-! ### one put in -/
theorem relist {w : World} (L : List (Addr × NK)) (es : Array (Int × Value)) (order : Array Nat) (he : es.toList = ents w L) (hp : order.toList.Perm (List.range L.length)) :
    ∃ L2, (order.filterMap (es[·]?)).toList = ents w L2 ∧ L2.Perm L ∧ hashes w L2 = order.toList.map fun i => (es.map (·.1)).getD i 0 := by
  have one : ∀ i (h : i < L.length), es[i]? = some ((L[i]).2.hash w, Value.ref (L[i]).1) := fun i h => by
    rw [← Array.getElem?_toList, he]
    unfold ents
    rw [List.getElem?_map, List.getElem?_eq_getElem h]
    rfl
  have all : ∀ l : List Nat, (∀ i ∈ l, i < L.length) → l.filterMap (fun i => es[i]?) = ents w (l.filterMap fun i => L[i]?) ∧ hashes w (l.filterMap fun i => L[i]?) = l.map fun i => (es.map (·.1)).getD i 0 := by
    intro l
    induction l with
    | nil => exact fun _ => ⟨rfl, rfl⟩
    | cons i l ih =>
      intro hl
      have hi := hl i List.mem_cons_self
      obtain ⟨e1, e2⟩ := ih fun j hj => hl j (List.mem_cons_of_mem _ hj)
      rw [List.filterMap_cons_some (List.getElem?_eq_getElem hi), List.filterMap_cons_some (one i hi), e1, List.map_cons, ← e2]
      refine ⟨rfl, ?_⟩
      have e5 : (es.map (·.1))[i]? = some ((L[i]).2.hash w) := by
        rw [Array.getElem?_map, one i hi]
        rfl
      have e4 : (es.map (·.1)).getD i 0 = (L[i]).2.hash w := by simp [Array.getD_eq_getD_getElem?, e5]
      rw [e4]
      rfl
  obtain ⟨e1, e2⟩ := all order.toList fun i hi => List.mem_range.mp (hp.mem_iff.mp hi)
  refine ⟨order.toList.filterMap fun i => L[i]?, by first | (rw [Array.toList_filterMap]; exact e1) | simpa using e1, ?_, e2⟩
  have z := hp.filterMap fun i => L[i]?
  rw [List.filterMap_getElem?_range_length] at z
  exact z
theorem TabOk.unplain {t : SetTable} {hs : List Int} (T : TabOk t hs) : TabOk { t with plain := false } hs := ⟨T.ris, T.dm, T.sz, T.mok, T.bd, T.reach⟩
section
variable {P : Program} {w : World} {A : Around} {E : Value → Shared → Prop} {s : Shared} {a : Addr} {L : List (Addr × NK)} {es : Array (Int × Value)} {ep : Nat} {t : SetTable}
theorem relaid_at {o : Obj} (ho : s.heap.get? a = some o) (hex : o.ExactSet) (hd : o.data = .set es ep t) (en : es.toList = ents w L) (tab : TabOk t (hashes w L)) (hfl : L.length ≤ t.mask)
    (nd : (L.map (·.2)).Nodup) (ks : ∀ p ∈ L, TupK s.heap p.2 p.1) (ld : w.params.followText "set-order" = true ∨ t.led = true) (few : L.length < 64) {wanted M : Nat}
    (hw : SetTable.sizeAbove wanted - 1 = M) (hM : MaskOk M) (hw2 : SetTable.sizeAbove wanted ≤ 128) (hn : L.length * 5 < M * 3) {Q : Unit → Shared → Prop}
    (hQ : ∀ h' L' es' ep' t', Heap.SameBut a s.heap h' → TSet P w h' a L' es' ep' t' → L'.Perm L → Q () { s with heap := h' }) : wpAny (model P w) A (setRelay a wanted) Q E s := by
  have hsl := size_of_ents en
  have hps : t.place.size = es.size := by rw [tab.sz, hashes_len, hsl]
  have fits : t.fits es.size = true := by
    unfold SetTable.fits SetTable.fill
    rw [tab.dm, Bool.and_eq_true, beq_iff_eq, decide_eq_true_eq]
    refine ⟨hps, ?_⟩
    show t.place.size + 0 ≤ t.mask
    omega
  obtain ⟨t', order, e, hp, T, em, el, _, _⟩ := relaid_ok t (hs := es.map (·.1)) (wanted := wanted) hw hM (by rw [Array.size_map, hsl]; omega)
  rw [Array.size_map, hsl] at hp
  obtain ⟨L2, r1, r2, r3⟩ := relist L es order en hp
  rw [← r3] at T
  have hs2 : (order.filterMap (es[·]?)).size = es.size := by rw [size_of_ents r1, r2.length_eq, hsl]
  rw [setRelay_eq]
  refine wpAny_bind (wpAny_setState_of ho hd fits ?_)
  dsimp only
  refine wp_if_neg (by rw [sizeLine_eq]; omega) ?_
  try refine wpAny_bind (wpAny_pure ?_)
  rw [e]
  dsimp only
  refine wpAny_bind (wp_if_neg (by rw [hs2]; simp) ?_)
  try refine wpAny_bind (wpAny_pure ?_)
  refine wpAny_pure ?_
  dsimp only
  refine wpAny_storeSet_of ho hd ?_ (by rw [hs2, hsl, sizeLine_eq]; omega)
  have sb : Heap.SameBut a s.heap (s.heap.update a (Obj.putSet (order.filterMap (es[·]?)) t')) := Heap.SameBut.update ..
  refine hQ _ L2 (order.filterMap (es[·]?)) (ep + 1) t' sb ⟨⟨_, store_at ho hd, ⟨hex.1, hex.2.1, hex.2.2⟩, rfl⟩, r1, T, (r2.map (·.2)).nodup_iff.mpr nd, fun p hpm => (ks p (r2.mem_iff.mp hpm)).butSet ho hd sb, by rw [el]; exact ld, ?_, by rw [r2.length_eq]; exact few⟩ r2
  rw [r2.length_eq, em]
  exact hn
/-- adding -/
theorem added (R : TSet P w s.heap a L es ep t) {x : Addr} {k : NK} (hx : TupK s.heap k x) (hu : A.units + 8 < cLine) (hfew : L.length + 1 < 64) {Q : Bool → Shared → Prop}
    (hQ : ∀ b h' L' es' ep' t', Heap.SameBut a s.heap h' → TSet P w h' a L' es' ep' t' → (k ∈ L.map (·.2) → L' = L) → (k ∉ L.map (·.2) → L'.Perm ((x, k) :: L)) → Q b { s with heap := h' }) :
    wpAny (model P w) A (setAddHashed a (.ref x) (k.hash w)) Q E s := by
  obtain ⟨o, ho, hex, hd⟩ := R.ob
  have hsl := size_of_ents R.en
  have hroom := R.room
  unfold setAddHashed
  refine wpAny_holding ?_
  rw [show (100000 : Nat) = 99999 + 1 from rfl, setAddHashedIn_succ]
  refine wpAny_bind (wpAny_setState_of ho hd R.fits ?_)
  dsimp only
  refine wp_if_neg (by simp [byScan, Value.scannable]) ?_
  try refine wpAny_bind (wpAny_pure ?_)
  refine wpAny_bind (hunted R hx hu (fun hm => ?_) fun K hm hK hb => ?_)
  · dsimp only
    exact wpAny_pure (hQ false s.heap L es ep t (Heap.SameBut.refl a s.heap) R (fun _ => rfl) fun z => absurd hm z)
  · dsimp only
    refine wpAny_bind (wpAny_setState_of ho hd R.fits ?_)
    dsimp only
    obtain ⟨q1, q2, q3, q4, q5, _, _, _, q9⟩ := R.tab.put hK hb
    generalize hpt : t.put (way t.mask (k.hash w) K) = pt at q1 q3 q4 q5 q9 ⊢
    obtain ⟨t1, p⟩ := pt
    dsimp only at q1 q3 q4 q5 q9 ⊢
    subst q1
    generalize hpp : SetTable.below t.place (way t.mask (k.hash w) K) = p at q2 q3 ⊢
    have hin : (SetTable.insertAt es p (k.hash w, Value.ref x)).toList = ents w (L.take p ++ (x, k) :: L.drop p) := by
      rw [SetTable.toList_insertAt, R.en]
      unfold ents
      rw [List.map_append, List.map_cons, List.map_take, List.map_drop]
    have pm := put_perm L p (x, k)
    have hlen : (L.take p ++ (x, k) :: L.drop p).length = L.length + 1 := pm.length_eq
    have hhs : hashes w (L.take p ++ (x, k) :: L.drop p) = (hashes w L).take p ++ k.hash w :: (hashes w L).drop p := by
      unfold hashes
      rw [List.map_append, List.map_cons, List.map_take, List.map_drop]
    rw [← hhs] at q3
    have nd1 : ((L.take p ++ (x, k) :: L.drop p).map (·.2)).Nodup := by
      refine (pm.map (·.2)).nodup_iff.mpr ?_
      rw [List.map_cons]
      exact List.nodup_cons.mpr ⟨hm, R.nd⟩
    have hes : (SetTable.insertAt es p (k.hash w, Value.ref x)).size = L.length + 1 := by rw [size_of_ents hin, hlen]
    generalize SetTable.insertAt es p (k.hash w, Value.ref x) = es1 at hin hes ⊢
    generalize L.take p ++ (x, k) :: L.drop p = L1 at pm hlen q3 nd1 hin
    have ld1 : w.params.followText "set-order" = true ∨ t1.led = true := by rw [q5]; exact R.led
    -- behind the question whether the hash is by value: t2 is t1, but for one mark
    have rest : ∀ t2 : SetTable, TabOk t2 (hashes w L1) → t2.mask = t.mask → t2.fill = L.length + 1 → (w.params.followText "set-order" = true ∨ t2.led = true) →
        wpAny (model P w) A (do
          storeSet a es1 t2
          if (!false && t2.tooFull) = true then do
              setRelay a (SetTable.grown (es.size + 1))
              pure true
            else pure true) Q E s := by
      intro t2 T2 m2 f2 l2
      refine wpAny_bind (wpAny_storeSet_of ho hd ?_ (by rw [hes, sizeLine_eq]; omega))
      have sb : Heap.SameBut a s.heap (s.heap.update a (Obj.putSet es1 t2)) := Heap.SameBut.update ..
      have ho1 := store_at (es' := es1) (t' := t2) ho hd
      generalize s.heap.update a (Obj.putSet es1 t2) = h1 at sb ho1 ⊢
      have ks1 : ∀ p ∈ L1, TupK h1 p.2 p.1 := fun p hp => by
        rcases List.mem_cons.mp (pm.mem_iff.mp hp) with e | hp
        · rw [e]
          exact hx.butSet ho hd sb
        · exact (R.ks p hp).butSet ho hd sb
      by_cases hf : t2.tooFull = true
      · refine wp_if_pos (by simp [hf]) ?_
        have hfull : (L.length + 1) * 5 ≥ t2.mask * 3 := by
          have h := hf
          unfold SetTable.tooFull at h
          rw [decide_eq_true_eq, f2] at h
          exact h
        rw [hsl]
        have two : (t.mask = 7 ∧ L.length = 4) ∨ (t.mask = 31 ∧ L.length = 18) := by
          rcases R.tab.mok with e | e | e
          · left; rw [m2, e] at hfull; rw [e] at hroom; exact ⟨e, by omega⟩
          · right; rw [m2, e] at hfull; rw [e] at hroom; exact ⟨e, by omega⟩
          · exfalso; rw [m2, e] at hfull; omega
        have go : ∀ M, SetTable.sizeAbove (SetTable.grown (L.length + 1)) - 1 = M → MaskOk M → SetTable.sizeAbove (SetTable.grown (L.length + 1)) ≤ 128 → (L.length + 1) * 5 < M * 3 →
            wpAny (model P w) A (do setRelay a (SetTable.grown (L.length + 1)); pure true) Q E { s with heap := h1 } := fun M e1 e2 e3 e4 => by
          refine wpAny_bind (relaid_at (s := { s with heap := h1 }) ho1 ⟨hex.1, hex.2.1, hex.2.2⟩ rfl hin T2 (by rw [hlen, m2]; rcases two with ⟨e, e'⟩ | ⟨e, e'⟩ <;> omega) nd1 ks1 l2 (by rw [hlen]; exact hfew) e1 e2 e3 (by rw [hlen]; exact e4) ?_)
          intro h2 L2 es2 ep2 t2 sb2 R2 pm2
          exact wpAny_pure (hQ true h2 L2 es2 ep2 t2 (sb.trans sb2) R2 (fun z => absurd z hm) fun _ => pm2.trans pm)
        rcases two with ⟨_, e2⟩ | ⟨_, e2⟩
        · exact go 31 (by rw [e2, size_20]) (.inr (.inl rfl)) (by rw [e2, size_20]; decide) (by omega)
        · exact go 127 (by rw [e2, size_76]) (.inr (.inr rfl)) (by rw [e2, size_76]; decide) (by omega)
      · refine wp_if_neg (by simp [hf]) ?_
        refine wpAny_pure (hQ true h1 L1 es1 (ep + 1) t2 sb ⟨⟨_, ho1, ⟨hex.1, hex.2.1, hex.2.2⟩, rfl⟩, hin, T2, nd1, ks1, l2, ?_, by rw [hlen]; exact hfew⟩ (fun z => absurd z hm) fun _ => pm)
        have h := hf
        unfold SetTable.tooFull at h
        rw [decide_eq_true_eq, f2] at h
        rw [hlen]
        omega
    have f1 : t1.fill = L.length + 1 := by rw [q9, hashes_len]
    have close : ∀ b : Bool, wpAny (model P w) A (do
          storeSet a es1 (if b = true then t1 else { t1 with plain := false })
          if (!false && (if b = true then t1 else { t1 with plain := false }).tooFull) = true then do
              setRelay a (SetTable.grown (es.size + 1))
              pure true
            else pure true) Q E s := fun b => by
      cases b with
      | true => exact rest t1 q3 q4 f1 ld1
      | false => exact rest { t1 with plain := false } (TabOk.unplain q3) q4 f1 ld1
    by_cases hpl : t1.plain = true
    · first
        | exact wpAny_bind (wp_if_pos hpl (byVal k _ 8 _ _ _ _ hx.1 fun b => close b))
        | exact wp_if_pos hpl (wpAny_bind (byVal k _ 8 _ _ _ _ hx.1 fun b => close b))
    · first
        | exact wpAny_bind (wp_if_neg hpl (wpAny_pure (close true)))
        | exact wp_if_neg hpl (wpAny_bind (wpAny_pure (close true)))
end
end Rw
namespace Rw
open PySem PySem.Spec PyProof.Rows L2
/-! ### set(xs): filled item by item -/
/-- a new set -/
abbrev newSetObj (w : World) : Obj := { cls := .type "set", dict := none, data := .set #[] 0 (.fresh 0 0 (!w.params.followText "set-order")) }
/-- G i: the set at S has got the first i items -/
structure Fill (P : Program) (w : World) (S : Addr) (h0 : Heap) (items : List Value) (G : Nat → Heap → Prop) : Prop where
  start : ∀ h, h.get? S = some (newSetObj w) → G 0 h
  keep : ∀ i h h', G i h → (∀ o, h.get? S = some o → h'.get? S = some o) → (∀ b o, h0.get? b = some o → h'.get? b = some o) → G i h'
  put : ∀ i v (A : Around) (E : Value → Shared → Prop) (s : Shared) (Q : Bool → Shared → Prop), A.units + 8 < cLine → items[i]? = some v → G i s.heap → (∀ b o, h0.get? b = some o → s.heap.get? b = some o) →
    (∀ b h' tk, s.toks ≤ tk → Heap.SameBut S s.heap h' → G (i + 1) h' → Q b { s with heap := h', toks := tk }) → wpAny (model P w) A (setAdd S v) Q E s
section
variable {P : Program} {w : World} {A : Around} {E : Value → Shared → Prop} {s : Shared}
theorem fill_loop {I : Addr} {fp wr : List Addr} {GG : Array GenState → Array GenState → Prop} {n : Nat} {Pv : Nat → Value → Prop} {St : Nat → Shared → Prop} {R : Result → Shared → Prop} {S : Addr} {h0 : Heap} {items : List Value} {G : Nat → Heap → Prop}
    (W : WalksS P w A.in1 I fp wr GG n Pv St) (hSf : S ∉ fp) (T : Fill P w S h0 items G) (hval : ∀ i v, Pv i v → items[i]? = some v) (hS0 : h0.get? S = none) (hw0 : ∀ b ∈ wr, h0.get? b = none) (hu : A.in1.units + 8 < cLine) :
    ∀ (k i : Nat) (s : Shared), n - i = k → i ≤ n → St i s → (∀ b o, h0.get? b = some o → s.heap.get? b = some o) → G i s.heap →
      (∀ s', Moved (S :: wr) GG s s' → G n s'.heap → (∀ b o, h0.get? b = some o → s'.heap.get? b = some o) → R (.ok (.ret .none)) s') →
      codeAny (model P w) A (.builtin "set.update.loop" ⟨[.ref S, .ref I], []⟩) R s := by
  have hSw : S ∉ wr := fun h => hSf (W.sub _ h)
  have wider : ∀ b ∈ wr, b ∈ S :: wr := fun b hb => List.mem_cons_of_mem _ hb
  have old : ∀ {s s' : Shared}, Moved wr GG s s' → (∀ b o, h0.get? b = some o → s.heap.get? b = some o) → ∀ b o, h0.get? b = some o → s'.heap.get? b = some o := fun hm hkp b o e =>
    hm.heap b o (fun hb => by rw [hw0 b hb] at e; cases e) (hkp b o e)
  intro k
  induction k with
  | zero =>
    intro i s hk' hi hst hkp g hR
    have hin : i = n := by omega
    subst hin
    refine codeAny_builtin F.entry_set_update_loop ?_
    rw [Around.under_plainId F.plain_set_update_loop _]
    show wpAny _ A.in1 (pyNext (.ref I) >>= _) _ _ s
    refine wpAny_bind (W.done s _ _ hst fun s' hm => ?_)
    show wpAny _ A.in1 (ret Value.none) _ _ s'
    exact wpAny_pure (hR s' (hm.mono wider) (T.keep _ _ _ g (fun o e => hm.heap S o hSw e) (old hm hkp)) (old hm hkp))
  | succ k ih =>
    intro i s hk' hi hst hkp g hR
    have hlt : i < n := by omega
    refine codeAny_builtin F.entry_set_update_loop ?_
    rw [Around.under_plainId F.plain_set_update_loop _]
    show wpAny _ A.in1 (pyNext (.ref I) >>= _) _ _ s
    refine wpAny_bind (W.item i s _ _ hlt hst fun v s' hP hst' hm => ?_)
    have hkp' := old hm hkp
    show wpAny _ A.in1 (holding [v] (setAdd S v) >>= _) _ _ s'
    refine wpAny_bind (wpAny_holding (T.put i v A.in1 _ s' _ hu (hval i v hP) (T.keep _ _ _ g (fun o e => hm.heap S o hSw e) hkp') hkp' fun b h' tk htk hsb g' => ?_))
    have hkp2 : ∀ b o, h0.get? b = some o → h'.get? b = some o := fun b o e => (hsb.2 b (fun z => by rw [z, hS0] at e; cases e)).trans (hkp' b o e)
    refine wpAny_pure ⟨plainId_quiet F.plain_set_update_loop _, ih (i + 1) _ (by omega) hlt (W.frame _ s' _ _ hst' htk fun b hb o e => ?_) hkp2 g' fun s'' hm'' g'' hkp'' => ?_⟩
    · rw [hsb.2 b (fun h : b = S => hSf (by rw [← h]; exact hb))]
      exact e
    · refine hR s'' (Moved.trans W.gtrans ((hm.mono wider).then_heap htk fun b o hb e => ?_) hm'') g'' hkp''
      rw [hsb.2 b (fun h : b = S => hb (by rw [h]; exact List.mem_cons_self))]
      exact e
theorem call_fill_list {l : Addr} {items : Array Value} {G : Nat → Heap → Prop} {Q : Value → Shared → Prop} (hh : A.handled = none) (hl : s.heap.IsList l items) (T : Fill P w s.heap.objs.size s.heap items.toList G) (hu : A.units + 16 < cLine)
    (h : ∀ (h' : Heap) (tk : Nat), G items.size h' → (∀ b o, s.heap.get? b = some o → h'.get? b = some o) → Q (.ref s.heap.objs.size) { s with heap := h', toks := tk }) :
    wpAny (model P w) A (call (.type "set") [.ref l]) Q E s := by
  obtain ⟨c, tl, hmro⟩ := F.called_set.mro
  have hmade := F.called_set.made
  have hsub := F.called_set.sub
  refine wpAny_call (codeAny_of_tree ?_)
  show wpAny _ _ (callAny (.type "set") _) _ _ _
  refine wpAny_pure ⟨Code.quiet_builtin _ (by decide +kernel), codeAny_builtin F.entry_type_call ?_⟩
  rw [Around.under_plain (weight_type_call_type "set" [.ref l] []) rfl]
  have f1 := F.called_set.notType
  have f2 := F.called_set.canCreate
  have f3 := F.typeCall_set_1 (.ref l)
  repeat (any_goals (first | assumption | wp_step))
  refine codeAny_mono (code_set_led1 (.ref l) (E := E) (Q₁ := fun obj s₁ => obj = .ref s.heap.objs.size ∧ s₁ = { s with heap := s.heap.push (newSetObj w) }) ⟨rfl, rfl⟩) fun r s₁ hr => ?_
  cases r with
  | error e => exact hr
  | ok fl =>
    cases fl with
    | ret obj =>
      obtain ⟨rfl, rfl⟩ := hr
      have hS : (s.heap.push (newSetObj w)).get? s.heap.objs.size = some (newSetObj w) := Heap.get?_push_size _ rfl
      have hT : Shared.TypeIs { s with heap := s.heap.push (newSetObj w) } (.ref s.heap.objs.size) "set" := ⟨_, hS, rfl⟩
      have f4 := F.called_set.init.lookup
      have f5 := F.called_set.init.bind (.ref s.heap.objs.size)
      repeat (any_goals (first | assumption | wp_step))
      refine codeAny_mono (codeAny_call_builtin (R := wants (fun r s₂ => r = .none ∧ ∃ h' tk, s₂ = { s with heap := h', toks := tk } ∧ G items.size h' ∧ (∀ b o, s.heap.get? b = some o → h'.get? b = some o)) E) F.called_set.init.plain F.entry_set_init (check_set_init_1 hT ?_)) fun r₂ s₂ hr₂ => ?_
      · obtain ⟨ol, hol, hcl, nl, hdl⟩ := hl
        obtain ⟨ocls, odict, odata, oslots⟩ := ol
        simp only at hcl hdl
        subst hcl; subst hdl
        have hol' : (s.heap.push (newSetObj w)).get? l = some { cls := .type "list", dict := odict, data := .seq items nl, slots := oslots } := Heap.get?_push_of_some _ hol
        have f6 := F.sub_list_set
        have f7 := F.sub_list_frozenset
        have f8 : (Value.type "list" == Value.type "dict") = false := by decide
        have hl1 : (s.heap.push (newSetObj w)).IsList l items := ⟨_, hol', rfl, nl, rfl⟩
        unfold Builtin.«set.__init__» noKeywords Builtin.Frozenset.updateFrom
        generalize hPI : pyIter = PI
        wp_walk
        subst hPI
        refine wpAny_pyIter_list hl1 ?_
        refine wpAny_bind (wpAny_runValue ?_)
        have hlS : l < s.heap.objs.size := Heap.lt_size hol
        have hh3 : A.in1.in1.in1.handled = none := by simp [hh]
        have hz1 : (s.heap.push (newSetObj w)).objs.size = s.heap.objs.size + 1 := Heap.size_push ..
        have hneI : l ≠ (s.heap.push (newSetObj w)).objs.size := by
          rw [Heap.size_push]
          exact Nat.ne_of_lt (Nat.lt_succ_of_lt hlS)
        have hSf : s.heap.objs.size ∉ [(s.heap.push (newSetObj w)).objs.size, l] := by
          rw [Heap.size_push]
          simp only [List.mem_cons, List.mem_singleton, List.not_mem_nil, or_false, not_or]
          exact ⟨Nat.ne_of_lt (Nat.lt_succ_self _), Nat.ne_of_gt hlS⟩
        have none_of : ∀ b, s.heap.objs.size ≤ b → s.heap.get? b = none := fun b hb => by
          cases q : s.heap.get? b with
          | none => rfl
          | some o => exact absurd (Nat.lt_of_lt_of_le (Heap.lt_size q) hb) (Nat.lt_irrefl _)
        refine fill_loop ((Walks.list hh3 _ l hneI items).toS) hSf T (fun i v hv => by rw [Array.getElem?_toList]; exact hv) (none_of _ (Nat.le_refl _)) (fun b hb => none_of b (by
            rw [List.mem_singleton.mp hb, Heap.size_push]
            exact Nat.le_succ _)) (by simp only [Around.in1_units]; omega) (items.size - 0) 0 _ (by omega) (Nat.zero_le _)
          ⟨⟨_, Heap.get?_push_size _ rfl, rfl, rfl⟩, (hl1.push _)⟩ (fun b o e => Heap.get?_push_of_some _ (Heap.get?_push_of_some _ e)) (T.start _ (Heap.get?_push_of_some _ hS)) ?hR
        intro s' hm g' hkp
        obtain ⟨h', g2, d', tk', os'⟩ := s'
        have eg : g2 = s.gens := hm.gens
        have ed : d' = s.drawn := hm.drawn
        have eo : os' = s.os := hm.os
        subst eg; subst ed; subst eo
        show wpAny _ _ _ _ _ _
        refine wpAny_pure ?_
        show wpAny _ _ (ret Value.none) _ _ _
        exact wpAny_pure ⟨rfl, h', tk', rfl, g', hkp⟩
      · cases r₂ with
        | error e => exact hr₂
        | ok fl₂ =>
          cases fl₂ with
          | ret r =>
            obtain ⟨rfl, h', tk, rfl, g', hk'⟩ := hr₂
            repeat (any_goals (first | assumption | wp_step))
            exact h _ _ g' hk'
          | _ => exact hr₂.elim
    | _ => exact hr.elim
theorem call_fill_tuple {l : Addr} {items : Array Value} {G : Nat → Heap → Prop} {Q : Value → Shared → Prop} (hh : A.handled = none) (hl : s.heap.IsTuple l items) (T : Fill P w s.heap.objs.size s.heap items.toList G) (hu : A.units + 16 < cLine)
    (h : ∀ (h' : Heap) (tk : Nat), G items.size h' → (∀ b o, s.heap.get? b = some o → h'.get? b = some o) → Q (.ref s.heap.objs.size) { s with heap := h', toks := tk }) :
    wpAny (model P w) A (call (.type "set") [.ref l]) Q E s := by
  obtain ⟨c, tl, hmro⟩ := F.called_set.mro
  have hmade := F.called_set.made
  have hsub := F.called_set.sub
  refine wpAny_call (codeAny_of_tree ?_)
  show wpAny _ _ (callAny (.type "set") _) _ _ _
  refine wpAny_pure ⟨Code.quiet_builtin _ (by decide +kernel), codeAny_builtin F.entry_type_call ?_⟩
  rw [Around.under_plain (weight_type_call_type "set" [.ref l] []) rfl]
  have f1 := F.called_set.notType
  have f2 := F.called_set.canCreate
  have f3 := F.typeCall_set_1 (.ref l)
  repeat (any_goals (first | assumption | wp_step))
  refine codeAny_mono (code_set_led1 (.ref l) (E := E) (Q₁ := fun obj s₁ => obj = .ref s.heap.objs.size ∧ s₁ = { s with heap := s.heap.push (newSetObj w) }) ⟨rfl, rfl⟩) fun r s₁ hr => ?_
  cases r with
  | error e => exact hr
  | ok fl =>
    cases fl with
    | ret obj =>
      obtain ⟨rfl, rfl⟩ := hr
      have hS : (s.heap.push (newSetObj w)).get? s.heap.objs.size = some (newSetObj w) := Heap.get?_push_size _ rfl
      have hT : Shared.TypeIs { s with heap := s.heap.push (newSetObj w) } (.ref s.heap.objs.size) "set" := ⟨_, hS, rfl⟩
      have f4 := F.called_set.init.lookup
      have f5 := F.called_set.init.bind (.ref s.heap.objs.size)
      repeat (any_goals (first | assumption | wp_step))
      refine codeAny_mono (codeAny_call_builtin (R := wants (fun r s₂ => r = .none ∧ ∃ h' tk, s₂ = { s with heap := h', toks := tk } ∧ G items.size h' ∧ (∀ b o, s.heap.get? b = some o → h'.get? b = some o)) E) F.called_set.init.plain F.entry_set_init (check_set_init_1 hT ?_)) fun r₂ s₂ hr₂ => ?_
      · obtain ⟨ol, hol, hcl, nl, hdl⟩ := hl
        obtain ⟨ocls, odict, odata, oslots⟩ := ol
        simp only at hcl hdl
        subst hcl; subst hdl
        have hol' : (s.heap.push (newSetObj w)).get? l = some { cls := .type "tuple", dict := odict, data := .seq items nl, slots := oslots } := Heap.get?_push_of_some _ hol
        have f6 := F.sub_tuple_set
        have f7 := F.sub_tuple_frozenset
        have f8 : (Value.type "tuple" == Value.type "dict") = false := by decide
        have hl1 : (s.heap.push (newSetObj w)).IsTuple l items := ⟨_, hol', rfl, nl, rfl⟩
        unfold Builtin.«set.__init__» noKeywords Builtin.Frozenset.updateFrom
        generalize hPI : pyIter = PI
        wp_walk
        subst hPI
        refine wpAny_pyIter_tuple hl1 ?_
        refine wpAny_bind (wpAny_runValue ?_)
        have hlS : l < s.heap.objs.size := Heap.lt_size hol
        have hh3 : A.in1.in1.in1.handled = none := by simp [hh]
        have hz1 : (s.heap.push (newSetObj w)).objs.size = s.heap.objs.size + 1 := Heap.size_push ..
        have hneI : l ≠ (s.heap.push (newSetObj w)).objs.size := by
          rw [Heap.size_push]
          exact Nat.ne_of_lt (Nat.lt_succ_of_lt hlS)
        have hSf : s.heap.objs.size ∉ [(s.heap.push (newSetObj w)).objs.size, l] := by
          rw [Heap.size_push]
          simp only [List.mem_cons, List.mem_singleton, List.not_mem_nil, or_false, not_or]
          exact ⟨Nat.ne_of_lt (Nat.lt_succ_self _), Nat.ne_of_gt hlS⟩
        have none_of : ∀ b, s.heap.objs.size ≤ b → s.heap.get? b = none := fun b hb => by
          cases q : s.heap.get? b with
          | none => rfl
          | some o => exact absurd (Nat.lt_of_lt_of_le (Heap.lt_size q) hb) (Nat.lt_irrefl _)
        refine fill_loop ((Walks.tuple hh3 _ l hneI items).toS) hSf T (fun i v hv => by rw [Array.getElem?_toList]; exact hv) (none_of _ (Nat.le_refl _)) (fun b hb => none_of b (by
            rw [List.mem_singleton.mp hb, Heap.size_push]
            exact Nat.le_succ _)) (by simp only [Around.in1_units]; omega) (items.size - 0) 0 _ (by omega) (Nat.zero_le _)
          ⟨⟨_, Heap.get?_push_size _ rfl, rfl, rfl⟩, (hl1.push _)⟩ (fun b o e => Heap.get?_push_of_some _ (Heap.get?_push_of_some _ e)) (T.start _ (Heap.get?_push_of_some _ hS)) ?hR
        intro s' hm g' hkp
        obtain ⟨h', g2, d', tk', os'⟩ := s'
        have eg : g2 = s.gens := hm.gens
        have ed : d' = s.drawn := hm.drawn
        have eo : os' = s.os := hm.os
        subst eg; subst ed; subst eo
        show wpAny _ _ _ _ _ _
        refine wpAny_pure ?_
        show wpAny _ _ (ret Value.none) _ _ _
        exact wpAny_pure ⟨rfl, h', tk', rfl, g', hkp⟩
      · cases r₂ with
        | error e => exact hr₂
        | ok fl₂ =>
          cases fl₂ with
          | ret r =>
            obtain ⟨rfl, h', tk, rfl, g', hk'⟩ := hr₂
            repeat (any_goals (first | assumption | wp_step))
            exact h _ _ g' hk'
          | _ => exact hr₂.elim
    | _ => exact hr.elim
end
end Rw
namespace Rw
open PySem PySem.Spec PyProof.Rows PySem.W PySem.SeqAt
/-! ### tuples, perhaps empty ones among them, sorted -/
section
variable {prog : Program} {w : World} {A : Around} {E : Value → Shared → Prop} {s : Shared}
/-- each value is a tuple, and these are their first items -/
inductive Firsts (h : Heap) : List Value → List (Option Value) → Prop
  | nil : Firsts h [] []
  | cons {a : Addr} {o : Obj} {xs : Array Value} {n : Nat} {vs : List Value} {fs : List (Option Value)} : h.get? a = some o → o.cls = .type "tuple" → o.data = .seq xs n → Firsts h vs fs → Firsts h (.ref a :: vs) (xs[0]? :: fs)
theorem Firsts.len {h : Heap} {vs : List Value} {fs : List (Option Value)} (x : Firsts h vs fs) : fs.length = vs.length := by
  induction x with
  | nil => rfl
  | cons _ _ _ _ ih => rw [List.length_cons, List.length_cons, ih]
theorem firsts_run {M : Model} : ∀ (vs : List Value) (fs : List (Option Value)) {Q : List (Option Value) → Shared → Prop}, Firsts s.heap vs fs → Q fs s → wpAny M A (vs.mapM firstOfTuple') Q E s
  | _, _, _, .nil, h => by
    rw [List.mapM_nil]
    exact wpAny_pure h
  | _, _, Q, .cons (a := a) (xs := xs) (vs := vs) (fs := fs) ho hc hd t, h => by
    rw [List.mapM_cons]
    refine wpAny_bind ?_
    rw [kas_first_eq]
    refine wpAny_bind (Looks.here (show Looks M s.heap (typeOf (.ref a)) _ from (Looks.ld ho).andThen .now) ?_)
    rw [hc, if_neg (by first | decide | simp)]
    refine wpAny_bind (listItems_at ho hd (wpAny_pure ?_))
    exact wpAny_bind (firsts_run vs fs (Q := fun bs s' => wpAny M A (pure (xs[0]? :: bs)) Q E s') t (wpAny_pure h))
theorem firsts_ty {M : Model} {h : Heap} {vs : List Value} {fs : List (Option Value)} (x : Firsts h vs fs) : ∀ v ∈ vs, Looks M h (typeOf v) (.type "tuple") := by
  induction x with
  | nil => exact fun v hv => nomatch hv
  | cons ho hc hd _ ih =>
    intro v hv
    rcases List.mem_cons.mp hv with rfl | hv
    · show Looks M h (typeOf (Value.ref _)) (Value.type "tuple")
      exact hc ▸ (Looks.ld ho).andThen .now
    · exact ih v hv
/-- an empty one among the others, not the first -/
theorem kind_general {M : Model} {vs : List Value} {fs : List (Option Value)} {f : Value} {Q : SortKind → Shared → Prop} (x : Firsts s.heap vs fs) (h0 : fs[0]? = some (some f)) (hn : none ∈ fs) (h : Q general' s) : wpAny M A (keyKind' vs.toArray) Q E s := by
  rw [kat_kind_eq, List.mapM_toArray, map_eq_pure_bind]
  refine wpAny_bind (wpAny_bind (firsts_run vs fs x (wpAny_pure ?_)))
  have c : ¬ ((fs.toArray.all fun x => x.isSome) = true) := by
    intro q
    rw [List.all_toArray, List.all_eq_true] at q
    exact absurd (q none hn) (by simp)
  rw [if_neg c]
  have c2 : ((fs.toArray[0]?.bind id).isSome) = true := by
    have e : fs.toArray[0]? = some (some f) := by simpa using h0
    rw [e]
    rfl
  rw [if_pos c2]
  exact wpAny_pure h
/-- the first is empty -/
theorem kind_one {M : Model} {vs : List Value} {fs : List (Option Value)} {Q : SortKind → Shared → Prop} (x : Firsts s.heap vs fs) (h0 : fs[0]? = some none) (h : Q oneType' s) : wpAny M A (keyKind' vs.toArray) Q E s := by
  rw [kat_kind_eq, List.mapM_toArray, map_eq_pure_bind]
  refine wpAny_bind (wpAny_bind (firsts_run vs fs x (wpAny_pure ?_)))
  have c : ¬ ((fs.toArray.all fun x => x.isSome) = true) := by
    intro q
    rw [List.all_toArray, List.all_eq_true] at q
    exact absurd (q none (List.mem_of_getElem? h0)) (by simp)
  rw [if_neg c]
  have e : fs.toArray[0]? = some none := by simpa using h0
  have c2 : ¬ ((fs.toArray[0]?.bind id).isSome) = true := by
    rw [e]
    simp
  rw [if_neg c2, oneTypeOnly'_eq, List.mapM_toArray, map_eq_pure_bind]
  refine wpAny_bind (wpAny_bind (wpAny_bind (kas_mapM (r := Value.type "tuple") _ (fun v hv Q' hq => (firsts_ty x v hv).here hq) (wpAny_pure ?_))))
  have all : ((List.map (fun _ => Value.type "tuple") vs).toArray.all fun x => x == Value.type "tuple") = true := by
    simp only [List.all_toArray, List.all_map, List.all_eq_true]
    intro _ _
    show (Value.type "tuple" == Value.type "tuple") = true
    decide
  obtain ⟨v, r, ev⟩ : ∃ v r, vs = v :: r := by
    cases x with
    | nil => simp at h0
    | cons _ _ _ _ => exact ⟨_, _, rfl⟩
  have z : (List.map (fun _ => Value.type "tuple") vs).toArray[0]? = some (Value.type "tuple") := by
    rw [ev]
    simp
  rw [z]
  simp only [all, if_true]
  exact wpAny_pure (wpAny_pure h)
/-- by the type's own < -/
theorem oneLt_tuples {xs ys : List PyData} {a b : Value} {as bs : List Addr} {Q : Bool → Shared → Prop} (ra : Reads s.heap a (.tuple xs) as) (rb : Reads s.heap b (.tuple ys) bs) (hal : alikeAll xs ys = true)
    (hu : A.units + min (PyData.tuple xs).depth (PyData.tuple ys).depth < cLine) (hq : Q (dataLt (.tuple xs) (.tuple ys)) s) : wpAny (model prog w) A (oneLt' true a b) Q E s := by
  cases ra with
  | @tuple l o vs n _ _ h1 h2 h3 h4 =>
    cases rb with
    | @tuple l' o' vs' n' _ _ k1 k2 k3 k4 =>
      have n1 : vs.size = xs.length := by simpa using SeqAt.ReadsAll.length _ _ _ h4
      have n2 : vs'.size = ys.length := by simpa using SeqAt.ReadsAll.length _ _ _ k4
      rw [dataLt_tuple, ← firstLt_toks xs ys hal, ← n1, ← n2] at hq
      rw [oneLt'_eq]
      simp only [if_true]
      refine wpAny_bind (wpAny_cRoomFor (SeqAt.room_here hu) ?_)
      obtain ⟨ocls, odict, odata, oslots⟩ := o
      obtain ⟨pcls, pdict, pdata, pslots⟩ := o'
      simp only at h2 h3 k2 k3
      subst h2 h3 k2 k3
      refine wpAny_bind (wpAny_callSpecialIfBound?_slot (T := "tuple") ⟨_, h1, rfl⟩ F.slot_tuple_lt (call_meets F.slot_tuple_lt ⟨_, h1, rfl⟩ F.entry_tuple_lt (F.args_tuple_lt_2 _ _)
        (SeqAt.tuple_ltAt l l' vs vs' n n' odict pdict oslots pslots (pairEq xs ys) (fun j => dataLt (xs.getD j .none) (ys.getD j .none))) ⟨h1, k1, fun j j1 j2 => ?_, fun j j1 j2 hj => ?_, ?_⟩))
      · have := eqAt_alikeAll xs ys A.in1 s vs.toList vs'.toList _ _ h4 k4 hal (SeqAt.room_in hu) j (by simpa using j1) (by simpa using j2)
        simpa using this
      · have := rcLt_alikeAll xs ys A.in1 s vs.toList vs'.toList _ _ h4 k4 hal (SeqAt.room_in hu) j (by simpa using j1) (by simpa using j2) hj
        simpa using this
      · exact wpAny_truthy_bool hq
theorem firsts_of {h : Heap} : ∀ {vs : List Value} {ds : List PyData}, EachIs (fun v d => ∃ as, Reads h v d as) vs ds → (∀ d ∈ ds, ∃ xs, d = .tuple xs) → ∃ fs, Firsts h vs fs ∧ ∀ i : Nat, fs[i]? = some none ↔ ds[i]? = some (.tuple [])
  | _, _, .nil, _ => ⟨[], .nil, fun i => by simp⟩
  | _, _, .cons (b := d) ⟨as, r⟩ t, ht => by
    obtain ⟨fs, h1, h2⟩ := firsts_of t fun d hd => ht d (List.mem_cons_of_mem _ hd)
    obtain ⟨xs, rfl⟩ := ht d List.mem_cons_self
    cases r with
    | @tuple a o vs n _ _ ho hc hd hr =>
      refine ⟨_, .cons ho hc hd h1, fun i => ?_⟩
      cases i with
      | succ i => simpa using h2 i
      | zero =>
        have hl := SeqAt.ReadsAll.length _ _ _ hr
        rw [Array.length_toList] at hl
        simp only [List.getElem?_cons_zero, Option.some.injEq]
        constructor
        · intro q
          have z : vs.size = 0 := by
            have := Array.getElem?_eq_none_iff.mp q
            omega
          rw [z] at hl
          rw [List.length_eq_zero_iff.mp hl.symm]
        · intro q
          injection q with q
          subst q
          rw [List.length_nil] at hl
          exact Array.getElem?_eq_none (by omega)
/-- tuples of alike data can be sorted, empty ones too -/
theorem SortsAt.tups {vs : List Value} {ds : List PyData} (e : EachIs (fun v d => ∃ as, Reads s.heap v d as) vs ds) (hal : AllAlike ds) (ht : ∀ d ∈ ds, ∃ xs, d = .tuple xs) (hu : ∀ d, d ∈ ds → A.units + d.depth < cLine) : SortsAt prog w A s (dataKind s.heap ds) vs := by
  by_cases full : ∀ d ∈ ds, ∃ x r, d = .tuple (x :: r)
  · exact SortsAt.data e hal (.inl full) hu
  have hollow : PyData.tuple [] ∈ ds := by
    refine Classical.byContradiction fun hn => full fun d hd => ?_
    obtain ⟨xs, rfl⟩ := ht d hd
    cases xs with
    | nil => exact absurd hd hn
    | cons x r => exact ⟨x, r, rfl⟩
  have room : ∀ {d d' : PyData}, d ∈ ds → A.units + min d.depth d'.depth < cLine := fun {d d'} hd => Nat.lt_of_le_of_lt (Nat.add_le_add_left (Nat.min_le_left _ _) _) (hu d hd)
  refine ⟨fun v hv => ?_, ?_⟩
  · obtain ⟨d, hd, as, r⟩ := e.left v hv
    exact ⟨_, dataKind_some hal hd r⟩
  obtain ⟨fs, f1, f2⟩ := firsts_of e ht
  obtain ⟨i0, hi0, ei0⟩ := List.getElem_of_mem hollow
  have hnone : none ∈ fs := List.mem_of_getElem? ((f2 i0).mpr (by rw [List.getElem?_eq_getElem hi0, ei0]))
  have side : ∀ {x y : Value} {a b : List (Int ⊕ List Nat)}, (dataKind s.heap ds).keyOf x = some a → (dataKind s.heap ds).keyOf y = some b →
      ∃ xs ys as bs, Reads s.heap x (.tuple xs) as ∧ Reads s.heap y (.tuple ys) bs ∧ alike (.tuple xs) (.tuple ys) = true ∧ a = keyToks (.tuple xs) ∧ b = keyToks (.tuple ys) ∧ A.units + min (PyData.tuple xs).depth (PyData.tuple ys).depth < cLine := by
    intro x y a b ha hb
    obtain ⟨d, as, hd, ra, rfl⟩ := dataKind_inv ha
    obtain ⟨d', bs, hd', rb, rfl⟩ := dataKind_inv hb
    obtain ⟨xs, rfl⟩ := ht d hd
    obtain ⟨ys, rfl⟩ := ht d' hd'
    exact ⟨xs, ys, as, bs, ra, rb, hal _ hd _ hd', rfl, rfl, room hd⟩
  cases hz : fs[0]? with
  | none =>
    have : fs = [] := by
      cases fs with
      | nil => rfl
      | cons f r => simp at hz
    rw [this] at hnone
    exact nomatch hnone
  | some f =>
    cases f with
    | some f =>
      refine ⟨general', fun E x y a b Q ha hb hq => ?_, fun _ E Q hq => kind_general f1 hz hnone hq⟩
      obtain ⟨xs, ys, as, bs, ra, rb, hh, rfl, rfl, hr⟩ := side ha hb
      show wpAny _ _ (oneLt' false x y) _ _ _
      exact oneLt_alike (fun z => absurd z Bool.false_ne_true) ra rb hh (fun z => nomatch z) hr hq
    | none =>
      refine ⟨oneType', fun E x y a b Q ha hb hq => ?_, fun _ E Q hq => kind_one f1 hz hq⟩
      obtain ⟨xs, ys, as, bs, ra, rb, hh, rfl, rfl, hr⟩ := side ha hb
      rw [keyLt'_oneType]
      exact oneLt_tuples ra rb (by simpa [alike] using hh) hr hq
end
end Rw
namespace Rw
open PySem PySem.Spec PyProof.Rows L2 PySem.Froz
/-! ### filling a set with tuples -/
structure GotN (ks : List (Addr × NK)) (i : Nat) (L : List (Addr × NK)) : Prop where
  sub : ∀ p ∈ L, p ∈ ks.take i
  all : ∀ p ∈ ks.take i, p.2 ∈ L.map (·.2)
  len : L.length ≤ i
theorem take_snoc {α : Type} {l : List α} {i : Nat} {x : α} (h : l[i]? = some x) : l.take (i + 1) = l.take i ++ [x] := by
  rw [List.take_succ, h]
  rfl
theorem GotN.next {ks L L' : List (Addr × NK)} {i : Nat} {x : Addr × NK} (g : GotN ks i L) (h : ks[i]? = some x) (c1 : x.2 ∈ L.map (·.2) → L' = L) (c2 : x.2 ∉ L.map (·.2) → L'.Perm (x :: L)) : GotN ks (i + 1) L' := by
  have ht := take_snoc h
  by_cases hm : x.2 ∈ L.map (·.2)
  · rw [c1 hm]
    refine ⟨fun p hp => ?_, fun p hp => ?_, Nat.le_succ_of_le g.len⟩
    · rw [ht]
      exact List.mem_append_left _ (g.sub p hp)
    · rw [ht] at hp
      rcases List.mem_append.mp hp with z | z
      · exact g.all p z
      · rw [List.mem_singleton.mp z]
        exact hm
  · have pm := c2 hm
    refine ⟨fun p hp => ?_, fun p hp => ?_, ?_⟩
    · rw [ht]
      rcases List.mem_cons.mp (pm.mem_iff.mp hp) with e | z
      · rw [e]
        exact List.mem_append_right _ (List.mem_singleton.mpr rfl)
      · exact List.mem_append_left _ (g.sub p z)
    · rw [(pm.map (·.2)).mem_iff, List.map_cons]
      rw [ht] at hp
      rcases List.mem_append.mp hp with z | z
      · exact List.mem_cons_of_mem _ (g.all p z)
      · rw [List.mem_singleton.mp z]
        exact List.mem_cons_self
    · rw [pm.length_eq, List.length_cons]
      exact Nat.succ_le_succ g.len
theorem led_new (w : World) : w.params.followText "set-order" = true ∨ (!w.params.followText "set-order") = true := by
  cases w.params.followText "set-order"
  · exact .inr rfl
  · exact .inl rfl
section
variable {P : Program} {w : World} {A : Around} {E : Value → Shared → Prop} {s : Shared}
theorem TSet.empty {h : Heap} {a : Addr} (ho : h.get? a = some (newSetObj w)) : TSet P w h a [] #[] 0 (.fresh 0 0 (!w.params.followText "set-order")) where
  ob := ⟨_, ho, ⟨rfl, rfl, rfl⟩, rfl⟩
  en := rfl
  tab := ⟨List.Pairwise.nil, rfl, rfl, .inl rfl, fun x hx => (by cases hx), fun i h j hi => (by simp [hashes] at hi)⟩
  nd := List.nodup_nil
  ks := fun p hp => (by cases hp)
  led := led_new w
  room := by
    show 0 * 5 < 7 * 3
    decide
  few := by
    show 0 < 64
    decide
theorem TSet.moved {h h' : Heap} {a : Addr} {L : List (Addr × NK)} {es : Array (Int × Value)} {ep : Nat} {t : SetTable} (R : TSet P w h a L es ep t) (ha : ∀ o, h.get? a = some o → h'.get? a = some o) (ht : ∀ p ∈ L, TupK h' p.2 p.1) : TSet P w h' a L es ep t := by
  obtain ⟨o, ho, r⟩ := R.ob
  exact ⟨⟨o, ha o ho, r⟩, R.en, R.tab, R.nd, ht, R.led, R.room, R.few⟩
theorem fill_tups (S : Addr) (h0 : Heap) (ks : List (Addr × NK)) (hk : ∀ p ∈ ks, TupK h0 p.2 p.1) (few : ks.length < 64) :
    Fill P w S h0 (ks.map fun p => Value.ref p.1) (fun i h => ∃ L es ep t, TSet P w h S L es ep t ∧ GotN ks i L) where
  start := fun h ho => ⟨[], #[], 0, _, TSet.empty ho, ⟨fun p hp => (by cases hp), fun p hp => (by simp at hp), Nat.le_refl _⟩⟩
  keep := fun i h h' ⟨L, es, ep, t, R, g⟩ ha hold => ⟨L, es, ep, t, R.moved ha fun p hp => (hk p (List.mem_of_mem_take (g.sub p hp))).kept hold, g⟩
  put := fun i v A E s Q hu hv ⟨L, es, ep, t, R, g⟩ hold hQ => by
    rw [List.getElem?_map] at hv
    cases hx : ks[i]? with
    | none => rw [hx] at hv; simp at hv
    | some x =>
      rw [hx] at hv
      obtain rfl : Value.ref x.1 = v := Option.some.inj hv
      have il : i < ks.length := (List.getElem?_eq_some_iff.mp hx).1
      have hxk := (hk x (List.mem_of_getElem? hx)).kept hold
      unfold setAdd
      refine wpAny_holding ?_
      refine wpAny_bind ((nestedKind P w).pyHash (k := x.2) (show A.units + 8 < cLine from hu) hxk ?_)
      refine added (s := { s with toks := s.toks + (nestedKind P w).draws x.2 }) R hxk hu (by have := g.len; omega) fun b h' L' es' ep' t' sb R' c1 c2 => ?_
      exact hQ b h' _ (Nat.le_add_right _ _) sb ⟨L', es', ep', t', R', g.next hx c1 c2⟩
/-! ### filling a set with texts -/
structure XSet (P : Program) (w : World) (h : Heap) (a : Addr) (ms : List Str) (es : Array (Int × Value)) (ep : Nat) (t : SetTable) : Prop where
  ob : h.get? a = some (sObj "set" (es, ep, t))
  ok : TxOk P w (es, ep, t) ms
  nd : ms.Nodup
  ris : Ris t.place.toList
  led : w.params.followText "set-order" = true ∨ t.led = true
theorem add_ris {g : Int} {v : Value} {D : SD} (h : Ris D.2.2.place.toList) : Ris (addTx g v D).2.2.place.toList ∧ (addTx g v D).2.2.led = D.2.2.led := by
  obtain ⟨es, ep, t⟩ := D
  have n1 := layNew_ris t es g v h
  have n2 := layNew_led t es g v
  unfold addTx tailTx
  dsimp only at n1 n2 ⊢
  generalize layNew t es g v = N at n1 n2 ⊢
  obtain ⟨es1, t1, wd, gv⟩ := N
  dsimp only at n1 n2 ⊢
  have m1 : Ris (if t1.plain = true then { t1 with plain := false } else t1).place.toList ∧ (if t1.plain = true then { t1 with plain := false } else t1).led = t.led := by
    split <;> exact ⟨n1, n2⟩
  generalize (if t1.plain = true then { t1 with plain := false } else t1) = t2 at m1 ⊢
  split
  · exact ⟨relayAll_ris t2 es1 _, (relayAll_led t2 es1 _).trans m1.2⟩
  · exact m1
theorem XSet.moved {h h' : Heap} {a : Addr} {ms : List Str} {es : Array (Int × Value)} {ep : Nat} {t : SetTable} (R : XSet P w h a ms es ep t) (ha : ∀ o, h.get? a = some o → h'.get? a = some o) : XSet P w h' a ms es ep t :=
  ⟨ha _ R.ob, R.ok, R.nd, R.ris, R.led⟩
/-- a text that is in the set is put in again -/
theorem again_in {a : Addr} {ms : List Str} {es : Array (Int × Value)} {ep : Nat} {t : SetTable} {k : Str} {u : Tok} {Q : Bool → Shared → Prop} (R : XSet P w s.heap a ms es ep t) (hk : k ∈ ms) (hb : ms.length < scanBound) (h : Q false s) :
    wpAny (model P w) A (setAddHashed a (.str k u) (hashStr w k)) Q E s := by
  have hel : ElemsOf (strKind P w) es.toList := R.ok.el
  have hsz : es.size = ms.length := R.ok.sz
  have hf : t.fits es.size = true := R.ok.fit
  have hd : (sObj "set" (es, ep, t)).data = .set es ep t := rfl
  have hkey : (strKind P w).is k (.str k u) = true := is_str k u
  obtain ⟨e, he, hp⟩ := (R.ok.mem k).mp hk
  unfold setAddHashed setAddHashedIn
  refine wpAny_holding (wpAny_bind (wpAny_setState_of R.ob hd hf ?_))
  dsimp only
  rw [byScan_of rfl (by omega) hel]
  simp only [↓reduceIte]
  unfold setAddByScan
  refine wpAny_bind (wpAny_bind (wpAny_rule (wpAny_bind (wpAny_setScan_of (knd := strKind P w) (k := k) hkey R.ob hd hf hel ?_))))
  cases hr : List.findIdx? (fun e => (strKind P w).is k e.2) es.toList with
  | none =>
    have z := List.findIdx?_eq_none_iff.mp hr e he
    rw [hp] at z
    exact nomatch z
  | some j =>
    dsimp only
    exact wpAny_pure (wpAny_pure h)
theorem put_text {a : Addr} {ms : List Str} {es : Array (Int × Value)} {ep : Nat} {t : SetTable} {k : Str} {u : Tok} {Q : Bool → Shared → Prop} (R : XSet P w s.heap a ms es ep t) (hb : ms.length + 1 < scanBound)
    (h : ∀ b h' ms' es' ep' t', Heap.SameBut a s.heap h' → XSet P w h' a ms' es' ep' t' → (∀ z, z ∈ ms' ↔ z = k ∨ z ∈ ms) → ms'.length ≤ ms.length + 1 → Q b { s with heap := h' }) :
    wpAny (model P w) A (setAddHashed a (.str k u) (hashStr w k)) Q E s := by
  by_cases hk : k ∈ ms
  · refine again_in R hk (by omega) (h false s.heap ms es ep t (Heap.SameBut.refl a s.heap) R (fun z => ⟨.inr, fun q => q.elim (fun e => e ▸ hk) id⟩) (Nat.le_succ _))
  · refine add_x R.ob R.ok hk hb ?_
    have sb : Heap.SameBut a s.heap (s.heap.update a (fun _ => sObj "set" (addTx (hashStr w k) (.str k u) (es, ep, t)))) := Heap.SameBut.update ..
    have ho : (s.heap.update a (fun _ => sObj "set" (addTx (hashStr w k) (.str k u) (es, ep, t)))).get? a = some (sObj "set" (addTx (hashStr w k) (.str k u) (es, ep, t))) := get_upd _ R.ob rfl
    have ok := add_ok u R.ok (k := k)
    have rl := add_ris (g := hashStr w k) (v := .str k u) (D := (es, ep, t)) R.ris
    generalize addTx (hashStr w k) (.str k u) (es, ep, t) = D at sb ho ok rl ⊢
    obtain ⟨es', ep', t'⟩ := D
    refine h true _ (k :: ms) es' ep' t' sb ⟨ho, ok, List.nodup_cons.mpr ⟨hk, R.nd⟩, rl.1, ?_⟩ (fun z => List.mem_cons) (Nat.le_refl _)
    have e : t'.led = t.led := rl.2
    rw [e]
    exact R.led
theorem fill_texts (S : Addr) (h0 : Heap) (zs : List Str) {vs : List Value} (hv : PySem.W.EachIs (fun v z => ∃ u, v = Value.str z u) vs zs) (few : zs.length + 1 < scanBound) :
    Fill P w S h0 vs (fun i h => ∃ ms es ep t, XSet P w h S ms es ep t ∧ (∀ z, z ∈ ms ↔ z ∈ zs.take i) ∧ ms.length ≤ i) where
  start := fun h ho => ⟨[], #[], 0, _, ⟨ho, TxOk.nil rfl, List.nodup_nil, List.Pairwise.nil, led_new w⟩, fun z => by simp, Nat.le_refl _⟩
  keep := fun i h h' ⟨ms, es, ep, t, R, g⟩ ha _ => ⟨ms, es, ep, t, R.moved ha, g⟩
  put := fun i v A E s Q hu hvi ⟨ms, es, ep, t, R, g, hl⟩ hold hQ => by
    have hlen := hv.length
    have il : i < vs.length := (List.getElem?_eq_some_iff.mp hvi).1
    have iz : i < zs.length := by omega
    have hz : zs[i]? = some zs[i] := List.getElem?_eq_getElem iz
    have pz : (v, zs[i]) ∈ vs.zip zs := List.mem_of_getElem? (i := i) (by rw [List.getElem?_zip_eq_some]; exact ⟨hvi, hz⟩)
    obtain ⟨u, rfl⟩ : ∃ u, v = Value.str zs[i] u := hv.zip _ pz
    unfold setAdd
    refine wpAny_holding ?_
    refine wpAny_bind ((strKind P w).pyHash (k := zs[i]) (is_str _ _) ?_)
    refine put_text (s := { s with toks := s.toks + 1 }) R (by omega) fun b h' ms' es' ep' t' sb R' hm hl' => ?_
    refine hQ b h' _ (Nat.le_succ _) sb ⟨ms', es', ep', t', R', fun z => ?_, by omega⟩
    rw [hm, take_snoc hz, List.mem_append, List.mem_singleton, g z]
    exact ⟨fun q => q.elim .inr .inl, fun q => q.elim .inr .inl⟩
/-! ### sorted of a set -/
theorem each_perm {α β : Type} {R : α → β → Prop} {l l' : List α} (p : l'.Perm l) : ∀ {bs : List β}, PySem.W.EachIs R l bs → ∃ bs', PySem.W.EachIs R l' bs' ∧ bs'.Perm bs := by
  induction p with
  | nil => exact fun {bs} e => ⟨bs, e, List.Perm.refl _⟩
  | cons x _ ih =>
    intro bs e
    cases e with
    | cons h t =>
      obtain ⟨bs', e', p'⟩ := ih t
      exact ⟨_ :: bs', .cons h e', p'.cons _⟩
  | swap x y l =>
    intro bs e
    cases e with
    | cons h t =>
      cases t with
      | cons h' t' => exact ⟨_, .cons h' (.cons h t'), List.Perm.swap _ _ _⟩
  | trans _ _ ih1 ih2 =>
    intro bs e
    obtain ⟨b1, e1, p1⟩ := ih2 e
    obtain ⟨b2, e2, p2⟩ := ih1 e1
    exact ⟨b2, e2, p2.trans p1⟩
open PySem.W in
theorem each_and {α β : Type} {R S : α → β → Prop} : ∀ {as : List α} {bs : List β}, EachIs R as bs → EachIs S as bs → EachIs (fun a b => R a b ∧ S a b) as bs
  | _, _, .nil, .nil => .nil
  | _, _, .cons h t, .cons h' t' => .cons ⟨h, h'⟩ (each_and t t')
open PySem.W in
/-- xs.sort(): the list's own object then holds the sorted values -/
theorem list_sorts {β : Type} {a : Addr} {n : Nat} {vs : List Value} {bs : List β} {enc : β → PyData} {R : Value → β → Prop} {Q : Value → Shared → Prop} (ho : s.heap.get? a = some (seqObj "list" vs.toArray n)) (e : EachIs R vs bs) (er : EachIs (fun v b => ∃ as, Reads s.heap v (enc b) as ∧ a ∉ as) vs bs) (hal : AllAlike (bs.map enc)) (hk : (∀ d ∈ bs.map enc, ∃ xs, d = .tuple xs) ∨ Sortable (bs.map enc)) (hL : bs.length ≤ sizeLine)
    (hu : ∀ b, b ∈ bs → A.units + 1 + (enc b).depth < cLine) (h : ∀ out, out.length = bs.length → EachIs R out (bs.mergeSort (dataLe false enc)) → Q .none { s with heap := sortedHeap s.heap a vs (List.toArray out) }) :
    wpAny (model P w) A (call (.builtin "list.sort") [.ref a]) Q E s := by
  have er' : EachIs (fun v b => ∃ as, Reads (sortingHeap s.heap a vs) v (enc b) as) vs bs := each_keepBut (h' := sortingHeap s.heap a vs) (fun _ _ hb q => sortingHeap_old hb q) (fun o q => by rw [ho] at q; rw [← Option.some.inj q]) hal er
  have em := each_map (R := fun v d => ∃ as, Reads (sortingHeap s.heap a vs) v d as) enc er'
  have can : SortsAt P w A.in1 { s with heap := sortingHeap s.heap a vs } (dataKind (sortingHeap s.heap a vs) (bs.map enc)) vs := by
    rcases hk with ht | hs
    · exact SortsAt.tups (s := { s with heap := sortingHeap s.heap a vs }) em hal ht (bound_map hu)
    · exact SortsAt.data (s := { s with heap := sortingHeap s.heap a vs }) em hal hs (bound_map hu)
  refine wpAny_call_entry slot_list_sort ⟨_, ho, rfl⟩ entry_list_sort (list_sort_vals (κ := dataKind (sortingHeap s.heap a vs) (bs.map enc)) ho can (by rw [e.length]; exact hL) ⟨.none, rfl, ?_⟩) (args_list_sort _)
  exact h _ (by rw [sortVals_length false rfl]; exact e.length) (sortVals_data false e er' hal)
open PySem.W in
theorem sort_facts {β : Type} (enc : β → PyData) (bs : List β) : (bs.mergeSort (dataLe false enc)).Perm bs ∧ (bs.mergeSort (dataLe false enc)).Pairwise (fun a b => dataLe false enc a b = true) :=
  ⟨List.mergeSort_perm _ _, sort_pairwise (sortLe_total (listOrd itemOrd) false fun b => keyToks (enc b)) bs⟩
open PySem.W in
theorem sorted_coll {β : Type} {a : Addr} {es : Array (Int × Value)} {ep : Nat} {t : SetTable} {bs : List β} {enc : β → PyData} {R : Value → β → Prop} {Q : Value → Shared → Prop} (hh : A.handled = none) (ha : SetAt s.heap a es ep t) (hf : t.fits es.size = true) (hsz : es.size < scanBound) (r : Ris t.place.toList)
    (hl : w.params.followText "set-order" = true ∨ t.led = true) (e : EachIs R (es.toList.map (·.2)) bs) (er : EachIs (fun v b => ∃ as, Reads s.heap v (enc b) as ∧ ∀ c ∈ as, c < s.heap.objs.size) (es.toList.map (·.2)) bs)
    (hal : AllAlike (bs.map enc)) (hk : (∀ d ∈ bs.map enc, ∃ xs, d = .tuple xs) ∨ Sortable (bs.map enc)) (hu : ∀ b, b ∈ bs → A.units + 3 + (enc b).depth < cLine)
    (hQ : ∀ s' p (out : Array Value) (c : Nat) (bs' : List β), (∀ b o, s.heap.get? b = some o → s'.heap.get? b = some o) → s'.gens = s.gens → s'.os = s.os → s.heap.objs.size ≤ p → s'.heap.get? p = some (seqObj "list" out c) →
      EachIs R out.toList bs' → bs'.Perm bs → bs'.Pairwise (fun a b => dataLe false enc a b = true) → Q (.ref p) s') :
    wpAny (model P w) A (call (.builtin "sorted") [.ref a]) Q E s := by
  refine Calls.call_function_entry kind_sorted plain_sorted entry_sorted (args_sorted1 _) ?_
  unfold Builtin.«sorted»
  refine wpAny_bind (m := checkCount "sorted" 1 1 _) (wpAny_pure ?_)
  refine wpAny_bind (collect_set (A := A.in1) hh ha hf hsz r hl fun s1 vs k1 hz g1 o1 pm => ?_)
  obtain ⟨bs1, e1, p1⟩ := each_perm pm (each_and e er)
  have lb : bs.length = es.size := by rw [← e.length, List.length_map, Array.length_toList]
  have lv : vs.length = bs1.length := e1.length
  have l1 : bs1.length = bs.length := p1.length_eq
  have sl : scanBound = 4096 := rfl
  refine wpAny_bind (wpAny_newList ?_ (by rw [sizeLine_eq]; omega))
  have hoL : (s1.heap.push (seqObj "list" vs.toArray 0)).get? s1.heap.objs.size = some (seqObj "list" vs.toArray 0) := Heap.get?_push_size _ rfl
  have mem1 : ∀ d, d ∈ bs1.map enc ↔ d ∈ bs.map enc := fun d => (p1.map enc).mem_iff
  refine wpAny_bind (wpAny_holding (list_sorts (s := { s1 with heap := s1.heap.push (seqObj "list" vs.toArray 0) }) (enc := enc) (R := R) hoL (e1.mono fun _ _ z => z.1)
    (e1.mono fun v b z => ?_) (fun d hd d' hd' => hal d ((mem1 d).mp hd) d' ((mem1 d').mp hd')) ?_ (by rw [sizeLine_eq]; omega) (fun b hb => ?_) fun out ho eo => ?_))
  · obtain ⟨_, as, rd, lo⟩ := z
    refine ⟨as, PyProof.Rows.Reads.keeps (fun c o q => Heap.get?_push_of_some _ (k1 c o q)) rd, fun hm => ?_⟩
    exact absurd (Nat.lt_of_lt_of_le (lo _ hm) hz) (Nat.lt_irrefl _)
  · rcases hk with ht | hs
    · exact .inl fun d hd => ht d ((mem1 d).mp hd)
    · rcases hs with h1 | h2
      · exact .inr (.inl fun d hd => h1 d ((mem1 d).mp hd))
      · exact .inr (.inr fun d hd => h2 d ((mem1 d).mp hd))
  · have := hu b (p1.mem_iff.mp hb)
    simp only [Around.in1_units]
    omega
  · obtain ⟨c, hc⟩ := sortedHeap_at (vs := vs) (out := out.toArray) hoL
    have sf := sort_facts enc bs1
    refine wpAny_pure ⟨_, rfl, hQ _ s1.heap.objs.size out.toArray c (bs1.mergeSort (dataLe false enc)) (fun b u q => ?_) g1 o1 hz hc (by simpa using eo) (sf.1.trans p1) sf.2⟩
    have q1 := k1 b u q
    have hlt := Heap.lt_size q1
    show (sortedHeap (s1.heap.push (seqObj "list" vs.toArray 0)) s1.heap.objs.size vs out.toArray).get? b = some u
    rw [sortedHeap_old (Nat.ne_of_lt hlt) (by rw [size_push']; exact Nat.lt_succ_of_lt hlt)]
    exact Heap.get?_push_of_some _ q1
end
end Rw
namespace Rw
open PySem PySem.Spec PyProof.Rows L2 PySem.Froz
/-! ### data made of texts, whole numbers, None and tuples -/
mutual
def okD : PyData → Bool
  | .none => true
  | .int _ => true
  | .str _ => true
  | .tuple xs => okDs xs
  | .bool _ => false
  | .list _ => false
  | .dict _ => false
def okDs : List PyData → Bool
  | [] => true
  | x :: xs => okD x && okDs xs
end
mutual
def toK : PyData → NK
  | .none => .none
  | .int i => .num i
  | .str x => .text x
  | .tuple xs => .tup (toKs xs)
  | .bool _ => .none
  | .list _ => .none
  | .dict _ => .none
def toKs : List PyData → List NK
  | [] => []
  | x :: xs => toK x :: toKs xs
end
theorem okDs_cons {x : PyData} {xs : List PyData} (h : okDs (x :: xs) = true) : okD x = true ∧ okDs xs = true := by
  rw [okDs, Bool.and_eq_true] at h
  exact h
mutual
theorem toK_data : ∀ d : PyData, okD d = true → (toK d).data = d
  | .none, _ => by simp [toK, NestedKey.data]
  | .int _, _ => by simp [toK, NestedKey.data]
  | .str _, _ => by simp [toK, NestedKey.data]
  | .tuple xs, h => by
    rw [okD] at h
    rw [toK, NestedKey.data, toKs_data xs h]
  | .bool _, h => by simp [okD] at h
  | .list _, h => by simp [okD] at h
  | .dict _, h => by simp [okD] at h
theorem toKs_data : ∀ ds : List PyData, okDs ds = true → NestedKey.datas (toKs ds) = ds
  | [], _ => by simp [toKs, NestedKey.datas]
  | x :: xs, h => by
    obtain ⟨h1, h2⟩ := okDs_cons h
    rw [toKs, NestedKey.datas, toK_data x h1, toKs_data xs h2]
end
theorem toK_inj {d e : PyData} (hd : okD d = true) (he : okD e = true) (h : toK d = toK e) : d = e := by
  rw [← toK_data d hd, ← toK_data e he, h]
mutual
theorem toK_depth : ∀ d : PyData, (toK d).depth ≤ d.depth
  | .none => by simp [toK, NestedKey.depth]
  | .int _ => by simp [toK, NestedKey.depth]
  | .str _ => by simp [toK, NestedKey.depth]
  | .tuple xs => by
    have z := toKs_depth xs
    rw [toK, NestedKey.depth, PyData.depth]
    omega
  | .bool _ => by simp [toK, NestedKey.depth]
  | .list _ => by simp [toK, NestedKey.depth]
  | .dict _ => by simp [toK, NestedKey.depth]
theorem toKs_depth : ∀ ds : List PyData, NestedKey.depthAll (toKs ds) ≤ PyData.depthAll ds
  | [] => by simp [toKs, NestedKey.depthAll]
  | x :: xs => by
    have z1 := toK_depth x
    have z2 := toKs_depth xs
    rw [toKs, NestedKey.depthAll, PyData.depthAll]
    omega
end
mutual
theorem isK_of : ∀ (d : PyData) (h : Heap) (v : Value) (as : List Addr), okD d = true → Reads h v d as → NestedIs h (toK d) v ∧ as = []
  | .none, _, _, _, _, r => by
    cases r
    exact ⟨.none, rfl⟩
  | .int _, _, _, _, _, r => by
    cases r
    exact ⟨.int _ _, rfl⟩
  | .str _, _, _, _, _, r => by
    cases r
    exact ⟨.text _ _, rfl⟩
  | .tuple xs, h, _, _, ok, r => by
    rw [okD] at ok
    cases r with
    | tuple h1 h2 h3 h4 =>
      obtain ⟨k, e⟩ := isKs_of xs h _ _ ok h4
      exact ⟨.tup h1 h2 h3 k, e⟩
  | .bool _, _, _, _, ok, _ => by simp [okD] at ok
  | .list _, _, _, _, ok, _ => by simp [okD] at ok
  | .dict _, _, _, _, ok, _ => by simp [okD] at ok
theorem isKs_of : ∀ (ds : List PyData) (h : Heap) (vs : List Value) (as : List Addr), okDs ds = true → ReadsAll h vs ds as → NestedAll h (toKs ds) vs ∧ as = []
  | [], _, _, _, _, r => by
    cases r
    exact ⟨.nil, rfl⟩
  | x :: xs, h, _, _, ok, r => by
    obtain ⟨o1, o2⟩ := okDs_cons ok
    cases r with
    | cons r1 r2 =>
      obtain ⟨k1, e1⟩ := isK_of x h _ _ o1 r1
      obtain ⟨k2, e2⟩ := isKs_of xs h _ _ o2 r2
      exact ⟨.cons k1 k2, by rw [e1, e2]; rfl⟩
end
/-- a tuple of such, not too deep -/
structure Good (d : PyData) : Prop where
  ok : okD d = true
  dp : d.depth ≤ 8
  tu : ∃ xs, d = .tuple xs
/-! ### what stays while tuples stay -/
def Stay (H H' : Hp) : Prop := ∀ b xs, Rd H b (.tup xs) → Rd H' b (.tup xs)
theorem Stay.refl (H : Hp) : Stay H H := fun _ _ h => h
theorem Stay.trans {H H1 H2 : Hp} (a : Stay H H1) (b : Stay H1 H2) : Stay H H2 := fun c xs h => b c xs (a c xs h)
theorem Stay.same {H H' : Hp} (h : Same H H') : Stay H H' := fun b xs r => by
  rcases r with r | ⟨o, r⟩
  · exact .inl (h _ _ r)
  · exact .inr ⟨o, h _ _ r⟩
theorem same_new {H : Hp} {p : Addr} (h : H p = none) (o : HO) : Same H (upd H p o) := fun b u q => by
  rw [upd_ne (ne_of_none q h)]
  exact q
theorem Stay.new {H : Hp} {p : Addr} (h : H p = none) (o : HO) : Stay H (upd H p o) := .same (same_new h o)
theorem Stay.put {H : Hp} {p : Addr} (h : Mut (H p)) (o : HO) : Stay H (upd H p o) := fun b xs r => by
  have ne : b ≠ p := fun z => by
    subst z
    rcases r with r | ⟨u, r⟩
    · rw [r] at h; exact h
    · rw [r] at h; exact h
  unfold Rd
  rw [upd_ne ne]
  exact r
theorem Stay.seq {K : PySem.W.Frag} {H H' : Hp} {a : Addr} {xs : List V} (e : Stay H H') (h : SqT K H a xs) : SqT K H' a xs := by
  rcases h with h | h
  · exact .inl (e _ _ h)
  · exact .inr h
theorem same_tup {K : PySem.W.Frag} {H H' : Hp} {a : Addr} {xs : List V} (e : Same H H') (h : SqT K H a xs) : SqT K H' a xs := (Stay.same e).seq h
section
variable {K : PySem.W.Frag} {H H' : Hp}
mutual
theorem Stay.dp (e : Stay H H') : ∀ (d : PyData) (x : V), okD d = true → Dp K H x d → Dp K H' x d
  | .none, _, _, h => by cases h; exact .non
  | .int _, _, _, h => by cases h; exact .int _
  | .str _, _, _, h => by cases h; exact .str _
  | .tuple ds, _, ok, h => by
    rw [okD] at ok
    cases h with
    | tup h1 h2 => exact .tup (e.seq h1) (Stay.dpAll e ds _ ok h2)
  | .bool _, _, ok, _ => by simp [okD] at ok
  | .list _, _, ok, _ => by simp [okD] at ok
  | .dict _, _, ok, _ => by simp [okD] at ok
theorem Stay.dpAll (e : Stay H H') : ∀ (ds : List PyData) (xs : List V), okDs ds = true → DpAll K H xs ds → DpAll K H' xs ds
  | [], _, _, h => by cases h; exact .nil
  | d :: ds, _, ok, h => by
    obtain ⟨o1, o2⟩ := okDs_cons ok
    cases h with
    | cons h1 h2 => exact .cons (Stay.dp e d _ o1 h1) (Stay.dpAll e ds _ o2 h2)
end
theorem okDs_all {ds : List PyData} (h : ∀ d ∈ ds, okD d = true) : okDs ds = true := by
  induction ds with
  | nil => rfl
  | cons d ds ih =>
    rw [okDs, h d List.mem_cons_self, ih fun e he => h e (List.mem_cons_of_mem _ he)]
    rfl
theorem dpAll_len : ∀ {xs : List V} {ds : List PyData}, DpAll K H xs ds → xs.length = ds.length
  | _, _, .nil => rfl
  | _, _, .cons _ t => by rw [List.length_cons, List.length_cons, dpAll_len t]
theorem dpAll_at : ∀ {xs : List V} {ds : List PyData} {i : Nat} {d : PyData}, DpAll K H xs ds → ds[i]? = some d → ∃ x, xs[i]? = some x ∧ Dp K H x d
  | _, _, _, _, .nil, e => by simp at e
  | _, _, 0, _, .cons h _, e => by
    simp at e
    subst e
    exact ⟨_, rfl, h⟩
  | _, _, i + 1, _, .cons _ t, e => by
    obtain ⟨x, h1, h2⟩ := dpAll_at (i := i) t (by simpa using e)
    exact ⟨x, by simpa using h1, h2⟩
theorem dpAll_at' : ∀ {xs : List V} {ds : List PyData} {i : Nat} {x : V}, DpAll K H xs ds → xs[i]? = some x → ∃ d, ds[i]? = some d ∧ Dp K H x d
  | _, _, _, _, .nil, e => by simp at e
  | _, _, 0, _, .cons h _, e => by
    simp at e
    subst e
    exact ⟨_, rfl, h⟩
  | _, _, i + 1, _, .cons _ t, e => by
    obtain ⟨x, h1, h2⟩ := dpAll_at' (i := i) t (by simpa using e)
    exact ⟨x, by simpa using h1, h2⟩
theorem dpAll_app : ∀ {xs ys : List V} {ds es : List PyData}, DpAll K H xs ds → DpAll K H ys es → DpAll K H (xs ++ ys) (ds ++ es)
  | _, _, _, _, .nil, h => h
  | _, _, _, _, .cons a t, h => .cons a (dpAll_app t h)
theorem Good.ref {x : V} {d : PyData} (g : Good d) (h : Dp K H x d) : ∃ a, x = .ref a := by
  obtain ⟨xs, rfl⟩ := g.tu
  cases h with
  | tup _ _ => exact ⟨_, rfl⟩
end
/-! ### the rules over the abstract heap -/
def tk (L : List (Addr × PyData)) : List (Addr × NK) := L.map fun p => (p.1, toK p.2)
/-- the set of tuples at a, without the tuples -/
def TSetO (w : World) (a : Addr) (L : List (Addr × PyData)) : HO := .ext fun h => ∃ (es : Array (Int × Value)) (ep : Nat) (t : SetTable), (∃ o, h.get? a = some o ∧ o.ExactSet ∧ o.data = .set es ep t) ∧ es.toList = ents w (tk L) ∧ TabOk t (hashes w (tk L)) ∧ ((tk L).map (·.2)).Nodup ∧
  (w.params.followText "set-order" = true ∨ t.led = true) ∧ (tk L).length * 5 < t.mask * 3 ∧ (tk L).length < 64
def XSetO (P : Program) (w : World) (a : Addr) (ms : List Str) : HO := .ext fun h => ∃ (es : Array (Int × Value)) (ep : Nat) (t : SetTable), XSet P w h a ms es ep t
section
variable {X : Cx} {pins : List (Addr × Obj)} {σ : L2.St} {H : Hp} {s : Shared}
theorem key_at (I : Inv X pins σ H s) {a : Addr} {d : PyData} (h : Dp X.K H (.ref a) d) (g : Good d) : TupK s.heap (toK d) a := by
  obtain ⟨as, r⟩ := Dp.reads I d (.ref a) (.ref a) h rfl
  exact ⟨(isK_of d s.heap _ as g.ok r).1, Nat.le_trans (toK_depth d) g.dp⟩
theorem refs_of (g : ∀ d ∈ ds, Good d) {K : PySem.W.Frag} {H : Hp} : ∀ {xs : List V}, DpAll K H xs ds → ∃ L : List (Addr × PyData), xs = L.map (fun p => V.ref p.1) ∧ ds = L.map (·.2) ∧ ∀ p ∈ L, Dp K H (.ref p.1) p.2 := by
  induction ds with
  | nil =>
    intro xs h
    cases h
    exact ⟨[], rfl, rfl, fun p hp => nomatch hp⟩
  | cons d ds ih =>
    intro xs h
    cases h with
    | cons h1 h2 =>
      obtain ⟨L, e1, e2, e3⟩ := ih (fun e he => g e (List.mem_cons_of_mem _ he)) h2
      obtain ⟨a, rfl⟩ := (g d List.mem_cons_self).ref h1
      refine ⟨(a, d) :: L, by rw [e1]; rfl, by rw [e2]; rfl, fun p hp => ?_⟩
      rcases List.mem_cons.mp hp with e | hp
      · rw [e]
        exact h1
      · exact e3 p hp
theorem vals_refs : ∀ {L : List (Addr × PyData)} {us : List Value}, Vals (L.map fun p => V.ref p.1) us → us = (tk L).map fun p => Value.ref p.1
  | [], _, .nil => rfl
  | p :: L, _, .cons r t => by
    cases r
    rw [vals_refs t]
    rfl
/-- set(xs), xs a list or a tuple of tuples -/
def rSetT (K : PySem.W.Frag) (w : World) : List V → Hp → VK → Prop := fun vs H Q => ∃ (l : Addr) (xs : List V) (ds : List PyData), vs = [V.ref l] ∧ (SqL K H l xs ∨ SqT K H l xs) ∧ DpAll K H xs ds ∧ (∀ d ∈ ds, Good d) ∧ ds.length < 64 ∧
  ∀ a L, H a = none → (∀ p ∈ L, p.2 ∈ ds ∧ Dp K H (.ref p.1) p.2) → (∀ d ∈ ds, d ∈ L.map (·.2)) → Q (.ref a) (upd H a (TSetO w a L))
theorem cr_setT (hc : X.calm = true) (hu : X.A.units + 64 < cLine) : CallR X (.type "set") (rSetT X.K X.w) := by
  intro pins s σ H vs us Q I r h
  obtain ⟨l, xs, ds, rfl, hl, hd, hg, hf, q⟩ := h
  obtain ⟨L0, rfl, rfl, hL0⟩ := refs_of hg hd
  rw [Vals.ref1 r]
  have hn : H s.heap.objs.size = none := I.hok.fresh (Nat.le_refl _)
  have hk0 : ∀ p ∈ tk L0, TupK s.heap p.2 p.1 := fun p hp => by
    obtain ⟨z, hz, rfl⟩ := List.mem_map.mp hp
    exact key_at I (hL0 z hz) (hg z.2 (List.mem_map.mpr ⟨z, hz, rfl⟩))
  have few : (tk L0).length < 64 := by
    unfold tk
    rw [List.length_map]
    rw [List.length_map] at hf
    exact hf
  have T := fill_tups (P := X.prog) (w := X.w) s.heap.objs.size s.heap (tk L0) hk0 few
  have fin : ∀ (n : Nat), n = (tk L0).length → ∀ (h' : Heap) (tk' : Nat), (∃ L es ep t, TSet X.prog X.w h' s.heap.objs.size L es ep t ∧ GotN (tk L0) n L) → (∀ b o, s.heap.get? b = some o → h'.get? b = some o) → EP X pins σ Q (.ref s.heap.objs.size) { s with heap := h', toks := tk' } := by
    intro n en h' tk' ⟨L, es, ep, t, R, g⟩ k
    subst en
    have back : ∀ M : List (Addr × NK), (∀ p ∈ M, p ∈ tk L0) → ∃ M0 : List (Addr × PyData), M = tk M0 ∧ ∀ p ∈ M0, p ∈ L0 := by
      intro M
      induction M with
      | nil => exact fun _ => ⟨[], rfl, fun p hp => nomatch hp⟩
      | cons m M ih =>
        intro hm
        obtain ⟨M0, e, h0⟩ := ih fun p hp => hm p (List.mem_cons_of_mem _ hp)
        obtain ⟨z, hz, ez⟩ := List.mem_map.mp (hm m List.mem_cons_self)
        refine ⟨z :: M0, by rw [e, ← ez]; rfl, fun p hp => ?_⟩
        rcases List.mem_cons.mp hp with e' | hp
        · rw [e']
          exact hz
        · exact h0 p hp
    obtain ⟨M, rfl, hM⟩ := back L fun p hp => List.mem_of_mem_take (g.sub p hp)
    have new : ObjOk X.prog X.w (upd H s.heap.objs.size (TSetO X.w s.heap.objs.size M)) h' s.heap.objs.size (TSetO X.w s.heap.objs.size M) := by
      obtain ⟨o, ho, ho2⟩ := R.ob
      refine ⟨⟨es, ep, t, ⟨o, ho, ho2⟩, R.en, R.tab, R.nd, R.led, R.room, R.few⟩, ⟨o, ho⟩, fun h1 h2 ⟨es', ep', t', ⟨o', e1, e2⟩, z⟩ kk => ⟨es', ep', t', ⟨o', kk o' e1, e2⟩, z⟩⟩
    refine ⟨.ref s.heap.objs.size, upd H s.heap.objs.size (TSetO X.w s.heap.objs.size M), I.laid (t' := tk') k (Nat.le_refl _) new, rfl, q _ M hn (fun p hp => ⟨List.mem_map.mpr ⟨p, hM p hp, rfl⟩, hL0 p (hM p hp)⟩) fun d hd => ?_⟩
    obtain ⟨z, hz, rfl⟩ := List.mem_map.mp hd
    have := g.all (z.1, toK z.2) (by rw [List.take_length]; exact List.mem_map.mpr ⟨z, hz, rfl⟩)
    obtain ⟨y, hy, ey⟩ := List.mem_map.mp this
    obtain ⟨y0, hy0, e0⟩ := List.mem_map.mp hy
    have e3 : toK y0.2 = toK z.2 := by
      have e := ey
      rw [← e0] at e
      exact e
    have e4 : y0.2 = z.2 := toK_inj (hg _ (List.mem_map.mpr ⟨y0, hM y0 hy0, rfl⟩)).ok (hg _ (List.mem_map.mpr ⟨z, hz, rfl⟩)).ok e3
    exact List.mem_map.mpr ⟨y0, hy0, e4⟩
  have vlen : ∀ {its : List Value}, its = (tk L0).map (fun p => Value.ref p.1) → its.toArray.size = (tk L0).length := fun e => by
    rw [e, List.size_toArray, List.length_map]
  rcases hl with hl | hl
  · obtain ⟨its, rv, pl, hz⟩ := I.list hl
    have ev := vals_refs rv
    exact call_fill_list (I.ok.hd hc) pl.isList (by rw [show its.toArray.toList = its by simp, ev]; exact T) (by omega) fun h' tk' G k => fin _ (vlen ev) h' tk' G k
  · obtain ⟨its, rv, pl, hz⟩ := I.tuple hl
    have ev := vals_refs rv
    obtain ⟨o, e1, e2, n, e3⟩ := pl
    exact call_fill_tuple (I.ok.hd hc) ⟨o, e1, e2, n, e3⟩ (by rw [show its.toArray.toList = its by simp, ev]; exact T) (by omega) fun h' tk' G k => fin _ (vlen ev) h' tk' G k
theorem tset_get (I : Inv X pins σ H s) {a : Addr} {L : List (Addr × PyData)} (ha : H a = some (TSetO X.w a L)) (hL : ∀ p ∈ L, Good p.2 ∧ Dp X.K H (.ref p.1) p.2) : ∃ es ep t, TSet X.prog X.w s.heap a (tk L) es ep t := by
  obtain ⟨es, ep, t, h1, h2, h3, h4, h5, h6, h7⟩ := (I.hok a _ ha).1
  refine ⟨es, ep, t, h1, h2, h3, h4, fun p hp => ?_, h5, h6, h7⟩
  obtain ⟨z, hz, rfl⟩ := List.mem_map.mp hp
  exact key_at I (hL z hz).2 (hL z hz).1
open PySem.W in
/-- values that stand for data, as values of the layer -/
theorem each_vals {K : PySem.W.Frag} {H : Hp} : ∀ {us : List Value} {ds : List PyData}, EachIs (fun u d => ∃ x, RelV x u ∧ Dp K H x d) us ds → ∃ ys, Vals ys us ∧ DpAll K H ys ds
  | _, _, .nil => ⟨[], .nil, .nil⟩
  | _, _, .cons ⟨x, r, h⟩ t => by
    obtain ⟨ys, v, h'⟩ := each_vals t
    exact ⟨x :: ys, .cons r v, .cons h h'⟩
open PySem.W in
theorem each_map' {α γ δ : Type} {R : γ → δ → Prop} (f : α → γ) (g : α → δ) : ∀ {l : List α}, (∀ a ∈ l, R (f a) (g a)) → EachIs R (l.map f) (l.map g)
  | [], _ => .nil
  | a :: l, h => .cons (h a List.mem_cons_self) (each_map' f g fun b hb => h b (List.mem_cons_of_mem _ hb))
/-- in rising order, as Python's < says -/
abbrev Rising (ds : List PyData) : Prop := ds.Pairwise fun a b => PySem.W.dataLe false id a b = true
/-- sorted(a set of tuples) -/
def rSortT (K : PySem.W.Frag) (w : World) : List V → Hp → VK → Prop := fun vs H Q => ∃ (a : Addr) (L : List (Addr × PyData)), vs = [V.ref a] ∧ H a = some (TSetO w a L) ∧ (∀ p ∈ L, Good p.2 ∧ Dp K H (.ref p.1) p.2) ∧ PySem.W.AllAlike (L.map (·.2)) ∧
  ∀ (ys : List V) (ds : List PyData) (p : Addr), ds.Perm (L.map (·.2)) → ds.Nodup → ds.length < 64 → Rising ds → DpAll K H ys ds → H p = none → Q (.ref p) (upd H p (.lst ys))
theorem cr_sortT (hc : X.calm = true) (hu : X.A.units + 64 < cLine) : CallR X (.builtin "sorted") (rSortT X.K X.w) := by
  intro pins s σ H vs us Q I r h
  obtain ⟨a, L, rfl, ha, hL, hal, q⟩ := h
  obtain ⟨es, ep, t, R⟩ := tset_get I ha hL
  rw [Vals.ref1 r]
  obtain ⟨o, ho, hex, hd⟩ := R.ob
  have hvals : es.toList.map (·.2) = L.map fun p => Value.ref p.1 := by
    rw [R.en]
    unfold ents tk
    rw [List.map_map, List.map_map]
    rfl
  have few : L.length < 64 := by
    have := R.few
    unfold tk at this
    rw [List.length_map] at this
    exact this
  have e1 : PySem.W.EachIs (fun u d => ∃ x, RelV x u ∧ Dp X.K H x d) (es.toList.map (·.2)) (L.map (·.2)) := by
    rw [hvals]
    exact each_map' _ _ fun p hp => ⟨.ref p.1, rfl, (hL p hp).2⟩
  have e2 : PySem.W.EachIs (fun v d => ∃ as, Reads s.heap v (id d) as ∧ ∀ c ∈ as, c < s.heap.objs.size) (es.toList.map (·.2)) (L.map (·.2)) := by
    rw [hvals]
    refine each_map' _ _ fun p hp => ?_
    obtain ⟨as, rd⟩ := Dp.reads I p.2 (.ref p.1) (.ref p.1) (hL p hp).2 rfl
    refine ⟨as, rd, ?_⟩
    rw [(isK_of p.2 s.heap _ as (hL p hp).1.ok rd).2]
    exact fun c hc => nomatch hc
  have hm : ∀ d ∈ (L.map (·.2)).map id, Good d := fun d hd => by
    rw [List.map_id] at hd
    obtain ⟨p, hp, rfl⟩ := List.mem_map.mp hd
    exact (hL p hp).1
  refine sorted_coll (enc := id) (I.ok.hd hc) ⟨o, ho, hex.1, hd⟩ R.fits (by have := size_of_ents R.en; unfold tk at this; rw [List.length_map] at this; unfold scanBound; omega) R.tab.ris R.led e1 e2 (by rw [List.map_id]; exact hal) (.inl fun d hd => (hm d hd).tu) (fun d hd => ?_) fun s' p out c ds k g os hp hg ho' pm sr => ?_
  · have z := (hm d (by rw [List.map_id]; exact hd)).dp
    show X.A.units + 3 + d.depth < cLine
    omega
  · obtain ⟨ys, hv, hd'⟩ := each_vals ho'
    have hn : H p = none := I.hok.fresh hp
    have hl : ds.length = L.length := by rw [pm.length_eq, List.length_map]
    have hlen : ys.length ≤ sizeLine := by
      rw [dpAll_len hd', sizeLine_eq]
      omega
    have nd : ds.Nodup := by
      refine pm.nodup_iff.mpr ?_
      have z := R.nd
      unfold tk at z
      rw [List.map_map] at z
      have z' : (L.map fun p => toK p.2).Nodup := z
      have y : ((L.map (·.2)).map toK).Nodup := by
        rw [List.map_map]
        exact z'
      exact nodup_of_map y
    have J : Inv X pins σ (upd H p (.lst ys)) { s with heap := s'.heap, gens := s'.gens, drawn := s'.drawn, toks := s'.toks } :=
      I.call (ch := []) (Un.laid k hp hn) (I.hok.laid k hp ⟨hlen, out.toList, c, hv, hg⟩) (by rw [g]; exact I.bare) (fun _ z => nomatch z)
    have e : s' = { s with heap := s'.heap, gens := s'.gens, drawn := s'.drawn, toks := s'.toks } := by
      cases s'
      cases s
      cases os
      rfl
    rw [e]
    exact ⟨.ref p, _, J, rfl, q ys ds p pm nd (by omega) sr hd' hn⟩
/-- set(xs), xs a list or a tuple of texts -/
def rSetX (K : PySem.W.Frag) (P : Program) (w : World) : List V → Hp → VK → Prop := fun vs H Q => ∃ (l : Addr) (zs : List Str), vs = [V.ref l] ∧ (SqL K H l (zs.map V.str) ∨ SqT K H l (zs.map V.str)) ∧ zs.length < 1000 ∧
  ∀ a ms, H a = none → ms.Nodup → (∀ z, z ∈ ms ↔ z ∈ zs) → ms.length ≤ zs.length → Q (.ref a) (upd H a (XSetO P w a ms))
theorem vals_texts : ∀ {zs : List Str} {us : List Value}, Vals (zs.map V.str) us → PySem.W.EachIs (fun v z => ∃ u, v = Value.str z u) us zs
  | [], _, .nil => .nil
  | _ :: _, _, .cons r t => .cons r (vals_texts t)
theorem texts_vals {zs : List Str} {us : List Value} (h : PySem.W.EachIs (fun v z => ∃ u, v = Value.str z u) us zs) : Vals (zs.map V.str) us := by
  induction h with
  | nil => exact .nil
  | cons h _ ih => exact .cons h ih
theorem cr_setX (hc : X.calm = true) (hu : X.A.units + 64 < cLine) : CallR X (.type "set") (rSetX X.K X.prog X.w) := by
  intro pins s σ H vs us Q I r h
  obtain ⟨l, zs, rfl, hl, few, q⟩ := h
  rw [Vals.ref1 r]
  have hn : H s.heap.objs.size = none := I.hok.fresh (Nat.le_refl _)
  have fin : ∀ (n : Nat), n = zs.length → ∀ (h' : Heap) (tk' : Nat), (∃ ms es ep t, XSet X.prog X.w h' s.heap.objs.size ms es ep t ∧ (∀ z, z ∈ ms ↔ z ∈ zs.take n) ∧ ms.length ≤ n) → (∀ b o, s.heap.get? b = some o → h'.get? b = some o) → EP X pins σ Q (.ref s.heap.objs.size) { s with heap := h', toks := tk' } := by
    intro n en h' tk' ⟨ms, es, ep, t, R, g, hl⟩ k
    subst en
    have new : ObjOk X.prog X.w (upd H s.heap.objs.size (XSetO X.prog X.w s.heap.objs.size ms)) h' s.heap.objs.size (XSetO X.prog X.w s.heap.objs.size ms) :=
      ⟨⟨es, ep, t, R⟩, ⟨_, R.ob⟩, fun h1 h2 ⟨es', ep', t', R'⟩ kk => ⟨es', ep', t', R'.moved kk⟩⟩
    exact ⟨.ref s.heap.objs.size, _, I.laid (t' := tk') k (Nat.le_refl _) new, rfl, q _ ms hn R.nd (fun z => by rw [g z, List.take_length]) hl⟩
  have sb : scanBound = 4096 := rfl
  rcases hl with hl | hl
  · obtain ⟨its, rv, pl, hz⟩ := I.list hl
    have ev := vals_texts rv
    have T := fill_texts (P := X.prog) (w := X.w) s.heap.objs.size s.heap zs ev (by omega)
    exact call_fill_list (I.ok.hd hc) pl.isList (by rw [show its.toArray.toList = its by simp]; exact T) (by omega) fun h' tk' G k => fin its.toArray.size (by rw [List.size_toArray]; exact ev.length) h' tk' G k
  · obtain ⟨its, rv, pl, hz⟩ := I.tuple hl
    have ev := vals_texts rv
    have T := fill_texts (P := X.prog) (w := X.w) s.heap.objs.size s.heap zs ev (by omega)
    obtain ⟨o, e1, e2, n, e3⟩ := pl
    exact call_fill_tuple (I.ok.hd hc) ⟨o, e1, e2, n, e3⟩ (by rw [show its.toArray.toList = its by simp]; exact T) (by omega) fun h' tk' G k => fin its.toArray.size (by rw [List.size_toArray]; exact ev.length) h' tk' G k
abbrev RisingX (zs : List Str) : Prop := zs.Pairwise fun a b => decide (a.cps.toList ≤ b.cps.toList) = true
open PySem.W in
theorem each_iff {es : List (Int × Value)} : ∀ {ms : List Str}, (∀ e ∈ es, ∃ k u, e.2 = Value.str k u) → ∃ zs, EachIs (fun v z => ∃ u, v = Value.str z u) (es.map (·.2)) zs := by
  induction es with
  | nil => exact fun _ => ⟨[], .nil⟩
  | cons e es ih =>
    intro ms h
    obtain ⟨k, u, ek⟩ := h e List.mem_cons_self
    obtain ⟨zs, hz⟩ := ih (ms := ms) fun e' he => h e' (List.mem_cons_of_mem _ he)
    exact ⟨k :: zs, .cons ⟨u, ek⟩ hz⟩
/-- sorted(a set of texts) -/
def rSortX (P : Program) (w : World) : List V → Hp → VK → Prop := fun vs H Q => ∃ (a : Addr) (ms : List Str), vs = [V.ref a] ∧ H a = some (XSetO P w a ms) ∧ ms.length < 1000 ∧
  ∀ (zs : List Str) (p : Addr), (∀ z, z ∈ zs ↔ z ∈ ms) → zs.Nodup → zs.length ≤ ms.length → RisingX zs → H p = none → Q (.ref p) (upd H p (.lst (zs.map V.str)))
theorem nodup_len_le : ∀ {l m : List Str}, l.Nodup → (∀ z ∈ l, z ∈ m) → l.length ≤ m.length
  | [], _, _, _ => Nat.zero_le _
  | x :: l, m, hn, hs => by
    obtain ⟨h1, h2⟩ := List.nodup_cons.mp hn
    have hx : x ∈ m := hs x List.mem_cons_self
    have ih := nodup_len_le (l := l) (m := m.erase x) h2 fun y hy => (List.mem_erase_of_ne (show y ≠ x from fun e => h1 (by rw [← e]; exact hy))).2 (hs y (List.mem_cons_of_mem _ hy))
    rw [List.length_erase_of_mem hx] at ih
    have := List.length_pos_of_mem hx
    rw [List.length_cons]
    omega
theorem nodup_of_len : ∀ {l m : List Str}, m.Nodup → (∀ z ∈ m, z ∈ l) → l.length ≤ m.length → l.Nodup
  | [], _, _, _, _ => List.nodup_nil
  | x :: l, m, hm, hs, hl => by
    have hxl : x ∉ l := fun hx => by
      have z := nodup_len_le (l := m) (m := l) hm fun z hz => (List.mem_cons.mp (hs z hz)).elim (fun e => by rw [e]; exact hx) id
      rw [List.length_cons] at hl
      omega
    refine List.nodup_cons.mpr ⟨hxl, nodup_of_len (m := m.erase x) (hm.erase x) (fun z hz => ?_) ?_⟩
    · have hz' := List.mem_of_mem_erase hz
      rcases List.mem_cons.mp (hs z hz') with e | h
      · rw [e] at hz
        exact absurd hz (List.Nodup.not_mem_erase hm)
      · exact h
    · by_cases hx : x ∈ m
      · rw [List.length_erase_of_mem hx]
        rw [List.length_cons] at hl
        omega
      · rw [List.erase_of_not_mem hx]
        rw [List.length_cons] at hl
        omega
theorem cr_sortX (hc : X.calm = true) (hu : X.A.units + 64 < cLine) : CallR X (.builtin "sorted") (rSortX X.prog X.w) := by
  intro pins s σ H vs us Q I r h
  obtain ⟨a, ms, rfl, ha, hlt, q⟩ := h
  obtain ⟨es, ep, t, R⟩ := (I.hok a _ ha).1
  rw [Vals.ref1 r]
  have hel := R.ok.el
  have hsz : es.size = ms.length := R.ok.sz
  obtain ⟨zs, hz⟩ := each_iff (es := es.toList) (ms := ms) fun e he => by
    obtain ⟨⟨k, hk, _⟩, _⟩ := hel e he
    obtain ⟨u, hu⟩ := Value.isStrOf_shape (x := k) (v := e.2) hk
    exact ⟨k, u, hu⟩
  have e1 : PySem.W.EachIs (fun u z => RelV (.str z) u) (es.toList.map (·.2)) zs := hz
  have e2 : PySem.W.EachIs (fun v z => ∃ as, Reads s.heap v (PyData.str z) as ∧ ∀ c ∈ as, c < s.heap.objs.size) (es.toList.map (·.2)) zs := hz.mono fun v z ⟨u, e⟩ => ⟨[], by rw [e]; exact .str z u, fun c hc => nomatch hc⟩
  have mem : ∀ z, z ∈ zs ↔ z ∈ ms := fun z => by
    rw [R.ok.mem z]
    constructor
    · intro hm
      obtain ⟨i, hi, ei⟩ := List.getElem_of_mem hm
      have hi2 : i < (es.toList.map (·.2)).length := by rw [hz.length]; exact hi
      have pz : ((es.toList.map (·.2))[i], zs[i]) ∈ (es.toList.map (·.2)).zip zs := List.mem_of_getElem? (i := i) (by rw [List.getElem?_zip_eq_some]; exact ⟨List.getElem?_eq_getElem hi2, List.getElem?_eq_getElem hi⟩)
      obtain ⟨u, hu⟩ := hz.zip _ pz
      have hin := List.getElem_mem hi2
      rw [show (es.toList.map (·.2))[i] = Value.str zs[i] u from hu, ei] at hin
      obtain ⟨e, he, ee⟩ := List.mem_map.mp hin
      exact ⟨e, he, by rw [ee]; exact is_str z u⟩
    · rintro ⟨e, he, hk⟩
      obtain ⟨z', hz', u, hu⟩ := hz.left e.2 (List.mem_map.mpr ⟨e, he, rfl⟩)
      rw [hu] at hk
      have : z = z' := (strKind X.prog X.w).inj (.str z' u) z z' hk (is_str z' u)
      rw [this]
      exact hz'
  have zl : zs.length = ms.length := by rw [← hz.length, List.length_map, Array.length_toList, hsz]
  refine sorted_coll (enc := fun z : Str => PyData.str z) (I.ok.hd hc) ⟨_, R.ob, rfl, rfl⟩ R.ok.fit (by show es.size < scanBound; unfold scanBound; omega) R.ris R.led e1 e2 (PySem.W.AllAlike.of fun b b' => by simp [PySem.W.alike]) (.inr (PySem.W.Sortable.others fun b => ⟨(fun z => nomatch z), (fun xs z => nomatch z)⟩)) (fun d hd => ?_) fun s' p out c zs' k g os hp hg ho' pm sr => ?_
  · show X.A.units + 3 + (PyData.str d).depth < cLine
    simp only [PyData.depth]
    omega
  · have hn : H p = none := I.hok.fresh hp
    have hv : Vals (zs'.map V.str) out.toList := texts_vals ho'
    have hl : zs'.length = ms.length := by rw [pm.length_eq, zl]
    have hlen : (zs'.map V.str).length ≤ sizeLine := by
      rw [List.length_map, sizeLine_eq]
      omega
    have J : Inv X pins σ (upd H p (.lst (zs'.map V.str))) { s with heap := s'.heap, gens := s'.gens, drawn := s'.drawn, toks := s'.toks } :=
      I.call (ch := []) (Un.laid k hp hn) (I.hok.laid k hp ⟨hlen, out.toList, c, hv, hg⟩) (by rw [g]; exact I.bare) (fun _ z => nomatch z)
    have e : s' = { s with heap := s'.heap, gens := s'.gens, drawn := s'.drawn, toks := s'.toks } := by
      cases s'
      cases s
      cases os
      rfl
    rw [e]
    rw [PySem.W.dataLe_str fun z : Str => z] at sr
    have mem' : ∀ z, z ∈ zs' ↔ z ∈ ms := fun z => by rw [pm.mem_iff]; exact mem z
    exact ⟨.ref p, _, J, rfl, q zs' p mem' (nodup_of_len R.nd (fun z hz => (mem' z).mpr hz) (Nat.le_of_eq hl)) (Nat.le_of_eq hl) sr hn⟩
/-- sorted(a list of tuples) -/
def rSortL (K : PySem.W.Frag) : List V → Hp → VK → Prop := fun vs H Q => ∃ (a : Addr) (xs : List V) (ds : List PyData), vs = [V.ref a] ∧ SqL K H a xs ∧ DpAll K H xs ds ∧ (∀ d ∈ ds, Good d) ∧ PySem.W.AllAlike ds ∧
  ∀ (ys : List V) (es : List PyData) (p : Addr), es.Perm ds → Rising es → DpAll K H ys es → H p = none → Q (.ref p) (upd H p (.lst ys))
theorem cr_sortL (hu : X.A.units + 64 < cLine) : CallR X (.builtin "sorted") (rSortL X.K) := by
  intro pins s σ H vs us Q I r h
  obtain ⟨a, xs, ds, rfl, ha, hd, hg, hal, q⟩ := h
  rw [Vals.ref1 r]
  obtain ⟨its, rv, pl, hz⟩ := I.list ha
  have both : ∀ {xs : List V} {ds : List PyData} {its : List Value}, Vals xs its → DpAll X.K H xs ds → (∀ d ∈ ds, Good d) → PySem.W.EachIs (fun u d => (∃ x, RelV x u ∧ Dp X.K H x d) ∧ ∃ as, Reads s.heap u (id d) as) its ds := by
    intro xs ds its rv
    induction rv generalizing ds with
    | nil =>
      intro hd _
      cases hd
      exact .nil
    | cons r _ ih =>
      intro hd hg
      cases hd with
      | cons h1 h2 => exact .cons ⟨⟨_, r, h1⟩, Dp.reads I _ _ _ h1 r⟩ (ih h2 fun d hd => hg d (List.mem_cons_of_mem _ hd))
  have e0 := both rv hd hg
  have il : its.length = ds.length := e0.length
  have sl := sizeLine_eq
  have xl := rv.length
  have er' : PySem.W.EachIs (fun v d => ∃ as, Reads (PySem.W.sortingHeap (PySem.W.copyHeap s.heap its) (s.heap.objs.size + 1) its) v (id d) as) its ds := e0.mono fun _ _ z => by
    obtain ⟨_, as, rd⟩ := z
    exact ⟨as, PyProof.Rows.Reads.keeps (fun _ _ => PySem.W.sorting_copy_old) rd⟩
  have can : PySem.W.SortsAt X.prog X.w X.A.in1.in1 { s with heap := PySem.W.sortingHeap (PySem.W.copyHeap s.heap its) (s.heap.objs.size + 1) its } (PySem.W.dataKind (PySem.W.sortingHeap (PySem.W.copyHeap s.heap its) (s.heap.objs.size + 1) its) ds) its :=
    SortsAt.tups (s := { s with heap := PySem.W.sortingHeap (PySem.W.copyHeap s.heap its) (s.heap.objs.size + 1) its }) er' hal (fun d hd => (hg d hd).tu) fun d hd => by
      have z := (hg d hd).dp
      simp only [Around.in1_units]
      omega
  refine PySem.W.sorted_vals pl.isList can (by omega) ?_
  have eo : PySem.W.EachIs (fun u d => ∃ x, RelV x u ∧ Dp X.K H x d) (PySem.W.sortVals (PySem.W.dataKind (PySem.W.sortingHeap (PySem.W.copyHeap s.heap its) (s.heap.objs.size + 1) its) ds) false its its) (ds.mergeSort (PySem.W.dataLe false id)) := by
    have z := PySem.W.sortVals_data (h' := PySem.W.sortingHeap (PySem.W.copyHeap s.heap its) (s.heap.objs.size + 1) its) (enc := id) false (e0.mono fun _ _ z => z.1) er' (by rw [List.map_id]; exact hal)
    rw [List.map_id] at z
    exact z
  obtain ⟨ys, hv, hd'⟩ := each_vals eo
  have sf := sort_facts id ds
  generalize hout : PySem.W.sortVals (PySem.W.dataKind (PySem.W.sortingHeap (PySem.W.copyHeap s.heap its) (s.heap.objs.size + 1) its) ds) false its its = out at eo hv
  have hn : H (s.heap.objs.size + 1) = none := I.hok.fresh (Nat.le_succ _)
  obtain ⟨c, hcc⟩ := sortedAll_at s.heap its out.toArray
  have hlen : ys.length ≤ sizeLine := by
    rw [dpAll_len hd', sf.1.length_eq]
    omega
  exact ⟨.ref (s.heap.objs.size + 1), upd H (s.heap.objs.size + 1) (.lst ys), I.laid (t' := s.toks) (fun b o e => sortedAll_old e) (Nat.le_succ _) ⟨hlen, out, c, hv, hcc⟩, rfl, q ys _ _ sf.1 sf.2 hd' hn⟩
end
end Rw
namespace Rw
open PySem PySem.Spec PyProof.Rows L2
/-! ### dicts whose keys are tuples of texts and of such tuples -/
abbrev Ent := PyData × Addr × V
def RelE (p : Ent) (q : NK × Addr × Value) : Prop := toK p.1 = q.1 ∧ p.2.1 = q.2.1 ∧ RelV p.2.2 q.2.2
def NDO (P : Program) (w : World) (d : Addr) (kvs : List Ent) : HO := .ext fun h => kvs.length ≤ 100000 ∧ (d == sysModules) = false ∧ ∃ xs : List (NK × Addr × Value), Paired RelE kvs xs ∧
  ∃ o es ep, h.get? d = some o ∧ o.ExactDict ∧ o.data = .dict es ep ∧ es.toList = xs.map (entryOfKey (nestedKind P w)) ∧ (xs.map (·.1)).Nodup
/-- the entries' keys stand -/
abbrev KeysOk (K : PySem.W.Frag) (H : Hp) (kvs : List Ent) : Prop := ∀ p ∈ kvs, Good p.1 ∧ Dp K H (.ref p.2.1) p.1
theorem KeysOk.stay {K : PySem.W.Frag} {H H' : Hp} {kvs : List Ent} (h : KeysOk K H kvs) (e : Stay H H') : KeysOk K H' kvs := fun p hp => ⟨(h p hp).1, e.dp _ _ (h p hp).1.ok (h p hp).2⟩
theorem paired_mem {α β : Type} {F : α → β → Prop} : ∀ {l : List α} {m : List β}, Paired F l m → ∀ y ∈ m, ∃ x ∈ l, F x y
  | _, _, .nil, y, h => nomatch h
  | _, _, .cons r t, y, h => by
    rcases List.mem_cons.mp h with e | h
    · subst e
      exact ⟨_, List.mem_cons_self, r⟩
    · obtain ⟨x, hx, hr⟩ := paired_mem t y h
      exact ⟨x, List.mem_cons_of_mem _ hx, hr⟩
theorem paired_snoc {α β : Type} {F : α → β → Prop} {x : α} {y : β} (r : F x y) : ∀ {l : List α} {m : List β}, Paired F l m → Paired F (l ++ [x]) (m ++ [y])
  | _, _, .nil => .cons r .nil
  | _, _, .cons q t => .cons q (paired_snoc r t)
/-- what a look-up finds -/
theorem nd_look {kvs : List Ent} {xs : List (NK × Addr × Value)} (p : Paired RelE kvs xs) (hk : ∀ p ∈ kvs, Good p.1) {k : PyData} (g : Good k) :
    (∀ q, atKey xs (toK k) = some q → ∃ z ∈ kvs, z.1 = k ∧ RelV z.2.2 q.2) ∧ (atKey xs (toK k) = none → ∀ z ∈ kvs, z.1 ≠ k) := by
  induction p with
  | nil => exact ⟨fun q h => by simp [atKey] at h, fun _ z hz => nomatch hz⟩
  | @cons a b as bs r t ih =>
    obtain ⟨r1, r2, r3⟩ := r
    obtain ⟨i1, i2⟩ := ih fun p hp => hk p (List.mem_cons_of_mem _ hp)
    by_cases e : b.1 = toK k
    · have ek : a.1 = k := toK_inj (hk a List.mem_cons_self).ok g.ok (r1.trans e)
      have ea : atKey (b :: bs) (toK k) = some b.2 := by simp [atKey, e]
      refine ⟨fun q h => ?_, fun h => ?_⟩
      · rw [ea] at h
        cases h
        exact ⟨a, List.mem_cons_self, ek, r3⟩
      · rw [ea] at h
        cases h
    · have ea : atKey (b :: bs) (toK k) = atKey bs (toK k) := by simp [atKey, e]
      have ne : a.1 ≠ k := fun z => e (by rw [← r1, z])
      refine ⟨fun q h => ?_, fun h z hz => ?_⟩
      · rw [ea] at h
        obtain ⟨z, hz, h1⟩ := i1 q h
        exact ⟨z, List.mem_cons_of_mem _ hz, h1⟩
      · rw [ea] at h
        rcases List.mem_cons.mp hz with e' | hz
        · rw [e']
          exact ne
        · exact i2 h z hz
section
variable {X : Cx} {pins : List (Addr × Obj)} {σ : L2.St} {H : Hp} {s : Shared} {d : Addr} {kvs : List Ent} {E : Value → Shared → Prop}
theorem nd_get (I : Inv X pins σ H s) (hd : H d = some (NDO X.prog X.w d kvs)) (hk : KeysOk X.K H kvs) : kvs.length ≤ 100000 ∧ (d == sysModules) = false ∧ ∃ xs, Paired RelE kvs xs ∧ s.heap.DictOfH (nestedKind X.prog X.w) d xs := by
  obtain ⟨hz, hs, xs, p, o, es, ep, h1, h2, h3, h4, h5⟩ := (I.hok d _ hd).1
  refine ⟨hz, hs, xs, p, o, es, ep, h1, h2, h3, h4, fun x hx => ?_, h5⟩
  obtain ⟨q, hq, r1, r2, _⟩ := paired_mem p x hx
  have := key_at I (hk q hq).2 (hk q hq).1
  rw [r1, r2] at this
  exact this
theorem nd_new {kvs : List Ent} {xs : List (NK × Addr × Value)} {h' : Heap} {H' : Hp} (hz : kvs.length ≤ 100000) (hs : (d == sysModules) = false) (p : Paired RelE kvs xs) (m : h'.DictOfH (nestedKind X.prog X.w) d xs) : ObjOk X.prog X.w H' h' d (NDO X.prog X.w d kvs) := by
  obtain ⟨o, es, ep, h1, h2, h3, h4, _, h5⟩ := m
  refine ⟨⟨hz, hs, xs, p, o, es, ep, h1, h2, h3, h4, h5⟩, ⟨o, h1⟩, fun a b ⟨z1, z2, xs', p', o', es', ep', k1, k2⟩ kk => ⟨z1, z2, xs', p', o', es', ep', kk o' k1, k2⟩⟩
/-- k in d, k not in d -/
def rInN (K : PySem.W.Frag) (P : Program) (w : World) (neg : Bool) : R2 := fun x y H Q => ∃ (a d : Addr) (kvs : List Ent) (k : PyData), x = .ref a ∧ y = .ref d ∧ H d = some (NDO P w d kvs) ∧ KeysOk K H kvs ∧ Good k ∧ Dp K H (.ref a) k ∧
  ∀ b : Bool, (b = true ↔ k ∈ kvs.map (·.1)) → Q (.bl (if neg then !b else b)) H
theorem nd_isSome {xs : List (NK × Addr × Value)} (p : Paired RelE kvs xs) (hk : ∀ p ∈ kvs, Good p.1) {k : PyData} (g : Good k) : (atKey xs (toK k)).isSome = true ↔ k ∈ kvs.map (·.1) := by
  obtain ⟨l1, l2⟩ := nd_look p hk g
  cases e : atKey xs (toK k) with
  | none => exact ⟨(fun h => nomatch h), fun h => by
      obtain ⟨z, hz, ez⟩ := List.mem_map.mp h
      exact absurd ez (l2 e z hz)⟩
  | some q => exact ⟨fun _ => by
      obtain ⟨z, hz, h1, _⟩ := l1 q e
      exact List.mem_map.mpr ⟨z, hz, h1⟩, fun _ => rfl⟩
theorem op_inN (hu : X.A.units + 64 < cLine) : OpR X (compareOp .In) (rInN X.K X.prog X.w false) := by
  intro pins s σ H x y v u Q I rx ry h
  obtain ⟨a, d, kvs, k, rfl, rfl, hd, hk, g, da, q⟩ := h
  cases rx
  cases ry
  obtain ⟨hz, hs, xs, p, m⟩ := nd_get I hd hk
  refine wpAny_in_heap (knd := nestedKind X.prog X.w) (by show X.A.units + 1 + 8 < cLine; omega) (key_at I da g) hs m ?_
  exact ⟨.bl _, H, I.tok _, rfl, q _ (nd_isSome p (fun z hz => (hk z hz).1) g)⟩
theorem op_notInN (hu : X.A.units + 64 < cLine) : OpR X (compareOp .NotIn) (rInN X.K X.prog X.w true) := by
  intro pins s σ H x y v u Q I rx ry h
  obtain ⟨a, d, kvs, k, rfl, rfl, hd, hk, g, da, q⟩ := h
  cases rx
  cases ry
  obtain ⟨hz, hs, xs, p, m⟩ := nd_get I hd hk
  refine wpAny_notIn_heap (knd := nestedKind X.prog X.w) (by show X.A.units + 1 + 8 < cLine; omega) (key_at I da g) hs m ?_
  exact ⟨.bl _, H, I.tok _, rfl, q _ (nd_isSome p (fun z hz => (hk z hz).1) g)⟩
/-- d[k], k is there -/
def rGetN (K : PySem.W.Frag) (P : Program) (w : World) : R2 := fun x y H Q => ∃ (a d : Addr) (kvs : List Ent) (k : PyData), x = .ref d ∧ y = .ref a ∧ H d = some (NDO P w d kvs) ∧ KeysOk K H kvs ∧ Good k ∧ Dp K H (.ref a) k ∧ k ∈ kvs.map (·.1) ∧
  ∀ z ∈ kvs, z.1 = k → Q z.2.2 H
theorem pe_getN {o i : Expr} {td ty : TE} {pos : Pos} (hu : X.A.units + 64 < cLine) (hr : PE X o td) (hi : PE X i ty) (hs : NoSl i) : PE X (.Subscript o i pos) (tOp (rGetN X.K X.prog X.w) td ty) := by
  refine ⟨fun pins s σ H Q I h => ?_⟩
  refine subD_of PySem.F.slot_dict_getitem.lookup hs (thn (hr.run pins s σ H _ I h) fun v s1 ⟨x, H1, I1, r1, q1⟩ => thn (hi.run pins s1 σ H1 _ I1 q1) fun u s2 ⟨y, H2, I2, r2, a, d, kvs, k, ex, ey, hd, hk, g, da, hm, q⟩ => ?_)
  subst ex ey
  cases r1
  cases r2
  obtain ⟨hz, hs', xs, p, m⟩ := nd_get I2 hd hk
  obtain ⟨l1, l2⟩ := nd_look p (fun z hz => (hk z hz).1) g
  refine ⟨m.typeIs, ?_⟩
  cases e : atKey xs (toK k) with
  | none =>
    obtain ⟨z, hz, ez⟩ := List.mem_map.mp hm
    exact absurd ez (l2 e z hz)
  | some pv =>
    obtain ⟨z, hz, ez, rz⟩ := l1 pv e
    exact wpAny_getItem_heap (knd := nestedKind X.prog X.w) (by show X.A.units + 1 + 8 < cLine; omega) (key_at I2 da g) m e ⟨z.2.2, H2, I2.tok _, rz, q z hz ez⟩
/-- {} -/
theorem pe_dnewN {pos : Pos} : PE X (.Dict [] [] pos) (fun _ H Q => ∀ p, H p = none → Q (.ref p) (upd H p (NDO X.prog X.w p []))) := ⟨fun pins s σ H Q I h =>
  wpAny_Dict_empty ⟨.ref s.heap.objs.size, _, I.laid (a := s.heap.objs.size) (o := NDO X.prog X.w s.heap.objs.size []) (t' := s.toks) (fun _ _ q => Heap.get?_push_of_some _ q) (Nat.le_refl _)
    (nd_new (X := X) (Nat.zero_le _) (by have := I.big; exact beq_eq_false_iff_ne.mpr (Nat.ne_of_gt this)) .nil (Heap.DictOfH.new _)), rfl, h _ (I.hok.fresh (Nat.le_refl _))⟩⟩
/-- an entry more -/
theorem nd_put {a : Addr} {k : PyData} {x : V} {u : Value} {A : Around} {Q : Unit → Shared → Prop} (hu : A.units + 8 < cLine) (I : Inv X pins σ H s) (hd : H d = some (NDO X.prog X.w d kvs)) (hk : KeysOk X.K H kvs) (g : Good k) (da : Dp X.K H (.ref a) k) (new : k ∉ kvs.map (·.1)) (few : kvs.length < 100000) (r : RelV x u)
    (h : ∀ s', Inv X pins σ (upd H d (NDO X.prog X.w d (kvs ++ [(k, a, x)]))) s' → (∀ b o, b ≠ d → s.heap.get? b = some o → s'.heap.get? b = some o) → Q () s') : wpAny (model X.prog X.w) A (dictSet d (.ref a) u) Q E s := by
  obtain ⟨hz, hs, xs, p, m⟩ := nd_get I hd hk
  have xl : xs.length = kvs.length := (Paired.length p).symm
  have none_ : atKey xs (toK k) = none := by
    cases e : atKey xs (toK k) with
    | none => rfl
    | some q => exact absurd ((nd_isSome p (fun z hz => (hk z hz).1) g).mp (by rw [e]; rfl)) new
  refine wpAny_dictSet_heap (knd := nestedKind X.prog X.w) (hsz := by rw [sizeLine_eq]; omega) hu (key_at I da g) m fun h' m' sb => ?_
  rw [storedH_new none_] at m'
  have ex : ∃ q, h'.get? d = some q := let ⟨q, _, _, hq, _⟩ := m'; ⟨q, hq⟩
  refine h _ (d_write (t' := _) I (by rw [hd]; exact True.intro) sb ex (nd_new (by rw [List.length_append, List.length_singleton]; omega) hs (paired_snoc ⟨rfl, rfl, r⟩ p) m')) fun b o hb e => (sb.2 b hb).trans e
/-- d.setdefault(k, x) -/
def tSetdN (K : PySem.W.Frag) (P : Program) (w : World) (td ty tx : TE) : TE := fun σ H Q => td σ H fun x H1 => ∃ d kvs0, x = .ref d ∧ H1 d = some (NDO P w d kvs0) ∧ ty σ H1 fun y H2 => tx σ H2 fun z H3 => ∃ (a : Addr) (kvs : List Ent) (k : PyData), y = .ref a ∧ H3 d = some (NDO P w d kvs) ∧ KeysOk K H3 kvs ∧
  Good k ∧ Dp K H3 (.ref a) k ∧ kvs.length < 100000 ∧ (∀ e ∈ kvs, e.1 = k → Q e.2.2 H3) ∧ (k ∉ kvs.map (·.1) → Q z (upd H3 d (NDO P w d (kvs ++ [(k, a, z)]))))
theorem pe_setdN {o e f : Expr} {td ty tx : TE} {apos cpos : Pos} (hu : X.A.units + 64 < cLine) (ho : PE X o td) (he : PE X e ty) (hf : PE X f tx) (m : M2 X o "setdefault" apos e f cpos) : PE X (.Call (.Attribute o "setdefault" apos) [e, f] [] cpos) (tSetdN X.K X.prog X.w td ty tx) := by
  refine ⟨fun pins s σ H Q I h => ?_⟩
  refine wpAny_Call_method m.base m.few m.line PySem.F.plainAttrs_dict PySem.F.slot_dict_setdefault PySem.F.type_dict_setdefault (thn (ho.run pins s σ H _ I h) fun u s1 ⟨x, H1, I1, rx, d, kvs0, ex, d0, q1⟩ => ?_)
  subst ex
  obtain rfl : u = Value.ref d := rx
  have ty0 : ∃ o, s1.heap.get? d = some o ∧ o.cls = .type "dict" ∧ o.dict = none := by
    obtain ⟨_, _, xs, _, o, es, ep, h1, h2, _⟩ := (I1.hok d _ d0).1
    exact ⟨o, h1, h2.1, h2.2.1⟩
  obtain ⟨ob, ho1, ho2, ho3⟩ := ty0
  refine ⟨⟨ob, ho1, ho2⟩, fun b eb => ?_, ?_⟩
  · cases eb
    exact ⟨ob, ho1, ho3⟩
  rw [m.trees]
  refine Calls.callWith_builtin rfl (Calls.evalArgs_plain (Calls.spliced_cons (thn (he.run pins s1 σ H1 _ I1 q1) fun iv s2 ⟨y, H2, I2, ry, q2⟩ =>
    Calls.spliced_cons (thn (hf.run pins s2 σ H2 _ I2 q2) fun fv s3 ⟨z, H3, I3, rz, a, kvs, k, ey, hd, hk, g, da, few, q3, q4⟩ => Calls.spliced_nil ?_))))
  subst ey
  obtain rfl : iv = Value.ref a := ry
  obtain ⟨hz, hs, xs, p, mm⟩ := nd_get I3 hd hk
  have xl : xs.length = kvs.length := (Paired.length p).symm
  obtain ⟨l1, l2⟩ := nd_look p (fun z hz => (hk z hz).1) g
  refine call_setdefault_heap (knd := nestedKind X.prog X.w) (hsz := by rw [sizeLine_eq]; omega) (by show X.A.units + 1 + 8 < cLine; omega) (key_at I3 da g) hs mm (fun pv hp => ?_) fun hn h' m' sb => ?_
  · obtain ⟨z', hz', ez, rz'⟩ := l1 pv hp
    exact ⟨z'.2.2, H3, I3.tok _, rz', q3 z' hz' ez⟩
  · rw [storedH_new hn] at m'
    have ex : ∃ q, h'.get? d = some q := let ⟨q, _, _, hq, _⟩ := m'; ⟨q, hq⟩
    refine ⟨z, _, d_write (t' := _) I3 (by rw [hd]; exact True.intro) sb ex (nd_new (by rw [List.length_append, List.length_singleton]; omega) hs (paired_snoc ⟨rfl, rfl, rz⟩ p) m'), rz, q4 fun hm => ?_⟩
    obtain ⟨z', hz', ez⟩ := List.mem_map.mp hm
    exact l2 hn z' hz' ez
end
end Rw
namespace Rw
open PySem PySem.Spec PyProof.Rows L2
/-! ### y = {x: True for x in xs}, xs a list of tuples, no two alike -/
theorem idx_new {ds : List PyData} (hn : ds.Nodup) {i : Nat} {d : PyData} (h : ds[i]? = some d) : d ∉ ds.take i := fun hm => by
  have z := take_snoc h
  have nd : (ds.take (i + 1)).Nodup := List.Nodup.sublist (List.take_sublist _ _) hn
  rw [z] at nd
  obtain ⟨_, _, h3⟩ := List.nodup_append.mp nd
  exact h3 d hm d (List.mem_singleton.mpr rfl) rfl
theorem vals_at : ∀ {xs : List V} {us : List Value} {i : Nat} {u : Value}, Vals xs us → us[i]? = some u → ∃ x, xs[i]? = some x ∧ RelV x u
  | _, _, _, _, .nil, e => by simp at e
  | _, _, 0, _, .cons r _, e => by
    simp at e
    subst e
    exact ⟨_, rfl, r⟩
  | _, _, i + 1, _, .cons _ t, e => by
    obtain ⟨x, h1, h2⟩ := vals_at (i := i) t (by simpa using e)
    exact ⟨x, by simpa using h1, h2⟩
section
variable {X : Cx}
def tSetD (K : PySem.W.Frag) (P : Program) (w : World) (ti : TE) : TE := fun σ H Q => ti σ H fun v H1 => ∃ (l : Addr) (xs : List V) (ds : List PyData), v = .ref l ∧ SqL K H1 l xs ∧ DpAll K H1 xs ds ∧ (∀ d ∈ ds, Good d) ∧ ds.Nodup ∧ ds.length ≤ 1000 ∧
  ∀ D kvs, H1 D = none → kvs.map (·.1) = ds → KeysOk K H1 kvs → Q (.ref D) (upd H1 D (NDO P w D kvs))
theorem ps_setDictTrue {i : Nat} {y x : Str} {py p1 p2 p3 pos spos : Pos} {kk : Nat} {iter : Expr} {scope : Scope} {own : List (Str × Nat)} {ti : TE} (hc : X.calm = true) (hu : X.A.units + 64 < cLine) (hN : X.N.Nodup) (hy : X.N[i]? = some y) (hyl : X.env.scope.names.lookup y = some .local)
    (hsw : swapsWith (.DictComp (.Name x p1) (.Constant (.bool true) kk p2) [⟨.Name x p3, iter, [], 0⟩] scope pos) (some (.Name y py)) spos.line X.env = pure true) (hi : PE X iter ti) (ok : BlkOk X.N X.env.scope scope own)
    (hx : scope.names.lookup x = some .local) (hdeb : (x == ("__debug__" : Str)) = false) (hcell : ∀ z ∈ scope.names, z.2 ≠ .cell) (hs : ∀ x, foldedSetIterable iter X.env x = pure x := by intro _; rfl) :
    PS X (.Assign [.Name y py] (.DictComp (.Name x p1) (.Constant (.bool true) kk p2) [⟨.Name x p3, iter, [], 0⟩] scope pos) spos) (tAsg (tSetD X.K X.prog X.w ti) (gName i)) := by
  refine ⟨fun pins s σ H D I h => ?_⟩
  have h : tSetD X.K X.prog X.w ti σ H (fun x H1 => gName i x σ H1 D.nx) := h
  have hfree : ∀ y ∈ scope.names, y.2 = .free → ∃ c, X.env.cells.lookup y.1 = some c := fun y hy e => by
    rcases ok.free y hy e with k | k
    · exact I.ok.has _ (.inl k)
    · exact I.ok.has _ (.inr k)
  rw [exec_Assign_Name_used _ _ _ _ hsw]
  refine wpAny_bind (wpAny_standAt (wpAny_bind ?_))
  show wpAny _ X.A (do let _ ← comprehension (.DictComp (.Name x p1) (.Constant (.bool true) kk p2) [⟨.Name x p3, iter, [], 0⟩] scope pos) scope X.env _ newDict false (eval iter X.env) (some (assign (.Name y py) X.env))) _ _ s
  have main : wpAny (model X.prog X.w) X.A (eval iter X.env) (fun xv s₁ => wpAny (model X.prog X.w) X.A (pyIter xv)
      (DcGoes X.prog X.w X.A X.xe X.env scope (cloFrom X.env.cells scope.names []) (.Name x p3) [] (.Name x p1) (.Constant (.bool true) kk p2) (some (assign (.Name y py) X.env)) (fun _ s' => SP X pins D .next s')) X.xe s₁) X.xe s := by
    refine thn (hi.run pins s σ H _ I h) fun xv s1 ⟨v, H1, I1, rv, l, xs, ds, ev, hl, hd, hg, hnd, hlen, q⟩ => ?_
    subst ev
    obtain rfl : xv = Value.ref l := rv
    obtain ⟨its, rvs, pl, _⟩ := I1.list hl
    have hl0 : s1.heap.IsList l its.toArray := pl.isList
    have hlt : (l : Nat) < s1.heap.objs.size := by
      obtain ⟨o, ho, _⟩ := hl0
      exact Heap.lt_size ho
    have il : its.length = ds.length := by rw [← rvs.length, dpAll_len hd]
    refine wpAny_pyIter_list hl0 ?_
    refine ⟨s1.heap.objs.size, [s1.heap.objs.size, l], [s1.heap.objs.size], its.toArray.size, _, _, rfl, Goes.list (I1.ok.hd hc) s1.heap.objs.size l (Nat.ne_of_lt hlt) its.toArray, ⟨⟨_, Heap.get?_push_size _ rfl, rfl, rfl⟩, hl0.push _⟩, ?_⟩
    intro D0 C s3 hB hDobj
    obtain ⟨⟨h3, tk3, rfl⟩, old, nD, nC, hDC, hnm⟩ := hB
    have szp : (s1.heap.push { cls := .type "list_iterator", data := .fields #[.ref l, .int 0 0] }).objs.size = s1.heap.objs.size + 1 := Heap.size_push ..
    have nD' : s1.heap.objs.size + 1 ≤ D0 := by
      have q := nD
      rw [szp] at q
      exact q
    have nC' : s1.heap.objs.size + 1 ≤ C := by
      have q := nC
      rw [szp] at q
      exact q
    have sD : s1.heap.objs.size ≤ D0 := Nat.le_trans (Nat.le_succ _) nD'
    have sC : s1.heap.objs.size ≤ C := Nat.le_trans (Nat.le_succ _) nC'
    have neDI : s1.heap.objs.size ≠ D0 := Nat.ne_of_lt nD'
    have neCI : s1.heap.objs.size ≠ C := Nat.ne_of_lt nC'
    have neDl : (l : Nat) ≠ D0 := Nat.ne_of_lt (Nat.lt_of_lt_of_le hlt sD)
    have neCl : (l : Nat) ≠ C := Nat.ne_of_lt (Nat.lt_of_lt_of_le hlt sC)
    have hDn : H1 D0 = none := I1.hok.fresh sD
    have hIn : H1 s1.heap.objs.size = none := I1.hok.fresh (Nat.le_refl _)
    have hCn : H1 C = none := I1.hok.fresh sC
    have all3 : ∀ b o, s1.heap.get? b = some o → h3.get? b = some o := fun b o e => old b o (Heap.get?_push_of_some _ e)
    have kx : (compEnvC scope (cloFrom X.env.cells scope.names []) C X.env).kindOf x = some .local := lookup_relabel_local hx
    have hp : ((compEnvC scope (cloFrom X.env.cells scope.names []) C X.env).scope.kind == .class || ((compEnvC scope (cloFrom X.env.cells scope.names []) C X.env).scope.kind == .module && (compEnvC scope (cloFrom X.env.cells scope.names []) C X.env).locals != (compEnvC scope (cloFrom X.env.cells scope.names []) C X.env).globals)) = false := by
      show (scope.kind == .class || (scope.kind == .module && _)) = false
      rw [ok.kind]
      rfl
    have fpI : ∀ kvs, FpOk X pins (upd H1 D0 (NDO X.prog X.w D0 kvs)) s1.heap.objs.size := fun kvs => I1.fpOk (Nat.le_refl _) (by rw [upd_ne neDI]; exact hIn)
    have fpC : ∀ kvs, FpOk X pins (upd H1 D0 (NDO X.prog X.w D0 kvs)) C := fun kvs => I1.fpOk sC (by rw [upd_ne (fun e => hDC e.symm)]; exact hCn)
    refine ⟨fun i s₁ => ∃ kvs m, Inv X pins σ (upd H1 D0 (NDO X.prog X.w D0 kvs)) s₁ ∧ s₁.heap.Ns C m ∧ kvs.map (·.1) = ds.take i ∧ KeysOk X.K H1 kvs, ?_, ?_, ?_, ?_⟩
    · -- at the start
      refine ⟨[], _, I1.laid (t' := tk3) all3 sD (nd_new (X := X) (Nat.zero_le _) ?_ .nil ?_), hnm, rfl, fun p hp => nomatch hp⟩
      · exact beq_eq_false_iff_ne.mpr (Nat.ne_of_gt (Nat.lt_of_lt_of_le I1.big sD))
      · exact ⟨_, #[], 0, hDobj, ⟨rfl, rfl, rfl⟩, rfl, rfl, (fun _ z => nomatch z), List.nodup_nil⟩
    · -- the iterator turns
      rintro i s₁ h' tk ⟨kvs, m, J, hn, e, ko⟩ kp _
      obtain ⟨f0, f1, f2, f3, f4, f5⟩ := fpI kvs
      exact ⟨kvs, m, J.turned (t' := tk) (fun b o hb q => kp b o (by simpa using hb) q) f0 f1 f3 f4 f5, hn.at' fun o q => kp _ o (by simpa using (fun z => neCI z.symm)) q, e, ko⟩
    · -- one turn
      rintro i v s₁ hi' hv st ⟨kvs, m, J, hn, e, ko⟩
      have hv' : its[i]? = some v := by simpa using hv
      obtain ⟨x0, hx0, rx0⟩ := vals_at rvs hv'
      obtain ⟨d, hd0, dd⟩ := dpAll_at' hd hx0
      have gd := hg d (List.mem_of_getElem? hd0)
      obtain ⟨a, rfl⟩ := gd.ref dd
      obtain rfl : v = Value.ref a := rx0
      refine wpAny_assign_Name (wpAny_storeName_local kx hn (fun h5 n5 s5 => ?_) hp)
      refine wpAny_tests_nil ?_
      show wpAny _ _ _ _ _ _
      obtain ⟨f0, f1, f2, f3, f4, f5⟩ := fpC kvs
      have J5 : Inv X pins σ (upd H1 D0 (NDO X.prog X.w D0 kvs)) { s₁ with heap := h5, toks := s₁.toks + 1 } := J.turned (t' := s₁.toks + 1) (fun b o hb q => (s5.2 b hb).trans q) f0 f1 f3 f4 f5
      rw [eval_Name _ _ _ hdeb]
      refine wpAny_bind (wpAny_standAt (wpAny_loadName_local ok.kind kx n5 (v := .ref a) (if_pos rfl) ?_))
      refine Constant_bool ?_
      have st5 : h5.IsListIter s1.heap.objs.size l (i + 1) ∧ h5.IsList l its.toArray := ⟨st.1.at fun o q => (s5.2 _ neCI).trans q, st.2.at fun o q => (s5.2 _ neCl).trans q⟩
      have sty : Stay H1 (upd H1 D0 (NDO X.prog X.w D0 kvs)) := Stay.new hDn _
      refine nd_put (s := { s₁ with heap := h5, toks := s₁.toks + 1 }) (by omega) J5 upd_same (ko.stay sty) gd (sty.dp _ _ gd.ok dd) (by rw [e]; exact idx_new hnd hd0) ?_ (x := .bl true) rfl fun s' J' kept => ?_
      · have z := congrArg List.length e
        rw [List.length_map, List.length_take] at z
        omega
      · rw [upd_upd] at J'
        refine ⟨⟨_, _, J', n5.at' fun o q => kept _ o (fun z => hDC z.symm) q, ?_, ?_⟩, st5.1.at fun o q => kept _ o neDI q, st5.2.at fun o q => kept _ o neDl q⟩
        · rw [List.map_append, e, take_snoc hd0]
          rfl
        · intro p hp
          rcases List.mem_append.mp hp with hp | hp
          · exact ko p hp
          · rw [List.mem_singleton.mp hp]
            exact ⟨gd, dd⟩
    · -- behind the last
      rintro s₁ ⟨kvs, m, J, hn, e, ko⟩
      have e' : kvs.map (·.1) = ds := by
        rw [e, List.size_toArray, il, List.take_length]
      show wpAny _ X.A (assign (.Name y py) X.env (.ref D0)) _ _ _
      obtain ⟨f0, f1, f2, f3, f4, f5⟩ := fpC kvs
      refine wpAny_assign_Name (store_ok2 (v := V.ref D0) J hN hy (.inl hyl) rfl (fun s2 J2 ⟨a, sb, ha⟩ => ?_) (.inr hyl))
      have haC : C ≠ a := by
        rcases ha with z | z
        · rw [z]
          exact f1
        · exact fun e => f4 y a z e.symm
      exact ⟨m, hn.sameBut sb haC, fun h3' sb3 => ⟨_, _, J2.turned (t' := s2.toks) (fun b o hb q => (sb3.2 b hb).trans q) f0 f1 f3 f4 f5, q D0 kvs hDn e' ko⟩⟩
  refine wpAny_bind (wpAny_mono (comprehension_at (use := some (assign (.Name y py) X.env)) (Q := fun _ s' => SP X pins D .next s') rfl hs (closure_ok hfree) ok.kind (fun z hz e => by rw [ok.uniq z hz, e])
    (wpAny_mono main (fun xv s₁ h₁ => wpAny_mono h₁ (fun it s₂ h₂ => compBlock_dict hcell ok.kind h₂) fun _ _ e => e) fun _ _ e => e)) (fun _ s' hq => wpAny_pure (wpAny_pure hq)) fun _ _ e => e)
end
end Rw
namespace Rw
open PySem PySem.Spec PyProof.Rows L2
/-! ### names, worlds, pairs -/
def letter (c : Nat) : Bool := decide (97 ≤ c) && decide (c ≤ 122)
def notS : Str := ("not" : Str)
def nameB (x : Str) : Bool := x.cps.toList.all letter && decide (1 ≤ x.cps.size) && decide (x.cps.size ≤ 8) && !decide (x = notS)
theorem nameB_iff {x : Str} : nameB x = true ↔ (∀ c ∈ x.cps.toList, letter c = true) ∧ 1 ≤ x.cps.size ∧ x.cps.size ≤ 8 ∧ x ≠ notS := by
  unfold nameB
  simp only [Bool.and_eq_true, List.all_eq_true, decide_eq_true_eq, Bool.not_eq_true', decide_eq_false_iff_not]
  exact ⟨fun ⟨⟨⟨a, b⟩, c⟩, d⟩ => ⟨a, b, c, d⟩, fun ⟨a, b, c, d⟩ => ⟨⟨⟨a, b⟩, c⟩, d⟩⟩
theorem name_strOk {x : Str} (h : nameB x = true) : PyData.strOk x = true := by
  obtain ⟨h1, _⟩ := nameB_iff.mp h
  unfold PyData.strOk
  rw [← Array.all_toList, List.all_eq_true]
  intro c hc
  have := h1 c hc
  unfold letter at this
  simp only [Bool.and_eq_true, decide_eq_true_eq] at this
  exact decide_eq_true (by omega)
abbrev W := List Str
abbrev Pr := W × W
/-- strictly rising -/
abbrev UpX (ns : W) : Prop := ns.Pairwise fun a b => a.cps.toList < b.cps.toList
structure IsW (ns : W) : Prop where
  names : ∀ x ∈ ns, nameB x = true
  up : UpX ns
  few : ns.length ≤ 40
def wd (ns : W) : PyData := .tuple (ns.map .str)
def pd (p : Pr) : PyData := .tuple [wd p.1, wd p.2]
theorem str_inj : ∀ {a b : W}, a.map PyData.str = b.map PyData.str → a = b
  | [], [], _ => rfl
  | [], _ :: _, h => by simp at h
  | _ :: _, [], h => by simp at h
  | x :: a, y :: b, h => by
    simp only [List.map_cons, List.cons.injEq, PyData.str.injEq] at h
    rw [h.1, str_inj h.2]
theorem wd_inj {a b : W} (h : wd a = wd b) : a = b := by
  unfold wd at h
  injection h with h
  exact str_inj h
theorem pd_inj {p q : Pr} (h : pd p = pd q) : p = q := by
  unfold pd at h
  injection h with h
  injection h with h1 h2
  injection h2 with h2 _
  exact Prod.ext (wd_inj h1) (wd_inj h2)
theorem okDs_str : ∀ ns : W, okDs (ns.map .str) = true
  | [] => rfl
  | x :: ns => by
    rw [List.map_cons, okDs, okDs_str ns]
    rfl
theorem depth_str : ∀ ns : W, PyData.depthAll (ns.map .str) = 0
  | [] => by simp [PyData.depthAll]
  | x :: ns => by
    rw [List.map_cons, PyData.depthAll, depth_str ns]
    simp [PyData.depth]
theorem ok_wd (ns : W) : okD (wd ns) = true := by
  unfold wd
  rw [okD]
  exact okDs_str ns
theorem depth_wd (ns : W) : (wd ns).depth = 1 := by
  unfold wd
  rw [PyData.depth, depth_str]
theorem good_wd (ns : W) : Good (wd ns) := ⟨ok_wd ns, by rw [depth_wd]; decide, ⟨_, rfl⟩⟩
theorem ok_pd (p : Pr) : okD (pd p) = true := by
  unfold pd
  rw [okD, okDs, okDs, okDs, ok_wd, ok_wd]
  rfl
theorem depth_pd (p : Pr) : (pd p).depth = 2 := by
  unfold pd
  simp [PyData.depth, PyData.depthAll, depth_wd]
theorem good_pd (p : Pr) : Good (pd p) := ⟨ok_pd p, by rw [depth_pd]; decide, ⟨_, rfl⟩⟩
theorem lay_strs : ∀ {ns : W}, (∀ x ∈ ns, nameB x = true) → PyData.canLayAll0 (ns.map .str) = true
  | [], _ => by simp [PyData.canLayAll0]
  | x :: ns, h => by
    rw [List.map_cons, PyData.canLayAll0, lay_strs fun y hy => h y (List.mem_cons_of_mem _ hy), PyData.canLay0, name_strOk (h x List.mem_cons_self)]
    rfl
theorem lay_wd {ns : W} (h : ∀ x ∈ ns, nameB x = true) : (wd ns).canLay0 = true := by
  unfold wd
  rw [PyData.canLay0]
  exact lay_strs h
theorem shaped_wd {ns : W} (h : IsW ns) : SeqAt.shaped (wd ns) = true := by
  unfold SeqAt.shaped
  rw [lay_wd h.names, depth_wd]
  rfl
theorem lay_pd {p : Pr} (h1 : IsW p.1) (h2 : IsW p.2) : (pd p).canLay0 = true := by
  unfold pd
  rw [PyData.canLay0, PyData.canLayAll0, PyData.canLayAll0, PyData.canLayAll0, lay_wd h1.names, lay_wd h2.names]
  rfl
theorem shaped_pd {p : Pr} (h1 : IsW p.1) (h2 : IsW p.2) : SeqAt.shaped (pd p) = true := by
  unfold SeqAt.shaped
  rw [lay_pd h1 h2, depth_pd]
  rfl
theorem alike_strs : ∀ a b : W, PySem.W.alikeAll (a.map .str) (b.map .str) = true
  | [], _ => by simp [PySem.W.alikeAll]
  | _ :: _, [] => by simp [PySem.W.alikeAll]
  | x :: a, y :: b => by
    rw [List.map_cons, List.map_cons, PySem.W.alikeAll, alike_strs a b]
    simp [PySem.W.alike]
theorem alike_wd (a b : W) : PySem.W.alike (wd a) (wd b) = true := by
  unfold wd
  rw [PySem.W.alike]
  exact alike_strs a b
theorem alike_pd (p q : Pr) : PySem.W.alike (pd p) (pd q) = true := by
  unfold pd
  rw [PySem.W.alike, PySem.W.alikeAll, PySem.W.alikeAll, PySem.W.alikeAll, alike_wd, alike_wd]
  rfl
theorem eqv_strs : ∀ a b : W, PyData.eqvAll (a.map .str) (b.map .str) = decide (a = b)
  | [], [] => by simp [PyData.eqvAll]
  | [], _ :: _ => by simp [PyData.eqvAll]
  | _ :: _, [] => by simp [PyData.eqvAll]
  | x :: a, y :: b => by
    rw [List.map_cons, List.map_cons, PyData.eqvAll, eqv_strs a b, PyData.eqv]
    by_cases h : x = y
    · subst h
      by_cases h2 : a = b <;> simp [h2]
    · simp [h]
theorem eqv_wd (a b : W) : PyData.eqv (wd a) (wd b) = decide (a = b) := by
  unfold wd
  rw [PyData.eqv]
  exact eqv_strs a b
theorem eqv_pd (p q : Pr) : PyData.eqv (pd p) (pd q) = decide (p = q) := by
  unfold pd
  rw [PyData.eqv, PyData.eqvAll, PyData.eqvAll, PyData.eqvAll, eqv_wd, eqv_wd]
  obtain ⟨a, b⟩ := p
  obtain ⟨c, d⟩ := q
  by_cases h1 : a = c
  · by_cases h2 : b = d <;> simp [h1, h2]
  · simp [h1]
/-! ### sorted lists are told by their members -/
theorem toks_ne {d e : PyData} (h : PySem.W.alike d e = true) (he : PyData.eqv d e = false) : PySem.W.keyToks d ≠ PySem.W.keyToks e := fun t => by
  have z := (PySem.W.toks_eqv d e h).2 he [.inl 0] [.inl 1]
  rw [t, PySem.W.lex_pre, lex_irrefl] at z
  exact absurd z (by decide)
theorem lt_or {d e : PyData} (h : PySem.W.alike d e = true) (he : PyData.eqv d e = false) : PySem.W.dataLt d e = true ∨ PySem.W.dataLt e d = true := by
  cases h1 : PySem.W.dataLt d e with
  | true => exact .inl rfl
  | false =>
    cases h2 : PySem.W.dataLt e d with
    | true => exact .inr rfl
    | false => exact absurd (lex_total _ _ h1 h2) (toks_ne h he)
/-- rising and without repetition: told by the members -/
theorem rising_one {α : Type} {enc : α → PyData} (al : ∀ a b, PySem.W.alike (enc a) (enc b) = true) (inj : ∀ a b, PyData.eqv (enc a) (enc b) = true → a = b) :
    ∀ {l m : List α}, Rising (l.map enc) → Rising (m.map enc) → l.Nodup → m.Nodup → (∀ a, a ∈ l ↔ a ∈ m) → l = m
  | [], [], _, _, _, _, _ => rfl
  | [], b :: m, _, _, _, _, h => absurd ((h b).mpr List.mem_cons_self) (List.not_mem_nil)
  | a :: l, [], _, _, _, _, h => absurd ((h a).mp List.mem_cons_self) (List.not_mem_nil)
  | a :: l, b :: m, r1, r2, n1, n2, h => by
    have le_of : ∀ {x y : α} {k : List α}, Rising ((x :: k).map enc) → y ∈ x :: k → y = x ∨ PySem.W.dataLt (enc y) (enc x) = false := by
      intro x y k r hy
      rcases List.mem_cons.mp hy with e | hy
      · exact .inl e
      · right
        have z := (List.pairwise_cons.mp r).1 (enc y) (List.mem_map.mpr ⟨y, hy, rfl⟩)
        have z' : (!PySem.W.dataLt (enc y) (enc x)) = true := z
        simpa using z'
    have e : a = b := by
      have h1 := le_of r1 ((h b).mpr List.mem_cons_self)
      have h2 := le_of r2 ((h a).mp List.mem_cons_self)
      rcases h1 with e | h1
      · exact e.symm
      · rcases h2 with e | h2
        · exact e
        · cases ev : PyData.eqv (enc a) (enc b) with
          | true => exact inj a b ev
          | false =>
            rcases lt_or (al a b) ev with z | z
            · rw [h2] at z
              exact nomatch z
            · rw [h1] at z
              exact nomatch z
    subst e
    obtain ⟨a1, a2⟩ := List.nodup_cons.mp n1
    obtain ⟨b1, b2⟩ := List.nodup_cons.mp n2
    rw [rising_one al inj (List.pairwise_cons.mp r1).2 (List.pairwise_cons.mp r2).2 a2 b2 fun x => ?_]
    constructor
    · intro hx
      rcases List.mem_cons.mp ((h x).mp (List.mem_cons_of_mem _ hx)) with e | z
      · rw [e] at hx
        exact absurd hx a1
      · exact z
    · intro hx
      rcases List.mem_cons.mp ((h x).mpr (List.mem_cons_of_mem _ hx)) with e | z
      · rw [e] at hx
        exact absurd hx b1
      · exact z
theorem pairs_one {R R' : List Pr} (r1 : Rising (R.map pd)) (r2 : Rising (R'.map pd)) (n1 : R.Nodup) (n2 : R'.Nodup) (h : ∀ p, p ∈ R ↔ p ∈ R') : R = R' :=
  rising_one alike_pd (fun p q e => by rw [eqv_pd] at e; exact of_decide_eq_true e) r1 r2 n1 n2 h
theorem worlds_one {R R' : List W} (r1 : Rising (R.map wd)) (r2 : Rising (R'.map wd)) (n1 : R.Nodup) (n2 : R'.Nodup) (h : ∀ p, p ∈ R ↔ p ∈ R') : R = R' :=
  rising_one alike_wd (fun p q e => by rw [eqv_wd] at e; exact of_decide_eq_true e) r1 r2 n1 n2 h
/-- texts: likewise -/
theorem upX_one : ∀ {l m : W}, UpX l → UpX m → (∀ a, a ∈ l ↔ a ∈ m) → l = m
  | [], [], _, _, _ => rfl
  | [], b :: m, _, _, h => absurd ((h b).mpr List.mem_cons_self) (List.not_mem_nil)
  | a :: l, [], _, _, h => absurd ((h a).mp List.mem_cons_self) (List.not_mem_nil)
  | a :: l, b :: m, r1, r2, h => by
    obtain ⟨p1, q1⟩ := List.pairwise_cons.mp r1
    obtain ⟨p2, q2⟩ := List.pairwise_cons.mp r2
    have e : a = b := by
      rcases List.mem_cons.mp ((h a).mp List.mem_cons_self) with e | z
      · exact e
      · rcases List.mem_cons.mp ((h b).mpr List.mem_cons_self) with e | z'
        · exact e.symm
        · exact absurd (p1 b z') (List.lt_asymm (p2 a z))
    subst e
    have na : ∀ {k : W}, (∀ x ∈ k, a.cps.toList < x.cps.toList) → a ∉ k := fun h hm => List.lt_irrefl _ (h a hm)
    rw [upX_one q1 q2 fun x => ?_]
    constructor
    · intro hx
      rcases List.mem_cons.mp ((h x).mp (List.mem_cons_of_mem _ hx)) with e | z
      · rw [e] at hx
        exact absurd hx (na p1)
      · exact z
    · intro hx
      rcases List.mem_cons.mp ((h x).mpr (List.mem_cons_of_mem _ hx)) with e | z
      · rw [e] at hx
        exact absurd hx (na p2)
      · exact z
/-- ≤ and without repetition: strictly rising -/
theorem upX_of {zs : W} (h : RisingX zs) (n : zs.Nodup) : UpX zs := by
  induction zs with
  | nil => exact List.Pairwise.nil
  | cons x zs ih =>
    obtain ⟨p, q⟩ := List.pairwise_cons.mp h
    obtain ⟨n1, n2⟩ := List.nodup_cons.mp n
    refine List.pairwise_cons.mpr ⟨fun y hy => ?_, ih q n2⟩
    have le := of_decide_eq_true (p y hy)
    refine Classical.byContradiction fun c => ?_
    have ge : y.cps.toList ≤ x.cps.toList := List.not_lt.mp c
    have e : x.cps.toList = y.cps.toList := List.le_antisymm le ge
    exact n1 ((PySem.W.str_of_cps e) ▸ hy)
theorem upX_nodup {zs : W} (h : UpX zs) : zs.Nodup := List.Pairwise.imp (fun {a b} h e => by subst e; exact List.lt_irrefl _ h) h
end Rw
namespace Rw
open PySem PySem.Spec PyProof.Rows L2
def lettersS : Str := ("abcdefghijklmnopqrstuvwxyz" : Str)
theorem in_letters {c : Nat} (h : letter c = true) : c ∈ lettersS.cps.toList := by
  have all : ((List.range 123).all fun c => !letter c || decide (c ∈ lettersS.cps.toList)) = true := by decide +kernel
  have z := h
  unfold letter at z
  simp only [Bool.and_eq_true, decide_eq_true_eq] at z
  have q := List.all_eq_true.mp all c (List.mem_range.mpr (by omega))
  rw [h] at q
  simpa using q
/-- a comprehension over a text's signs -/
theorem lc_sgn {x : Str} {g : TG} {tt : TT} {te : TE} {vs : List Nat} {σ : L2.St} {H1 : Hp} {D : Addr} {Qd : Hp → Prop} (Pv : Nat → Hp → Prop) (h0 : Pv 0 (upd H1 D (.lst [])))
    (hs : ∀ i c H, x.cps[i]? = some c → Pv i H → g (.str ⟨#[c]⟩) (wipe σ vs) H fun σ2 H2 => wipe σ2 vs = wipe σ vs ∧ tt σ2 H2 fun b H3 =>
      if b = true then te σ2 H3 fun y H4 => ∃ acc, H4 D = some (.lst acc) ∧ acc.length < sizeLine ∧ Pv (i + 1) (upd H4 D (.lst (acc ++ [y]))) else Pv (i + 1) H3) (hd : ∀ H, Pv x.cps.size H → Qd H) :
    ∃ W : Nat → Nat → Hp → Prop, (∃ m, W 0 m (upd H1 D (.lst []))) ∧ ∀ i m H, W i m H →
      ((Its x).stop i H ∧ Qd H) ∨ ((Its x).go i H ∧ ∃ Nx : Hp → Prop, (∀ H', Nx H' → ∃ m', m' < m ∧ W (i + 1) m' H') ∧ ∀ y H', (Its x).yld i H y H' → g y (wipe σ vs) H' fun σ2 H2 => wipe σ2 vs = wipe σ vs ∧ tt σ2 H2 fun b H3 =>
        if b = true then te σ2 H3 fun y H4 => ∃ acc, H4 D = some (.lst acc) ∧ acc.length < sizeLine ∧ Nx (upd H4 D (.lst (acc ++ [y]))) else Nx H3) := by
  refine ⟨fun i m H => m = x.cps.size - i ∧ i ≤ x.cps.size ∧ Pv i H, ⟨x.cps.size, by simp, Nat.zero_le _, h0⟩, ?_⟩
  rintro i m H ⟨rfl, hi, p⟩
  by_cases hlt : i < x.cps.size
  · refine .inr ⟨hlt, Pv (i + 1), fun H' p' => ⟨x.cps.size - (i + 1), by omega, rfl, hlt, p'⟩, fun y H' yy => ?_⟩
    obtain ⟨rfl, c, hc, rfl⟩ := yy
    exact hs i c _ hc p
  · have e : i = x.cps.size := by omega
    subst e
    exact .inl ⟨Nat.le_refl _, hd H p⟩
theorem small_line {n : Nat} (h : n ≤ 10000) : n ≤ sizeLine := by
  rw [sizeLine_eq]
  omega
theorem small_line' {n : Nat} (h : n ≤ 10000) : n < sizeLine := by
  rw [sizeLine_eq]
  omega
theorem map_at {α β : Type} {l : List α} {f : α → β} {i : Nat} {y : β} (h : (l.map f)[i]? = some y) : ∃ x, l[i]? = some x ∧ y = f x := by
  rw [List.getElem?_map] at h
  cases e : l[i]? with
  | none => rw [e] at h; simp at h
  | some x =>
    rw [e] at h
    exact ⟨x, rfl, (Option.some.inj h).symm⟩
theorem same_put {H H1 : Hp} {D : Addr} {o : HO} (sm : Same H H1) (hD : H D = none) : Same H (upd H1 D o) := fun b u e => by
  rw [upd_ne (ne_of_none e hD)]
  exact sm b u e
theorem dps_str {K : PySem.W.Frag} {H : Hp} : ∀ {ns : W} {xs : List V}, DpAll K H xs (ns.map .str) → xs = ns.map V.str
  | [], _, h => by cases h; rfl
  | x :: ns, _, h => by
    cases h with
    | cons h1 h2 =>
      cases h1
      rw [dps_str h2]
      rfl
theorem dps_strs {K : PySem.W.Frag} {H : Hp} : ∀ ns : W, DpAll K H (ns.map V.str) (ns.map .str)
  | [] => .nil
  | x :: ns => .cons (.str x) (dps_strs ns)
theorem of_wd {K : PySem.W.Frag} {H : Hp} {x : V} {ns : W} (h : Dp K H x (wd ns)) : ∃ a, x = .ref a ∧ SqT K H a (ns.map V.str) := by
  unfold wd at h
  cases h with
  | tup h1 h2 =>
    rw [dps_str h2] at h1
    exact ⟨_, rfl, h1⟩
theorem to_wd {K : PySem.W.Frag} {H : Hp} {a : Addr} {ns : W} (h : SqT K H a (ns.map V.str)) : Dp K H (.ref a) (wd ns) := .tup h (dps_strs ns)
theorem Stay.wd {K : PySem.W.Frag} {H H' : Hp} {x : V} {ns : W} (e : Stay H H') (h : Dp K H x (Rw.wd ns)) : Dp K H' x (Rw.wd ns) := e.dp _ _ (ok_wd ns) h
theorem tyx_tup {K : PySem.W.Frag} {H : Hp} {a : Addr} {xs : List V} (h : SqT K H a xs) : TyX K H (.ref a) (.type "tuple") := by
  rcases h with (h | ⟨o, h⟩) | ⟨o, its, n, h1, h2, _⟩
  · exact .base (.tup h)
  · exact .fTuple h
  · exact .kTuple h1 h2
/-- all of ms are in ns -/
def sub (ms ns : W) : Bool := ms.all fun z => decide (z ∈ ns)
theorem inV_str (z : Str) : ∀ ns : W, inV (.str z) (ns.map V.str) = decide (z ∈ ns)
  | [] => by simp [inV]
  | x :: ns => by
    have ih := inV_str z ns
    unfold inV at ih ⊢
    rw [List.map_cons, List.any_cons, ih]
    show ((x == z) || decide (z ∈ ns)) = decide (z ∈ x :: ns)
    by_cases h : x = z
    · subst h
      simp
    · have h' : z ≠ x := fun e => h e.symm
      simp [h, h']
theorem flat_strs (ns : W) : (ns.map V.str).all flatV = true := by
  rw [List.all_map, List.all_eq_true]
  exact fun _ _ => rfl
/-- the first that is told -/
theorem first_at {α β : Type} {f : α → Option β} {y : β} : ∀ {l : List α} {i : Nat} {p : α}, (∀ q ∈ l.take i, f q = none) → l[i]? = some p → f p = some y → l.findSome? f = some y
  | [], _, _, _, h, _ => by simp at h
  | a :: l, 0, p, _, h, e => by
    simp at h
    subst h
    rw [List.findSome?_cons, e]
  | a :: l, i + 1, p, h0, h, e => by
    rw [List.findSome?_cons, h0 a (by simp)]
    exact first_at (i := i) (fun q hq => h0 q (by rw [List.take_succ_cons]; exact List.mem_cons_of_mem _ hq)) (by simpa using h) e
theorem first_none {α β : Type} {f : α → Option β} {l : List α} (h : ∀ q ∈ l, f q = none) : l.findSome? f = none := List.findSome?_eq_none_iff.mpr h
theorem none_snoc {α β : Type} {f : α → Option β} {l : List α} {i : Nat} {p : α} (h0 : ∀ q ∈ l.take i, f q = none) (h : l[i]? = some p) (e : f p = none) : ∀ q ∈ l.take (i + 1), f q = none := fun q hq => by
  rw [take_snoc h] at hq
  rcases List.mem_append.mp hq with hq | hq
  · exact h0 q hq
  · rw [List.mem_singleton.mp hq]
    exact e
theorem filt_t {α : Type} {p : α → Bool} {l : List α} {i : Nat} {z : α} (hz : l[i]? = some z) (e : p z = true) : (l.take (i + 1)).filter p = (l.take i).filter p ++ [z] := by
  rw [take_snoc hz, List.filter_append]
  simp [e]
theorem filt_f {α : Type} {p : α → Bool} {l : List α} {i : Nat} {z : α} (hz : l[i]? = some z) (e : p z = false) : (l.take (i + 1)).filter p = (l.take i).filter p := by
  rw [take_snoc hz, List.filter_append]
  simp [e]
theorem okDs_wd (L : List W) : okDs (L.map wd) = true := okDs_all fun d hd => by
  obtain ⟨q, _, rfl⟩ := List.mem_map.mp hd
  exact ok_wd q
theorem none_back {H0 H : Hp} (h : Same H0 H) {o : Addr} (n : H o = none) : H0 o = none := by
  cases e : H0 o with
  | none => rfl
  | some u =>
    rw [h _ _ e] at n
    cases n
theorem map_inj_nodup {α β : Type} {f : α → β} : ∀ {l : List α}, (l.map f).Nodup → ∀ a ∈ l, ∀ b ∈ l, f a = f b → a = b
  | [], _, a, h, _, _, _ => nomatch h
  | x :: l, hn, a, ha, b, hb, e => by
    rw [List.map_cons] at hn
    obtain ⟨h1, h2⟩ := List.nodup_cons.mp hn
    rcases List.mem_cons.mp ha with ea | ha
    · rcases List.mem_cons.mp hb with eb | hb
      · rw [ea, eb]
      · exact absurd (List.mem_map.mpr ⟨b, hb, by rw [← e, ea]⟩) h1
    · rcases List.mem_cons.mp hb with eb | hb
      · exact absurd (List.mem_map.mpr ⟨a, ha, by rw [e, eb]⟩) h1
      · exact map_inj_nodup h2 a ha b hb e
theorem sw_trueD {key val : Expr} {gs : List Comprehension} {scope : Scope} {pos py : Pos} {y : Str} {l : Nat} {env : Env} (hk : env.scope.kind = .function) (hy : env.scope.names.lookup y = some .local) (hl : (py.line == pos.line) = true)
    (ha : (scope.names.any fun (n, k) => n == y && (k == .local || k == .cell)) = false) : swapsWith (.DictComp key val gs scope pos) (some (.Name y py)) l env = pure true :=
  (show swapsWith (.DictComp key val gs scope pos) (some (.Name y py)) l env = swapsWith (.ListComp key gs scope pos) (some (.Name y py)) l env from rfl).trans (sw_true hk hy hl ha)
theorem op_powB {X : Cx} : OpR X (binaryOp .Pow) (rI (fun i j => 0 ≤ j ∧ (Builtin.Int.intBits i : Int) * j ≤ 2 ^ 27) fun i j => .int (i ^ j.toNat)) := opI fun _ _ _ _ _ _ _ hc q => pow_int hc.1 hc.2 q
theorem b64 {i : Int} (h0 : 0 ≤ i) (h1 : i < 2147483647) : -(2 ^ 64) < i ∧ i < 2 ^ 64 := ⟨by omega, by omega⟩
/-- a purse: three numbers -/
def Pur (H : Hp) (p : Addr) (c : Int) : Prop := ∃ a b e : Int, H p = some (.lst [.int a, .int b, .int e]) ∧ 0 ≤ a ∧ 0 ≤ b ∧ b < 2147483647 ∧ 0 ≤ e ∧ e ≤ c
def subsR : W → List W
  | [] => [[]]
  | x :: r => subsR r ++ (subsR r).map fun t => t ++ [x]
def subs (ns : W) : List W := subsR ns.reverse
theorem mem_subsR : ∀ {r t : W}, t ∈ subsR r ↔ t.Sublist r.reverse
  | [], t => by
    rw [subsR, List.mem_singleton, List.reverse_nil, List.sublist_nil]
  | x :: r, t => by
    rw [subsR, List.mem_append, List.mem_map, List.reverse_cons, List.sublist_append_iff]
    constructor
    · rintro (h | ⟨s, hs, rfl⟩)
      · exact ⟨t, [], by simp, mem_subsR.mp h, by simp⟩
      · exact ⟨s, [x], rfl, mem_subsR.mp hs, List.Sublist.refl _⟩
    · rintro ⟨a, b, rfl, ha, hb⟩
      cases hb with
      | cons _ h =>
        left
        rw [List.sublist_nil.mp h, List.append_nil]
        exact mem_subsR.mpr ha
      | cons_cons _ h =>
        right
        exact ⟨a, mem_subsR.mpr ha, by rw [List.sublist_nil.mp h]⟩
theorem mem_subs {ns t : W} : t ∈ subs ns ↔ t.Sublist ns := by
  unfold subs
  rw [mem_subsR, List.reverse_reverse]
theorem subsR_nodup : ∀ {r : W}, r.Nodup → (subsR r).Nodup
  | [], _ => by simp [subsR]
  | x :: r, h => by
    obtain ⟨h1, h2⟩ := List.nodup_cons.mp h
    have ih := subsR_nodup h2
    rw [subsR]
    refine List.nodup_append.mpr ⟨ih, ?_, fun a ha b hb e => ?_⟩
    · exact List.Pairwise.map _ (fun a b (hab : a ≠ b) (e : a ++ [x] = b ++ [x]) => hab (List.append_cancel_right e)) ih
    · subst e
      obtain ⟨s, hs, rfl⟩ := List.mem_map.mp hb
      have z := (mem_subsR.mp ha).subset (List.mem_append_right s (List.mem_singleton.mpr rfl))
      exact h1 (List.mem_reverse.mp z)
theorem subs_nodup {ns : W} (h : ns.Nodup) : (subs ns).Nodup := subsR_nodup (List.pairwise_reverse.mpr (h.imp fun hne e => hne e.symm))
theorem subsR_len : ∀ r : W, (subsR r).length = 2 ^ r.length
  | [] => rfl
  | x :: r => by
    rw [subsR, List.length_append, List.length_map, subsR_len r, List.length_cons, Nat.pow_succ]
    omega
theorem subs_len (ns : W) : (subs ns).length = 2 ^ ns.length := by
  unfold subs
  rw [subsR_len, List.length_reverse]
theorem subs_snoc (ns : W) (x : Str) : subs (ns ++ [x]) = subs ns ++ (subs ns).map fun t => t ++ [x] := by
  unfold subs
  rw [List.reverse_append, List.reverse_singleton]
  rfl
theorem sub_mem {a b : W} (h : sub a b = true) : ∀ x ∈ a, x ∈ b := fun x hx => by
  unfold sub at h
  exact of_decide_eq_true (List.all_eq_true.mp h x hx)
theorem sub_of {a b : W} (h : ∀ x ∈ a, x ∈ b) : sub a b = true := by
  unfold sub
  exact List.all_eq_true.mpr fun x hx => decide_eq_true (h x hx)
/-- the parts of a world are the worlds within it -/
theorem parts_iff {ns t : W} (h : IsW ns) : t ∈ subs ns ↔ IsW t ∧ sub t ns = true := by
  rw [mem_subs]
  constructor
  · intro s
    exact ⟨⟨fun x hx => h.names x (s.subset hx), h.up.sublist s, Nat.le_trans s.length_le h.few⟩, sub_of fun x hx => s.subset hx⟩
  · rintro ⟨hw, hs⟩
    have e : ns.filter (fun x => decide (x ∈ t)) = t := upX_one (h.up.sublist List.filter_sublist) hw.up fun a => by
      rw [List.mem_filter, decide_eq_true_iff]
      exact ⟨fun z => z.2, fun z => ⟨sub_mem hs a z, z⟩⟩
    rw [← e]
    exact List.filter_sublist
/-- the list of worlds at l -/
def WL (K : PySem.W.Frag) (H : Hp) (l : Addr) (S : List W) : Prop := ∃ ys, H l = some (.lst ys) ∧ DpAll K H ys (S.map wd)
theorem WL.same {K : PySem.W.Frag} {H H' : Hp} {l : Addr} {R : List W} (h : WL K H l R) (e : Same H H') : WL K H' l R := by
  obtain ⟨xs, h1, h2⟩ := h
  exact ⟨xs, e _ _ h1, (Stay.same e).dpAll _ _ (okDs_wd R) h2⟩
theorem all_wd : ∀ {ds : List PyData}, (∀ d ∈ ds, ∃ p, d = wd p) → ∃ R : List W, ds = R.map wd
  | [], _ => ⟨[], rfl⟩
  | d :: ds, h => by
    obtain ⟨p, rfl⟩ := h d List.mem_cons_self
    obtain ⟨R, rfl⟩ := all_wd fun e he => h e (List.mem_cons_of_mem _ he)
    exact ⟨p :: R, rfl⟩
theorem perm_of_map {α β : Type} {f : α → β} (inj : ∀ a b, f a = f b → a = b) : ∀ {l m : List α}, (l.map f).Perm (m.map f) → l.Perm m := by
  intro l m h
  classical
  refine List.perm_iff_count.mpr fun a => ?_
  have z := List.perm_iff_count.mp h (f a)
  have c : ∀ k : List α, List.count (f a) (k.map f) = List.count a k := fun k => by
    induction k with
    | nil => rfl
    | cons x k ih =>
      rw [List.map_cons, List.count_cons, List.count_cons, ih]
      by_cases e : x = a
      · subst e
        simp
      · have e' : f x ≠ f a := fun z => e (inj _ _ z)
        simp [e, e']
  rw [c, c] at z
  exact z
theorem shaped_strs {ns : W} (h : ∀ x ∈ ns, nameB x = true) : SeqAt.shaped (.list (ns.map .str)) = true := by
  unfold SeqAt.shaped
  rw [PyData.canLay0, lay_strs h, PyData.depth, depth_str]
  rfl
theorem first_map {α β γ : Type} {f : β → Option γ} {g : α → β} : ∀ {l : List α}, (l.map g).findSome? f = l.findSome? fun a => f (g a)
  | [] => rfl
  | a :: l => by
    rw [List.map_cons, List.findSome?_cons, List.findSome?_cons, first_map (l := l)]
theorem first_filter {α γ : Type} {f : α → Option γ} {p : α → Bool} : ∀ {l : List α}, (l.filter p).findSome? f = l.findSome? fun a => if p a = true then f a else none
  | [] => rfl
  | a :: l => by
    rw [List.findSome?_cons, ← first_filter (l := l)]
    by_cases h : p a = true
    · rw [List.filter_cons_of_pos h, List.findSome?_cons, if_pos h]
    · rw [List.filter_cons_of_neg h, if_neg h]
theorem first_congr {α γ : Type} {f g : α → Option γ} {l : List α} (h : ∀ a ∈ l, f a = g a) : l.findSome? f = l.findSome? g := by
  induction l with
  | nil => rfl
  | cons a l ih =>
    rw [List.findSome?_cons, List.findSome?_cons, h a List.mem_cons_self, ih fun b hb => h b (List.mem_cons_of_mem _ hb)]
theorem sub_self (t : W) : sub t t = true := sub_of fun _ h => h
theorem sub_trans {a b c : W} (h : sub a b = true) (h2 : sub b c = true) : sub a c = true := sub_of fun x hx => sub_mem h2 x (sub_mem h x hx)
theorem room65 {k : Nat} {A : Around} (hr : Room k A) : A.units + 65 < cLine := by
  have := hr.un
  omega
theorem len_le {α : Type} [DecidableEq α] : ∀ {l m : List α}, l.Nodup → (∀ z ∈ l, z ∈ m) → l.length ≤ m.length
  | [], _, _, _ => Nat.zero_le _
  | x :: l, m, hn, hs => by
    obtain ⟨h1, h2⟩ := List.nodup_cons.mp hn
    have hx : x ∈ m := hs x List.mem_cons_self
    have ih := len_le (l := l) (m := m.erase x) h2 fun y hy => (List.mem_erase_of_ne (show y ≠ x from fun e => h1 (by rw [← e]; exact hy))).2 (hs y (List.mem_cons_of_mem _ hy))
    rw [List.length_erase_of_mem hx] at ih
    have := List.length_pos_of_mem hx
    rw [List.length_cons]
    omega
theorem prod_len {α β : Type} (m : List β) : ∀ l : List α, (l.flatMap fun a => m.map fun b => (a, b)).length = l.length * m.length
  | [] => by simp
  | a :: l => by
    rw [List.flatMap_cons, List.length_append, prod_len m l, List.length_map, List.length_cons, Nat.succ_mul]
    omega
theorem prod_mem {α β : Type} {l : List α} {m : List β} {a : α} {b : β} (ha : a ∈ l) (hb : b ∈ m) : (a, b) ∈ l.flatMap fun a => m.map fun b => (a, b) :=
  List.mem_flatMap.mpr ⟨a, ha, List.mem_map.mpr ⟨b, hb, rfl⟩⟩
def meet (ns ms : W) : W := ns.filter fun z => decide (z ∈ ms)
theorem isW_meet {a b : W} (h : IsW a) : IsW (meet a b) := ⟨fun x hx => h.names x (List.mem_filter.mp hx).1, h.up.sublist List.filter_sublist, Nat.le_trans (List.length_filter_le _ _) h.few⟩
theorem nodup_snoc {α : Type} {L : List α} {p : α} (n : L.Nodup) (h : p ∉ L) : (L ++ [p]).Nodup := List.nodup_append.mpr ⟨n, by simp, fun a ha b hb e => by
  rw [List.mem_singleton] at hb
  subst hb
  exact h (e ▸ ha)⟩
def Bar (p : Addr) (H H' : Hp) : Prop := ∀ b u, b ≠ p → H b = some u → H' b = some u
theorem Bar.same {p : Addr} {H H' : Hp} (h : Same H H') : Bar p H H' := fun b u _ e => h b u e
theorem Bar.trans {p : Addr} {H H1 H2 : Hp} (a : Bar p H H1) (b : Bar p H1 H2) : Bar p H H2 := fun c u n e => b c u n (a c u n e)
theorem Bar.draw {p : Addr} {H : Hp} {o : HO} : Bar p H (upd H p o) := fun b u n e => by
  rw [upd_ne n]
  exact e
theorem Bar.put {p l : Addr} {H H' : Hp} (h : Bar p H H') (n : H l = none) {o : HO} : Bar p H (upd H' l o) := fun b u nb e => by
  rw [upd_ne (ne_of_none e n)]
  exact h b u nb e
theorem Pur.mut {H : Hp} {p : Addr} {c : Int} (h : Pur H p c) : Mut (H p) := by
  obtain ⟨a, b, e, h, _⟩ := h
  rw [h]
  exact True.intro
theorem Pur.some {H : Hp} {p : Addr} {c : Int} (h : Pur H p c) {q : Addr} (n : H q = none) : q ≠ p := fun e => by
  obtain ⟨a, b, e', h, _⟩ := h
  rw [e, h] at n
  cases n
theorem Pur.same {H H' : Hp} {p : Addr} {c : Int} (h : Pur H p c) (e : Same H H') : Pur H' p c := by
  obtain ⟨a, b, e', h, g⟩ := h
  exact ⟨a, b, e', e _ _ h, g⟩
theorem Pur.put {H : Hp} {p l : Addr} {c : Int} (h : Pur H p c) (n : l ≠ p) {o : HO} : Pur (upd H l o) p c := by
  obtain ⟨a, b, e', h, g⟩ := h
  refine ⟨a, b, e', ?_, g⟩
  rw [upd_ne n.symm]
  exact h
theorem Pur.le {H : Hp} {p : Addr} {c d : Int} (h : Pur H p c) (l : c ≤ d) : Pur H p d := by
  obtain ⟨a, b, e', h, g1, g2, g3, g4, g5⟩ := h
  exact ⟨a, b, e', h, g1, g2, g3, g4, Int.le_trans g5 l⟩
theorem Bar.stay {p : Addr} {H H' : Hp} (h : Bar p H H') (m : Mut (H p)) : Stay H H' := fun b xs r => by
  have ne : b ≠ p := fun z => by
    subst z
    rcases r with r | ⟨u, r⟩
    · rw [r] at m; exact m
    · rw [r] at m; exact m
  rcases r with r | ⟨o, r⟩
  · exact .inl (h _ _ ne r)
  · exact .inr ⟨o, h _ _ ne r⟩
theorem idx_new' {α : Type} {ds : List α} (hn : ds.Nodup) {i : Nat} {d : α} (h : ds[i]? = some d) : d ∉ ds.take i := fun hm => by
  have z := take_snoc h
  have nd : (ds.take (i + 1)).Nodup := List.Nodup.sublist (List.take_sublist _ _) hn
  rw [z] at nd
  obtain ⟨_, _, h3⟩ := List.nodup_append.mp nd
  exact h3 d hm d (List.mem_singleton.mpr rfl) rfl
theorem evalArgs_kw0 {M : Model} {A : Around} {E : Value → Shared → Prop} {s : Shared} {f : Value} {kwl : List (Option Str × Sem Value)} {Q : Args → Shared → Prop} (hall : (kwl.all fun x => x.1.isSome) = true)
    (h : wpAny M A (evalAll (kwl.map fun x => x.2)) (fun ks s₂ => Q { pos := [], kw := (kwl.filterMap fun x => x.1).zip ks } s₂) E s) : wpAny M A (evalArgs f true [] kwl) Q E s := by
  unfold evalArgs
  refine wpAny_bind (Calls.spliced_nil ?_)
  refine wpAny_bind (wpAny_pure ?_)
  refine wpAny_holding ?_
  rw [if_pos hall]
  refine wpAny_bind (wpAny_mono h (fun ks s2 q => ?_) fun _ _ e => e)
  exact wpAny_bind (wpAny_pure (wpAny_pure q))
theorem pe_callK0 {X : Cx} {CX : CXT} {k : Nat} {f : Addr} {fd : FuncData} {ps ks : List Str} {sp : Sp} {E : XK} {x : Str} {p pos : Pos} {kws : List Keyword} {tk : TA} {g : List Value → List Value → List Value} {gV : List V → List V → List V}
    (F : FnOk X.prog X.w X.K X.mg X.base CX k f fd ps sp) (hr : Room k X.A) (hg : Gl X x) (hm : X.mg x = some (.ref f)) (hk : PySem.W.keepIn X.K (.ref f) = true) (hb : KBn X.K fd ps 0 ks g gV) (hx : Passes CX X E) (hkw : PK X kws tk)
    (hall : ((backToKw pos (keywordEach kws X.env)).all fun x => x.1.isSome) = true) (hks : (backToKw pos (keywordEach kws X.env)).filterMap (fun x => x.1) = ks) (hdb : (x == ("__debug__" : Str)) = false)
    (hpl : ((([] : List (Bool × Sem Value)).any fun x => x.1) || (backToKw pos (keywordEach kws X.env)).any fun x => x.1.isNone) = false) (hst : backTo pos (starEach [] X.env) = []) :
    PE X (.Call (.Name x p) [] kws pos) (fun σ H Q => tk σ H fun zs H1 => zs.length = ks.length ∧ sp (gV [] zs) H1 Q E) := by
  refine ⟨fun pins s σ H Q I h => wpAny_Call_Name_kw (ld_glob I hg hm ?_ hdb)⟩
  rw [hst]
  refine PySem.W.callWith_of hpl (PySem.W.keeps_K hk) (evalArgs_kw0 hall (thn (hkw.run pos pins s σ H (fun zs H1 => zs.length = ks.length ∧ sp (gV [] zs) H1 Q E) I h) fun ws s2 ⟨zs, H2, I2, rz, l2, q2⟩ => ⟨Inv.kIn I2, ?_⟩))
  rw [hks]
  exact run_fnN F hr hb hx I2 .nil rz rfl l2 q2
def tMid (t u : TS) : TS := fun D σ H => ∃ I : L2.St → Hp → Prop, t { nx := I, rt := D.rt, bk := D.bk, ct := D.ct } σ H ∧ ∀ σ' H', I σ' H' → u D σ' H'
/-- the first statement up to a mark of one's own, then the rest from it -/
theorem pss_mid {X : Cx} {st : Stmt} {rest : List Stmt} {t u : TS} (h1 : PS X st t) (h2 : PSs X rest u) : PSs X (st :: rest) (tMid t u) := by
  refine ⟨fun pins s σ H D I ⟨J, a, b⟩ => ?_⟩
  refine wpAny_execs_cons (thn (h1.run pins s σ H _ I a) fun f s1 q => ?_)
  cases f with
  | next =>
    obtain ⟨σ', H', I', q⟩ := q
    exact h2.run pins s1 σ' H' D I' (b σ' H' q)
  | brk => exact q
  | cont => exact q
  | ret v => exact q
/-- a def with defaults, called by names -/
theorem kbn_def {K : PySem.W.Frag} {x qual : Str} {params : Arguments} {body : List Stmt} {scope : Scope} {dvs : List V} {kws : List (Str × V)} {f : Addr} {fd : FuncData} {ps : List Str} (F : FunD K x qual params body scope dvs kws f fd) (hd : dvs ≠ []) (n : Nat) (ks : List Str) (g : List Value → List Value → List Value → List Value) (gV : List V → List V → List V)
    (h : ∀ (T : Addr) (kV doc pm : Value) (an : Option Addr) (cdv ct : Value) (us its ws : List Value), us.length = n → its.length = dvs.length → ws.length = ks.length → ∃ k, bindArgs (PySem.W.fnOf x qual params body scope (.ref T) kV doc pm an cdv ct) { pos := us, kw := ks.zip ws } = seqItems? (.ref T) >>= k ∧ k (some its.toArray) = pure (ps.zip (g us its ws)))
    (rel : ∀ {vs : List V} {us its : List Value} {zs : List V} {ws : List Value}, Vals vs us → Vals dvs its → Vals zs ws → Vals (gV vs zs) (g us its ws)) : ∃ its, Vals dvs its ∧ KBn K fd ps n ks (fun us ws => g us its ws) gV := by
  obtain ⟨oc, od, dV, kV, doc, pm, an, cdv, ct, osl, rfl, lk, hcd, hD, hK⟩ := F.ex
  rcases hD with ⟨e, _⟩ | ⟨_, T, o, its, m, rfl, lT, oT, rT⟩
  · exact absurd e hd
  · refine ⟨its, rT, ⟨fun s us ws X l1 l2 => ?_, fun a b => rel a rT b⟩⟩
    intro M A E Q q
    obtain ⟨k, e1, e2⟩ := h T kV doc pm an cdv ct us its ws l1 rT.length.symm l2
    rw [e1]
    refine wpAny_bind (wpAny_seqItems (X T o lT) oT ?_)
    rw [e2]
    exact wpAny_pure q
theorem shaped_of {d : PyData} (h : d.canLay0 = true) (n : d.depth ≤ 64) : SeqAt.shaped d = true := by
  unfold SeqAt.shaped
  rw [h, decide_eq_true n]
  rfl
theorem eqv_self {d : PyData} (h : SeqAt.shaped d = true) : PyData.eqv d d = true := by
  unfold SeqAt.shaped at h
  rw [Bool.and_eq_true] at h
  exact SeqAt.eqv_refl d h.1
theorem dpAll_drop {K : PySem.W.Frag} {H : Hp} : ∀ {xs : List V} {ds : List PyData} (n : Nat), DpAll K H xs ds → DpAll K H (xs.drop n) (ds.drop n)
  | _, _, 0, h => h
  | _, _, _ + 1, .nil => .nil
  | _, _, n + 1, .cons _ t => dpAll_drop n t
theorem dpAll_take {K : PySem.W.Frag} {H : Hp} : ∀ {xs : List V} {ds : List PyData} (n : Nat), DpAll K H xs ds → DpAll K H (xs.take n) (ds.take n)
  | _, _, 0, _ => by
    rw [List.take_zero, List.take_zero]
    exact .nil
  | _, _, _ + 1, .nil => .nil
  | _, _, n + 1, .cons h t => .cons h (dpAll_take n t)
theorem dpAll_rev {K : PySem.W.Frag} {H : Hp} : ∀ {xs : List V} {ds : List PyData}, DpAll K H xs ds → DpAll K H xs.reverse ds.reverse
  | _, _, .nil => .nil
  | _, _, .cons h t => by
    rw [List.reverse_cons, List.reverse_cons]
    exact dpAll_app (dpAll_rev t) (.cons h .nil)
theorem dpAll_erase {K : PySem.W.Frag} {H : Hp} : ∀ {xs : List V} {ds : List PyData} (n : Nat), DpAll K H xs ds → DpAll K H (xs.eraseIdx n) (ds.eraseIdx n)
  | _, _, 0, .cons _ t => t
  | _, _, _ + 1, .cons h t => .cons h (dpAll_erase _ t)
  | _, _, _, .nil => .nil
theorem map_erase {α β : Type} (f : α → β) : ∀ (l : List α) (n : Nat), (l.map f).eraseIdx n = (l.eraseIdx n).map f
  | [], _ => rfl
  | _ :: _, 0 => rfl
  | a :: l, n + 1 => congrArg (f a :: ·) (map_erase f l n)
theorem none_bar {p l : Addr} {H H' : Hp} {c : Int} (b : Bar p H H') (pu : Pur H' p c) (n : H' l = none) : H l = none := by
  have ne := pu.some n
  cases e : H l with
  | none => rfl
  | some u =>
    rw [b l u ne e] at n
    cases n
theorem vals_app : ∀ {xs ys : List V} {us ws : List Value}, Vals xs us → Vals ys ws → Vals (xs ++ ys) (us ++ ws)
  | _, _, _, _, .nil, h => h
  | _, _, _, _, .cons r t, h => .cons r (vals_app t h)
theorem fun_of {K : PySem.W.Frag} {x qual : Str} {st : Stmt} {f : Addr} {fd : FuncData} (F : FunD K x qual (defArgs st) (defBody st) (defScope st) [] [] f fd) : Fun K x qual st f fd := by
  obtain ⟨oc, od, dV, kV, doc, pm, an, cdv, ct, osl, e, lk, hcd, hD, hK⟩ := F.ex
  rcases hD with ⟨_, rfl⟩ | ⟨h, _⟩
  · exact ⟨⟨oc, od, kV, doc, pm, an, cdv, ct, osl, e, lk, hcd⟩, F.kp⟩
  · exact absurd rfl h
end Rw
namespace Rw
open PySem PySem.Spec PyProof.Rows L2
/-! ### enumerate of a tuple -/
theorem meets_enumT (l : Addr) (items : Array Value) : Meets (Builtin.«enumerate.__new__» { pos := [Value.type "enumerate", Value.ref l] }) fun _ R s =>
    s.heap.IsTuple l items ∧ R (Except.ok (Flow.ret (Value.ref (s.heap.push { cls := Value.type "tuple_iterator", data := Data.fields #[Value.ref l, Value.int 0 0] }).objs.size)))
        { heap := (s.heap.push { cls := Value.type "tuple_iterator", data := Data.fields #[Value.ref l, Value.int 0 0] }).push
              { cls := Value.type "enumerate", data := Data.fields #[Value.none, Value.bool false, Value.ref s.heap.objs.size, rawInt 0, Value.none, Value.none] },
          gens := s.gens, drawn := s.drawn, toks := s.toks, os := s.os } := by
  refine Meets.of_wp fun prog w A R s h => ?_
  obtain ⟨hl, h⟩ := h
  have hsub := sub_enumerate
  unfold Builtin.«enumerate.__new__»
  refine wpAny_bind ?_
  unfold Builtin.SmallTypes.newClass
  refine wpAny_bind (wpAny_pure (wpAny_ite_false rfl (wpAny_bind (wpAny_of_eq hsub (wpAny_ite_false rfl (wpAny_pure (wpAny_ite_true rfl (wpAny_bind ?_))))))))
  unfold Builtin.SmallTypes.calledThroughType
  refine wpAny_bind (wpAny_stack_any fun st => wpAny_pure ?_)
  have fin : wpAny (model prog w) A.in1 (do
      let it ← pyIter (.ref l)
      let r ← Builtin.SmallTypes.newRecord (.type "enumerate") (Builtin.SmallTypes.ownedTupleFields ++ [it, rawInt 0, Value.none, Value.none])
      ret r) (fun fin s' => ∃ v, fin = Fin.done (Flow.ret v) ∧ R (Except.ok (Flow.ret v)) s') (fun e s' => R (Except.error e) s') s := by
    refine wpAny_bind (wpAny_pyIter_tuple hl ?_)
    refine wpAny_bind ?_
    unfold Builtin.SmallTypes.newRecord
    refine wpAny_bind (wpAny_alloc ?_)
    refine wpAny_pure ?_
    exact wpAny_pure ⟨_, rfl, h⟩
  split
  · generalize (_ == Value.type "enumerate") = b
    cases b
    · refine wpAny_ite_false rfl (wpAny_bind (wpAny_of_eq (a := (Value.ref l, none)) rfl fin))
    · refine wpAny_ite_true rfl (wpAny_bind (wpAny_of_eq (a := (Value.ref l, none)) rfl fin))
  · refine wpAny_ite_false rfl (wpAny_bind (wpAny_of_eq (a := (Value.ref l, none)) rfl fin))
theorem call_enumT {prog : Program} {w : World} {A : Around} {E : Value → Shared → Prop} {s : Shared} {l : Addr} {items : Array Value} {Q : Value → Shared → Prop} (hT : s.heap.IsTuple l items)
    (h : ∀ h' : Heap, IsEnum h' (s.heap.objs.size + 1) s.heap.objs.size 0 Value.none → h'.IsTupleIter s.heap.objs.size l 0 → h'.objs.size = s.heap.objs.size + 2 → (∀ (b : Addr) (o : Obj), s.heap.get? b = some o → h'.get? b = some o) →
      Q (.ref (s.heap.objs.size + 1)) { heap := h', gens := s.gens, drawn := s.drawn, toks := s.toks, os := s.os }) : wpAny (model prog w) A (call (.type "enumerate") [.ref l]) Q E s := by
  refine callType_new F.called_enumerate (by decide) (F.typeCall_enumerate_1 (.ref l)) (F.newCall_enumerate_1 (.ref l)) (fun obj => F.args_object_init_2 obj (.ref l)) F.entry_enumerate_new (meets_enumT l items) ⟨hT, ?_⟩
  have hz := Heap.size_push s.heap { cls := .type "tuple_iterator", data := .fields #[.ref l, .int 0 0] }
  show _ ∧ _
  rw [hz]
  have he := Heap.get?_push_size (s.heap.push { cls := .type "tuple_iterator", data := .fields #[.ref l, .int 0 0] }) (o := { cls := .type "enumerate", data := .fields #[.none, .bool false, .ref s.heap.objs.size, rawInt 0, .none, .none] }) rfl
  rw [hz] at he
  refine ⟨⟨_, he, rfl⟩, h _ he ⟨_, Heap.get?_push_of_some _ (Heap.get?_push_size s.heap rfl), rfl, rfl⟩ ?_ fun b o e => Heap.get?_push_of_some _ (Heap.get?_push_of_some _ e)⟩
  rw [Heap.size_push, hz]
/-- enumerate of a tuple: what it gives -/
def Ietup (K : PySem.W.Frag) (a : Addr) : It where
  go := fun i H => ∃ xs x, SqT K H a xs ∧ xs[i]? = some x
  yld := fun i H v H' => ∃ T x, v = .ref T ∧ H T = none ∧ H' = upd H T (.tup [.int (i : Int), x]) ∧ ∀ xs, SqT K H a xs → xs[i]? = some x
  stop := fun i H => ∃ xs, SqT K H a xs ∧ xs.length = i
theorem tup_enum_ne {h : Heap} {a e it : Addr} {items : Array Value} {i : Int} {old : Value} (ht : h.IsTuple a items) (he : IsEnum h e it i old) : e ≠ a := fun z => by
  obtain ⟨o, h1, h2, _⟩ := ht
  rw [← z, he] at h1
  cases h1
  exact absurd (show Value.type "enumerate" = Value.type "tuple" from h2) (by decide)
theorem tup_iter_ne {h : Heap} {a it l : Addr} {items : Array Value} {i : Nat} (ht : h.IsTuple a items) (he : h.IsTupleIter it l i) : a ≠ it := fun z => by
  obtain ⟨o, h1, h2, _⟩ := ht
  obtain ⟨o', h3, h4, _⟩ := he
  rw [z, h3] at h1
  cases h1
  rw [h4] at h2
  exact absurd h2 (by decide)
theorem turn_enumT {P : Program} {w : World} {K : PySem.W.Frag} {elts : List Expr} {kk : Nat} {tpos : Pos} (a e it : Addr) : Turn P w K (.Tuple elts kk tpos) (Ietup K a) [e, it] e (fun i h => (∃ old, IsEnum h e it (i : Int) old) ∧ h.IsTupleIter it a i ∧ e ≠ it) := by
  refine ⟨by simp, fun i h st b hb => ?_, fun i h h' st k => ?_, fun X hP hw hK hc i pins s σ H E I hf st hg => ?_, fun X hP hw hK hc i pins s σ H E I hf st hg => ?_, fun A i s Q E st h => ?_⟩
  · obtain ⟨⟨old, he⟩, ⟨o, ho, hcl, hd⟩, _⟩ := st
    rcases List.mem_cons.mp hb with z | hb
    · subst z
      exact ⟨_, he, fun v q => nomatch q⟩
    · rw [List.mem_singleton.mp hb]
      refine ⟨o, ho, fun v q => ?_⟩
      rw [hd] at q
      cases q
  · obtain ⟨⟨old, he⟩, hi, hne⟩ := st
    exact ⟨⟨old, k e (by simp) _ he⟩, hi.at fun o q => k it (by simp) o q, hne⟩
  · subst hP hw hK
    obtain ⟨⟨old, he⟩, hit, hne⟩ := st
    obtain ⟨xs, x, hq, hx⟩ := hg
    obtain ⟨its, rv, p, hz⟩ := I.tuple hq
    have ht : s.heap.IsTuple a its.toArray := p
    have ea := tup_enum_ne ht he
    have ai := tup_iter_ne ht hit
    have hl := rv.length
    have hin : i < its.toArray.size := by
      rw [List.size_toArray, ← hl]
      exact (List.getElem?_eq_some_iff.mp hx).1
    refine wpAny_pyNext_enum_itemD (Draws.tuple (A := X.A.in1) (I.ok.hd hc) it a ai its.toArray) he ⟨hit, ht⟩ hin hne (by simp [hne, ea]) fun u h' tk hu ho st' hT hsz hk => ⟨.ref s.heap.objs.size, rfl, ?_⟩
    refine wpAny_letOwnedTupleGo_enum ho fun h'' he' sb => ?_
    have hel : e < s.heap.objs.size := Heap.lt_size he
    have hil : it < s.heap.objs.size := by
      obtain ⟨o, ho, _⟩ := hit
      exact Heap.lt_size ho
    have hT2 : h''.get? s.heap.objs.size = _ := (sb.2 s.heap.objs.size (Nat.ne_of_gt hel)).trans hT
    have hu' : its[i]? = some u := by simpa using hu
    obtain ⟨x', hx', ru⟩ := vals_at rv hu'
    have exx : x' = x := Option.some.inj (hx'.symm.trans hx)
    subst exx
    have new : ObjOk X.prog X.w (upd H s.heap.objs.size (.tup [.int (i : Int), x'])) h'' s.heap.objs.size (.tup [.int (i : Int), x']) :=
      ⟨by show 2 ≤ sizeLine; decide, [.int (i : Int) tk, u], .cons ⟨tk, rfl⟩ (.cons ru .nil), ⟨_, hT2, rfl, 0, rfl⟩⟩
    have kept : ∀ (b : Addr) (o : Obj), b ∉ [e, it] → s.heap.get? b = some o → h''.get? b = some o := fun b o hb q => by
      have n1 : b ≠ e := fun z => hb (by simp [z])
      have n2 : b ≠ it := fun z => hb (by simp [z])
      exact (sb.2 b n1).trans (hk b o n1 n2 q)
    have I1 := I.turnedNew (t' := tk + 1) kept hf (Nat.le_refl _) new
    refine ⟨.ref s.heap.objs.size, _, I1, rfl, ⟨s.heap.objs.size, x', rfl, I.hok.fresh (Nat.le_refl _), rfl, fun ys hy => ?_⟩, ⟨⟨u, ?_⟩, st'.1.at fun o q => (sb.2 it hne.symm).trans q, hne⟩, fun b hb => ?_⟩
    · obtain ⟨its2, rv2, p2, _⟩ := I.tuple hy
      have ht2 : s.heap.IsTuple a its2.toArray := p2
      have ei : its2.toArray = its.toArray := by
        obtain ⟨o, a1, a2, n, a3⟩ := ht
        obtain ⟨o', b1, b2, n', b3⟩ := ht2
        rw [a1] at b1
        cases b1
        rw [a3] at b3
        cases b3
        rfl
      have ei' : its2 = its := by
        have := congrArg Array.toList ei
        simpa using this
      subst ei'
      obtain ⟨y, hy1, ry⟩ := vals_at rv2 hu'
      rw [RelV.inj ru ry]
      exact hy1
    · have e1 : ((i : Int) + 1) = ((i + 1 : Nat) : Int) := rfl
      rw [← e1]
      exact he'
    · have hb' : b < s.heap.objs.size := by
        rcases List.mem_cons.mp hb with z | hb
        · rw [z]
          exact hel
        · rw [List.mem_singleton.mp hb]
          exact hil
      rw [upd_ne (Nat.ne_of_lt hb')]
      exact (hf b hb).1
  · subst hP hw hK
    obtain ⟨⟨old, he⟩, hit, hne⟩ := st
    obtain ⟨xs, hq, hx⟩ := hg
    obtain ⟨its, rv, p, hz⟩ := I.tuple hq
    have ht : s.heap.IsTuple a its.toArray := p
    have ai := tup_iter_ne ht hit
    obtain ⟨f0, f1, f2, f3, f4, f5⟩ := hf it (by simp)
    have sz : its.toArray.size = i := by rw [List.size_toArray, ← rv.length, hx]
    refine wpAny_pyNext_enum_endD (Draws.tuple (A := X.A.in1) (I.ok.hd hc) it a ai its.toArray) he ⟨by rw [sz]; exact hit, ht⟩ fun h' eb => ⟨rfl, I.turned (fun b o hb q => eb b o hb q) f0 f1 f3 f4 f5⟩
  · obtain ⟨⟨_, he⟩, _⟩ := st
    exact wpAny_pyIter_enum he h
def iEnumT (K : PySem.W.Frag) (ta : TA) : TI := fun σ H R => ta σ H fun vs H1 => ∃ a xs, vs = [.ref a] ∧ SqT K H1 a xs ∧ R (Ietup K a) H1
theorem pi_enumT {X : Cx} {e : Expr} {ta : TA} {p pos tpos : Pos} {elts : List Expr} {kk : Nat} (hg : Gl X "enumerate") (hm : X.mg "enumerate" = none) (ha : PA X [e] ta) (hs : starEach [e] X.env = [(false, eval e X.env)] := by rfl) : PI X (.Tuple elts kk tpos) (.Call (.Name "enumerate" p) [e] [] pos) (iEnumT X.K ta) := by
  refine ⟨fun pins s σ H R I h => Call_ (ld_blt I hg hm boot_enumerate (PyProof.Rows.callWith_type1 (thn (ha.run pos pins s σ H _ I h) fun us s1 ⟨vs, H1, I1, r1, a, xs, ex, hq, q⟩ => ?_) hs rfl) (by decide) (by decide)) rfl⟩
  subst ex
  rw [Vals.ref1 r1]
  obtain ⟨its, rv, p', hz⟩ := I1.tuple hq
  refine call_enumT p' fun h' he hit hsz hk => ?_
  refine wpAny_pyIter_enum he ?_
  have I2 := I1.kept (t' := s1.toks) hk
  refine ⟨s1.heap.objs.size + 1, [s1.heap.objs.size + 1, s1.heap.objs.size], _, Ietup X.K a, H1, rfl, I2, turn_enumT a (s1.heap.objs.size + 1) s1.heap.objs.size, ⟨⟨_, he⟩, hit, Nat.succ_ne_self _⟩, fun b hb => ?_, q⟩
  rcases List.mem_cons.mp hb with z | hb
  · subst z
    exact I1.fpOk (Nat.le_succ _) (I1.hok.fresh (Nat.le_succ _))
  · rw [List.mem_singleton.mp hb]
    exact I1.fpOk (Nat.le_refl _) (I1.hok.fresh (Nat.le_refl _))
end Rw
namespace Rw
open PySem PySem.Spec PyProof.Rows L2
/-! ### walks over enumerate(tuple); instances made of starred arguments -/
theorem for_enumT {K : PySem.W.Frag} {a : Addr} {xs : List V} {g : TG} {tb : TS} {D : Ends} {σ : L2.St} {H : Hp} (Pv : Nat → L2.St → Hp → Prop) (h0 : Pv 0 σ H) (hl : ∀ i σ H, i ≤ xs.length → Pv i σ H → SqT K H a xs)
    (hs : ∀ i x σ H T, xs[i]? = some x → Pv i σ H → H T = none → g (.ref T) σ (upd H T (.tup [.int (i : Int), x])) fun σ2 H2 => tb { nx := Pv (i + 1), rt := D.rt, bk := D.nx, ct := Pv (i + 1) } σ2 H2) (hd : ∀ σ H, Pv xs.length σ H → D.nx σ H) :
    ∃ W : Nat → Nat → L2.St → Hp → Prop, (∃ m, W 0 m σ H) ∧ ∀ i m σ H, W i m σ H → ((Ietup K a).stop i H ∧ D.nx σ H) ∨ ((Ietup K a).go i H ∧ ∃ N : L2.St → Hp → Prop, (∀ σ' H', N σ' H' → ∃ m', m' < m ∧ W (i + 1) m' σ' H') ∧
      ∀ x H', (Ietup K a).yld i H x H' → g x σ H' fun σ2 H2 => tb { nx := N, rt := D.rt, bk := D.nx, ct := N } σ2 H2) := by
  refine ⟨fun i m σ H => m = xs.length - i ∧ i ≤ xs.length ∧ Pv i σ H, ⟨xs.length, by simp, Nat.zero_le _, h0⟩, ?_⟩
  rintro i m σ H ⟨rfl, hi, p⟩
  have hS := hl i σ H hi p
  by_cases hlt : i < xs.length
  · refine .inr ⟨⟨xs, xs[i], hS, List.getElem?_eq_getElem hlt⟩, Pv (i + 1), fun σ' H' p' => ⟨xs.length - (i + 1), by omega, rfl, hlt, p'⟩, fun y H' yy => ?_⟩
    obtain ⟨T, x, rfl, hT, rfl, hx⟩ := yy
    exact hs i x σ H T (hx xs hS) p hT
  · have e : i = xs.length := by omega
    subst e
    exact .inl ⟨⟨xs, hS, rfl⟩, hd σ H p⟩
def tMakeS (K : PySem.W.Frag) (C : Addr) (sp : Sp) (E : XK) (te : TE) : TE := fun σ H Q => te σ H fun y H1 => ∃ a xs, y = V.ref a ∧ (SqT K H1 a xs ∨ SqL K H1 a xs) ∧ ∀ x dx, H1 x = none → H1 dx = none → dx ≠ x → sp (V.ref x :: xs) (upd (upd H1 dx (.own x)) x (.ins C dx [])) (fun v H2 => v = .non ∧ Q (.ref x) H2) E
/-- C(*e), C a class of the module -/
theorem pe_makeS {X : Cx} {CX : CXT} {k : Nat} {f C : Addr} {sp : Sp} {E : XK} {x : Str} {e : Expr} {te : TE} {p sp_ pos : Pos} (M : Mk X.K C f) (F : FnR X.prog X.w X.K X.mg X.base CX k f sp) (hr : Room (k + 1) X.A) (hg : Gl X x) (hm : X.mg x = some (.ref C)) (hx : Passes CX X E) (he : PE X e te)
    (hd : (x == ("__debug__" : Str)) = false := by rfl) (hst : starEach [e.Starred sp_] X.env = [(true, eval e X.env)] := by rfl) : PE X (.Call (.Name x p) [.Starred e sp_] [] pos) (tMakeS X.K C sp E te) :=
  ⟨fun pins s σ H Q I h => wpAny_Call_Name_kw (ld_glob I hg hm (PySem.W.callWith_S I.ok.mod.kin M.kp (thn (he.run pins s σ H _ I h) fun v s1 ⟨y, H1, I1, ry, a, xs, ey, hxs, q⟩ => by
    subst ey
    obtain rfl : v = Value.ref a := ry
    exact StX.star_any I1 hxs fun us s2 I2 rv => ⟨Inv.kIn I2, StX.run_makeR M F hr hx I2 rv q⟩) hst) hd)⟩
/-- cls(*e), cls a local name that holds the class -/
theorem pe_makeSL {X : Cx} {CX : CXT} {k i : Nat} {f C : Addr} {sp : Sp} {E : XK} {x : Str} {e : Expr} {te : TE} {p sp_ pos : Pos} (M : Mk X.K C f) (F : FnR X.prog X.w X.K X.mg X.base CX k f sp) (hr : Room (k + 1) X.A) (hN : X.N[i]? = some x) (hv : Vis X.env.scope x) (hx : Passes CX X E) (he : PE X e te)
    (hd : (x == ("__debug__" : Str)) = false := by rfl) (hcd : (x == ("__classdict__" : Str)) = false := by rfl) (hst : starEach [e.Starred sp_] X.env = [(true, eval e X.env)] := by rfl) :
    PE X (.Call (.Name x p) [.Starred e sp_] [] pos) (fun σ H Q => σ[i]? = some (some (.ref C)) ∧ tMakeS X.K C sp E te σ H Q) := by
  refine ⟨fun pins s σ H Q I ⟨hs, h⟩ => wpAny_Call_Name_kw (thn ((pe_var hN hv hd hcd).run pins s σ H (fun v H1 => v = V.ref C ∧ H1 = H) I ⟨.ref C, hs, rfl, rfl⟩) fun u s1 ⟨v, H0, I1, r1, ev, eH⟩ => ?_)⟩
  subst ev eH
  obtain rfl : u = Value.ref C := r1
  exact PySem.W.callWith_S I1.ok.mod.kin M.kp (thn (he.run pins s1 σ _ _ I1 h) fun v s1 ⟨y, H1, I1, ry, a, xs, ey, hxs, q⟩ => by
    subst ey
    obtain rfl : v = Value.ref a := ry
    exact StX.star_any I1 hxs fun us s2 I2 rv => ⟨Inv.kIn I2, StX.run_makeR M F hr hx I2 rv q⟩) hst
theorem fnr_of {P : Program} {w : World} {K : PySem.W.Frag} {mg : Str → Option Value} {base : Heap} {CX : CXT} {k : Nat} {f : Addr} {fd : FuncData} {ps : List Str} {sp : Sp} (F : FnOk P w K mg base CX k f fd ps sp) (b : Binds K fd ps []) : FnR P w K mg base CX k f sp := fun A outer s H us vs Q E hr e0 r h => by
  have hl := F.len vs H Q E h
  have ul : us.length = ps.length := by rw [← r.length, hl]
  have z := b s us (PySem.W.Frag.In.keeps e0.mod.kin fun b o e => (e0.bs b o e).1) (by rw [List.append_nil]; exact ul)
  rw [List.append_nil] at z
  exact F.run A outer s H _ us vs Q E hr e0 z r h
end Rw
namespace Rw
open PySem PySem.Spec PyProof.Rows L2
/-! ### rules: heads, denied, needs, bars -/
abbrev Rl := W × W × W × W
def parts (r : Rl) : List W := [r.1, r.2.1, r.2.2.1, r.2.2.2]
def rd (r : Rl) : PyData := .tuple ((parts r).map wd)
structure IsR (r : Rl) : Prop where
  h : IsW r.1
  d : IsW r.2.1
  n : IsW r.2.2.1
  b : IsW r.2.2.2
theorem IsR.all {r : Rl} (h : IsR r) : ∀ t ∈ parts r, IsW t := fun t ht => by
  unfold parts at ht
  simp only [List.mem_cons, List.mem_nil_iff, or_false] at ht
  rcases ht with e | e | e | e <;> subst e
  · exact h.h
  · exact h.d
  · exact h.n
  · exact h.b
theorem wds_inj : ∀ {a b : List W}, a.map wd = b.map wd → a = b
  | [], [], _ => rfl
  | [], _ :: _, h => by simp at h
  | _ :: _, [], h => by simp at h
  | x :: a, y :: b, h => by
    simp only [List.map_cons, List.cons.injEq] at h
    rw [wd_inj h.1, wds_inj h.2]
theorem rd_inj {p q : Rl} (h : rd p = rd q) : p = q := by
  unfold rd at h
  injection h with h
  have z := wds_inj h
  unfold parts at z
  simp only [List.cons.injEq, and_true] at z
  obtain ⟨h1, h2, h3, h4⟩ := z
  exact Prod.ext h1 (Prod.ext h2 (Prod.ext h3 h4))
theorem ok_rd (r : Rl) : okD (rd r) = true := by
  unfold rd
  rw [okD]
  exact okDs_wd _
theorem depthAll_wd : ∀ L : List W, PyData.depthAll (L.map wd) ≤ 1
  | [] => by simp [PyData.depthAll]
  | x :: L => by
    have := depthAll_wd L
    rw [List.map_cons, PyData.depthAll, depth_wd]
    omega
theorem depth_rd (r : Rl) : (rd r).depth ≤ 2 := by
  have := depthAll_wd (parts r)
  unfold rd
  rw [PyData.depth]
  omega
theorem good_rd (r : Rl) : Good (rd r) := ⟨ok_rd r, Nat.le_trans (depth_rd r) (by decide), ⟨_, rfl⟩⟩
theorem lay_wds : ∀ {L : List W}, (∀ t ∈ L, IsW t) → PyData.canLayAll0 (L.map wd) = true
  | [], _ => by simp [PyData.canLayAll0]
  | t :: L, h => by
    rw [List.map_cons, PyData.canLayAll0, lay_wds fun y hy => h y (List.mem_cons_of_mem _ hy), lay_wd (h t List.mem_cons_self).names]
    rfl
theorem lay_rd {r : Rl} (h : IsR r) : (rd r).canLay0 = true := by
  unfold rd
  rw [PyData.canLay0]
  exact lay_wds h.all
theorem shaped_rd {r : Rl} (h : IsR r) : SeqAt.shaped (rd r) = true := shaped_of (lay_rd h) (Nat.le_trans (depth_rd r) (by decide))
theorem alike_wds : ∀ a b : List W, PySem.W.alikeAll (a.map wd) (b.map wd) = true
  | [], _ => by simp [PySem.W.alikeAll]
  | _ :: _, [] => by simp [PySem.W.alikeAll]
  | x :: a, y :: b => by
    rw [List.map_cons, List.map_cons, PySem.W.alikeAll, alike_wds a b, alike_wd]
    rfl
theorem alike_rd (p q : Rl) : PySem.W.alike (rd p) (rd q) = true := by
  unfold rd
  rw [PySem.W.alike]
  exact alike_wds _ _
theorem eqv_wds : ∀ a b : List W, PyData.eqvAll (a.map wd) (b.map wd) = decide (a = b)
  | [], [] => by simp [PyData.eqvAll]
  | [], _ :: _ => by simp [PyData.eqvAll]
  | _ :: _, [] => by simp [PyData.eqvAll]
  | x :: a, y :: b => by
    rw [List.map_cons, List.map_cons, PyData.eqvAll, eqv_wds a b, eqv_wd]
    by_cases h : x = y
    · subst h
      by_cases h2 : a = b <;> simp [h2]
    · simp [h]
theorem eqv_rd (p q : Rl) : PyData.eqv (rd p) (rd q) = decide (p = q) := by
  have e : (p = q) ↔ (parts p = parts q) := ⟨fun h => by rw [h], fun h => rd_inj (by unfold rd; rw [h])⟩
  unfold rd
  rw [PyData.eqv, eqv_wds]
  by_cases h : parts p = parts q
  · rw [decide_eq_true h, decide_eq_true (e.mpr h)]
  · rw [decide_eq_false h, decide_eq_false fun z => h (e.mp z)]
theorem rules_one {R R' : List Rl} (r1 : Rising (R.map rd)) (r2 : Rising (R'.map rd)) (n1 : R.Nodup) (n2 : R'.Nodup) (h : ∀ p, p ∈ R ↔ p ∈ R') : R = R' :=
  rising_one alike_rd (fun p q e => by rw [eqv_rd] at e; exact of_decide_eq_true e) r1 r2 n1 n2 h
theorem okDs_rd (R : List Rl) : okDs (R.map rd) = true := okDs_all fun d hd => by
  obtain ⟨p, _, rfl⟩ := List.mem_map.mp hd
  exact ok_rd p
theorem all_rd : ∀ {ds : List PyData}, (∀ d ∈ ds, ∃ p, d = rd p) → ∃ R : List Rl, ds = R.map rd
  | [], _ => ⟨[], rfl⟩
  | d :: ds, h => by
    obtain ⟨p, rfl⟩ := h d List.mem_cons_self
    obtain ⟨R, rfl⟩ := all_rd fun e he => h e (List.mem_cons_of_mem _ he)
    exact ⟨p :: R, rfl⟩
theorem rd_mem {R : List Rl} {p : Rl} : rd p ∈ R.map rd ↔ p ∈ R :=
  ⟨fun h => by obtain ⟨q, hq, e⟩ := List.mem_map.mp h; rw [← rd_inj e]; exact hq, fun h => List.mem_map.mpr ⟨p, h, rfl⟩⟩
theorem Stay.rd {K : PySem.W.Frag} {H H' : Hp} {x : V} {r : Rl} (e : Stay H H') (h : Dp K H x (Rw.rd r)) : Dp K H' x (Rw.rd r) := e.dp _ _ (ok_rd r) h
theorem of_rd {K : PySem.W.Frag} {H : Hp} {x : V} {r : Rl} (h : Dp K H x (rd r)) : ∃ a v1 v2 v3 v4, x = .ref a ∧ SqT K H a [v1, v2, v3, v4] ∧ Dp K H v1 (wd r.1) ∧ Dp K H v2 (wd r.2.1) ∧ Dp K H v3 (wd r.2.2.1) ∧ Dp K H v4 (wd r.2.2.2) := by
  unfold rd parts at h
  cases h with
  | tup h1 h2 =>
    cases h2 with
    | cons a1 t =>
      cases t with
      | cons a2 t =>
        cases t with
        | cons a3 t =>
          cases t with
          | cons a4 t =>
            cases t
            exact ⟨_, _, _, _, _, rfl, h1, a1, a2, a3, a4⟩
theorem to_rd {K : PySem.W.Frag} {H : Hp} {a : Addr} {v1 v2 v3 v4 : V} {r : Rl} (h : SqT K H a [v1, v2, v3, v4]) (h1 : Dp K H v1 (wd r.1)) (h2 : Dp K H v2 (wd r.2.1)) (h3 : Dp K H v3 (wd r.2.2.1)) (h4 : Dp K H v4 (wd r.2.2.2)) : Dp K H (.ref a) (rd r) :=
  .tup h (.cons h1 (.cons h2 (.cons h3 (.cons h4 .nil))))
/-- a sorted list without repetition -/
structure Srt (S L : List Rl) : Prop where
  nd : S.Nodup
  ris : Rising (S.map rd)
  mem : ∀ p, p ∈ S ↔ p ∈ L
theorem Srt.one {S S' L L' : List Rl} (a : Srt S L) (b : Srt S' L') (h : ∀ p, p ∈ L ↔ p ∈ L') : S = S' := rules_one a.ris b.ris a.nd b.nd fun p => (a.mem p).trans ((h p).trans (b.mem p).symm)
/-! ### sorted(set(xs)) of rules -/
section
variable {X : Cx}
/-- set(xs), xs a list or a tuple of rules -/
def rSetR (K : PySem.W.Frag) (w : World) : List V → Hp → VK → Prop := fun vs H Q => ∃ (l : Addr) (xs : List V) (L : List Rl), vs = [.ref l] ∧ (SqL K H l xs ∨ SqT K H l xs) ∧ DpAll K H xs (L.map rd) ∧ L.length < 64 ∧
  ∀ a M, H a = none → (∀ p ∈ M, Good p.2 ∧ Dp K H (.ref p.1) p.2) → (∀ p ∈ M, ∃ r ∈ L, p.2 = rd r) → (∀ r ∈ L, rd r ∈ M.map (·.2)) → Q (.ref a) (upd H a (TSetO w a M))
theorem cr_setR (hc : X.calm = true) (hu : X.A.units + 64 < cLine) : CallR X (.type "set") (rSetR X.K X.w) := fun pins s σ H vs us Q I r ⟨l, xs, L, e, hl, hd, few, q⟩ =>
  cr_setT hc hu pins s σ H vs us Q I r ⟨l, xs, L.map rd, e, hl, hd, (fun d hd => by obtain ⟨p, _, rfl⟩ := List.mem_map.mp hd; exact good_rd p), by rw [List.length_map]; exact few, fun a M ha hM hall => by
    have isP : ∀ e ∈ M, ∃ p ∈ L, e.2 = rd p := fun e he => by
      obtain ⟨p, hp, ep⟩ := List.mem_map.mp (hM e he).1
      exact ⟨p, hp, ep.symm⟩
    refine q a M ha (fun e he => ?_) isP fun r hr => hall _ (List.mem_map.mpr ⟨r, hr, rfl⟩)
    obtain ⟨p, _, ep⟩ := isP e he
    exact ⟨by rw [ep]; exact good_rd p, (hM e he).2⟩⟩
/-- sorted(a set of rules) -/
def rSortR (K : PySem.W.Frag) (w : World) : List V → Hp → VK → Prop := fun vs H Q => ∃ (a : Addr) (M : List (Addr × PyData)) (L : List Rl), vs = [.ref a] ∧ H a = some (TSetO w a M) ∧ (∀ p ∈ M, Good p.2 ∧ Dp K H (.ref p.1) p.2) ∧ (∀ p ∈ M, ∃ r ∈ L, p.2 = rd r) ∧ (∀ r ∈ L, rd r ∈ M.map (·.2)) ∧
  ∀ (ys : List V) (S : List Rl) (p : Addr), Srt S L → S.length < 64 → DpAll K H ys (S.map rd) → H p = none → Q (.ref p) (upd H p (.lst ys))
theorem cr_sortR (hc : X.calm = true) (hu : X.A.units + 64 < cLine) : CallR X (.builtin "sorted") (rSortR X.K X.w) := fun pins s σ H vs us Q I r ⟨a, M, L, e, ha, hM, isP, hall, q⟩ =>
  cr_sortT hc hu pins s σ H vs us Q I r ⟨a, M, e, ha, hM, (fun d hd d' hd' => by
    obtain ⟨e, he, rfl⟩ := List.mem_map.mp hd
    obtain ⟨e', he', rfl⟩ := List.mem_map.mp hd'
    obtain ⟨p, _, ep⟩ := isP e he
    obtain ⟨p', _, ep'⟩ := isP e' he'
    rw [ep, ep']
    exact alike_rd p p'), fun ys ds p perm nd lt ris hys hp' => by
    obtain ⟨S, rfl⟩ := all_rd (ds := ds) fun d hd => by
      obtain ⟨e, he, rfl⟩ := List.mem_map.mp (perm.mem_iff.mp hd)
      obtain ⟨p, _, ep⟩ := isP e he
      exact ⟨p, ep⟩
    rw [List.length_map] at lt
    refine q ys S p ⟨nodup_of_map nd, ris, fun p => ?_⟩ lt hys hp'
    rw [← rd_mem, perm.mem_iff]
    constructor
    · intro hm
      obtain ⟨e, he, ee⟩ := List.mem_map.mp hm
      obtain ⟨p', hp', ep⟩ := isP e he
      rw [← rd_inj (ep.symm.trans ee)]
      exact hp'
    · intro hm
      exact hall _ hm⟩
end
end Rw
namespace Rw
open PySem PySem.Spec PyProof.Rows L2
/-! ### an error that was caught and kept -/
/-- an error of the class cls at a, whose own dict is d -/
def ExH (cls : Value) (d : Option Addr) (a : Addr) : HO := .ext fun h => ∃ oe vs, h.get? a = some oe ∧ Zc cls d oe ∧ oe.data = .fields vs
def wKeep (K : PySem.W.Frag) (c : Value) (i j : Nat) (D : Ends) : WX := fun cls d σ H => PySem.W.exmOne K cls c = some true ∧ ∀ a, H a = none → D.nx (((σ.set i (some (.ref a))).set j (some (.ref a))).set i none) (upd H a (ExH cls d a))
/-- an error's object is tracked from now on -/
theorem keep_inv {X : Cx} {pins : List (Addr × Obj)} {σ : L2.St} {H : Hp} {s : Shared} {a : Addr} {oe : Obj} {cls : Value} {d : Option Addr} {vs : Array Value} (I : Inv X pins σ H s) (he : s.heap.get? a = some oe) (hz : Zc cls d oe) (hd : oe.data = .fields vs) (hH : H a = none) (nL : a ≠ X.env.locals)
    (h0 : X.s_0.heap.get? a = none) (hp : ∀ p ∈ X.pn ++ pins, p.1 ≠ a) : Inv X pins σ (upd H a (ExH cls d a)) s := by
  have cell : ∀ x c, X.env.cells.lookup x = some c → c ≠ a := fun x c e z => by
    obtain ⟨v, o, h1, h2⟩ := I.cell x c e
    rw [z, he] at h1
    cases h1
    rw [hd] at h2
    cases h2
  refine ⟨I.ok, I.os, I.bare, ?_, I.loc, I.cell, ?_, fun x c e => ?_, fun p hpm => ?_, fun b o hb => ?_, I.len⟩
  · have u := I.base
    refine ⟨u.keep, u.slot, fun b o e1 e2 e3 => ?_, u.there, fun b xs e => ?_, fun b o w' e => ?_, fun b ps e => ?_⟩
    · have nb : b ≠ a := fun z => by
        rw [z, h0] at e1
        cases e1
      rw [upd_ne nb]
      exact u.free b o e1 e2 e3
    · have z := u.tups b xs e
      rw [upd_ne (ne_of_none z hH)]
      exact z
    · have z := u.frzs b o w' e
      rw [upd_ne (ne_of_none z hH)]
      exact z
    · obtain ⟨more, z⟩ := u.tbls b ps e
      refine ⟨more, ?_⟩
      rw [upd_ne (ne_of_none z hH)]
      exact z
  · rw [upd_ne nL.symm]
    exact I.free
  · rw [upd_ne (cell x c e)]
    exact I.freeC x c e
  · obtain ⟨p1, p2, p3⟩ := I.pin p hpm
    refine ⟨p1, ?_, p3⟩
    rw [upd_ne (hp p hpm)]
    exact p2
  · have new : ObjOk X.prog X.w (upd H a (ExH cls d a)) s.heap a (ExH cls d a) := ⟨⟨oe, vs, he, hz, hd⟩, ⟨oe, he⟩, fun h1 h2 ⟨oe', vs', e1, e2⟩ kk => ⟨oe', vs', kk oe' e1, e2⟩⟩
    by_cases e : b = a
    · subst e
      rw [upd_same] at hb
      cases hb
      exact new
    · rw [upd_ne e] at hb
      have same : ∀ (b' : Addr) (u : HO), H b' = some u → (upd H a (ExH cls d a)) b' = some u := fun b' u h => by
        rw [upd_ne (ne_of_none h hH)]
        exact h
      exact (I.hok b o hb).stay (fun _ _ _ e => e) (fun b' h => same b' _ h) fun b' xs h => same b' _ h
/-- try: body except x as n: y = n (every error of the body is an x) -/
theorem ps_try_keep {X : Cx} {x n y : Str} {c : Value} {i j : Nat} {body : List Stmt} {np pos pos' p1 p2 p3 : Pos} {tb : WX → TS} (hs : X.stack = X.env :: X.outer) (hf : X.env.frame = some X.env.locals) (hN : X.N.Nodup) (hi : X.N[i]? = some n) (hln : X.env.kindOf n = some .local) (hc : Names X x c)
    (hj : X.N[j]? = some y) (hyl : X.env.scope.names.lookup y = some .local) (hnl : X.env.scope.names.lookup n = some .local) (hex : X.ex = []) (hdb : (n == ("__debug__" : Str)) = false) (hcd : (n == ("__classdict__" : Str)) = false) (hsw : swapsWith (.Name n p2) (some (.Name y p1)) p3.line X.env = pure false)
    (hb : ∀ (W : WX) (pn : List (Addr × Obj)) (xe : Value → Shared → Prop), Takes (X.tr pn xe) W → PassesOwn (model X.prog X.w) X.A X.env xe → PSs (X.tr pn xe) body (tb W)) :
    PS X (.Try body [.ExceptHandler (some (.Name x np)) (some n) [.Assign [.Name y p1] (.Name n p2) p3] pos'] [] [] pos) (fun D σ H => tb (wKeep X.K c i j D) D σ H) := by
  refine ⟨fun pins s σ H D I h => ?_⟩
  have ok := I.ok
  have hfr : X.A.frames = some (X.env :: X.outer) := by rw [ok.frames, hs]
  have hloc : L2.Loc X.env.scope n := Or.inl hln
  refine wpAny_Try_except (wpAny_mono ((hb (wKeep X.K c i j D) (X.pn ++ pins) (fun e s₁ => wpAny (model X.prog X.w) X.A (noteFrame e X.env) (fun _ s₂ => wpAny (model X.prog X.w) X.A (setFlight e none) (fun _ s₃ => wpAny (model X.prog X.w) X.A (handleBy e X.env [.ExceptHandler (some (.Name x np)) (some n) [.Assign [.Name y p1] (.Name n p2) p3] pos']) (SP X pins D) X.xe s₃) X.xe s₂) X.xe s₁) ?_ PassesOwn.looking).run [] s σ H D (I.toTry _) h) ?_ fun e s1 he => he)
  · rintro u s' ⟨a, B, sI, pins', σ', H', cls, d, rfl, J', nb, up, sky, na, os, ag, hb1, hyes⟩
    have J := J'.ofTry ok
    have sky' : Sky B (X.env :: X.outer) a (Zc cls d) X.env.locals s'.heap := by
      rw [← hs]
      exact sky
    refine Sky.land Zc.steady hfr hf sky' fun h3 fl3 up3 => ?_
    have J3 := J.landed (s' := { heap := h3, gens := s'.gens, drawn := s'.drawn, toks := s'.toks, os := s'.os }) nb fl3.left (up.trans up3) os ag
    obtain ⟨oe3, vs3, he3, hz3, hd3⟩ := fl3.there
    have notFr : ∀ {h : Heap} {o : Obj} {vs : Array Value}, h.FunFrames B (X.env :: X.outer) → h.get? a = some o → o.data = .fields vs → a ∉ frs (X.env :: X.outer) := fun ff e dd hm => by
      obtain ⟨_, o', e', hnf⟩ := ff.mem hm
      rw [e] at e'
      cases e'
      exact hnf _ dd
    have nfr := notFr fl3.2.2.1 he3 hd3
    have nL : a ≠ X.env.locals := fun z => nfr (List.mem_filterMap.mpr ⟨X.env, List.mem_cons_self, by rw [hf, z]⟩)
    have nF : a ∉ X.fs := fun hm => by
      obtain ⟨e, he, q⟩ := List.mem_filterMap.mp hm
      exact nfr (List.mem_filterMap.mpr ⟨e, List.mem_cons_of_mem _ he, q⟩)
    have Ba : B.get? a = none := fl3.2.1
    have nfr' : a ∉ frs X.stack := by
      rw [hs]
      exact nfr
    have sIa : sI.heap.get? a = none := by
      cases e : sI.heap.get? a with
      | none => rfl
      | some o =>
        rw [nb a o e nfr'] at Ba
        cases Ba
    have h0 : X.s_0.heap.get? a = none := by
      cases e : X.s_0.heap.get? a with
      | none => rfl
      | some o =>
        obtain ⟨o', e'⟩ := J.base.there a o e (by rw [hex]; exact List.not_mem_nil)
        rw [sIa] at e'
        cases e'
    have hp : ∀ p ∈ X.pn ++ pins, p.1 ≠ a := fun p hpm z => by
      have := (J.pin p hpm).1
      rw [z, sIa] at this
      cases this
    have S3 := J3.suite he3 hd3 na nL nF
    have LT : ∀ (A : Around) (Q : Value → Shared → Prop) (E : Value → Shared → Prop) (s : Shared), (∀ b o, h3.get? b = some o → s.heap.get? b = some o) → Q cls s → wpAny (model X.prog X.w) A (typeOf (.ref a)) Q E s := fun A Q E s k q => wpAny_typeOf_ref (k a oe3 he3) (by rw [hz3.1]; exact q)
    refine wpAny_handleBy_cons (codeAny_handlers_test ?_) (by intro z; cases z)
    have LM := PySem.W.exm_one J3.kIn LT hb1
    have test : ∀ {Q : Value → Shared → Prop} {E : Value → Shared → Prop}, Q c { heap := h3, gens := s'.gens, drawn := s'.drawn, toks := s'.toks, os := s'.os } → wpAny (model X.prog X.w) (X.A.mark (some (.ref a))) (eval (.Name x np) X.env) Q E { heap := h3, gens := s'.gens, drawn := s'.drawn, toks := s'.toks, os := s'.os } := fun {Q E} q => by
      obtain ⟨hg, hdbg, hm | ⟨hm, hv, hnn⟩⟩ := hc
      · exact ld_glob (X := X.suite a ((a, oe3) :: (X.pn ++ pins))) S3 hg hm q hdbg
      · exact ld_blt (X := X.suite a ((a, oe3) :: (X.pn ++ pins))) S3 hg hm hv q hnn hdbg
    refine test (PySem.W.Looks.here LM ?_)
    refine codeAny_handlers_suite_as (HandSPX.lands_againZ fl3 fun h4 fl4 up4 => ?_)
    have J4 := J.landed (s' := { heap := h4, gens := s'.gens, drawn := s'.drawn, toks := s'.toks, os := s'.os }) nb fl4.left ((up.trans up3).trans up4) os ag
    obtain ⟨oe4, vs4, he4, hz4, hd4⟩ := fl4.there
    have S4 := J4.suite he4 hd4 na nL nF
    refine store_ok (X := X.suite a ((a, oe4) :: (X.pn ++ pins))) (v := .ref a) S4 hN hi hloc rfl (fun s5 S5 => ?_) (.inr hnl)
    have suite : PSs (X.suite a ((a, oe4) :: (X.pn ++ pins))) [.Assign [.Name y p1] (.Name n p2) p3] _ := pss_one (ps_asg (pe_var (i := i) hi (.inl hnl) hdb hcd) (pg_name (i := j) hN hj (.inl hyl) (.inr hyl)) hsw)
    have il : i < σ'.length := by
      rw [J.len]
      exact (List.getElem?_eq_some_iff.mp hi).1
    refine wpAny_mono (suite.run [] s5 (σ'.set i (some (.ref a))) H' { nx := fun σ6 H6 => σ6 = (σ'.set i (some (.ref a))).set j (some (.ref a)) ∧ H6 = H', rt := fun _ _ => False } S5 ⟨.ref a, by rw [List.getElem?_set_self il], rfl, rfl⟩) (fun f s6 hsp => ?_) fun e s' z => z.elim
    cases f with
    | next =>
      obtain ⟨σ6, H6, S6, rfl, rfl⟩ := hsp
      have he6 := (S6.pin (a, oe4) (List.mem_append_left _ List.mem_cons_self)).1
      have K6 := keep_inv (Inv.unsuite S6 ok) he6 hz4 hd4 na nL h0 hp
      exact gone_ok K6 hN hi hln fun s7 J7 => ⟨_, _, J7, hyes a na⟩
    | brk =>
      obtain ⟨_, _, _, z⟩ := hsp
      exact z.elim
    | cont =>
      obtain ⟨_, _, _, z⟩ := hsp
      exact z.elim
    | ret v =>
      obtain ⟨_, _, _, _, _, z⟩ := hsp
      exact z.elim
  · intro f s1 hsp
    cases f with
    | next =>
      obtain ⟨σ', H', J', q⟩ := hsp
      exact wpAny_execs_nil ⟨σ', H', J'.ofTry ok, q⟩
    | brk =>
      obtain ⟨σ', H', J', q⟩ := hsp
      exact ⟨σ', H', J'.ofTry ok, q⟩
    | cont =>
      obtain ⟨σ', H', J', q⟩ := hsp
      exact ⟨σ', H', J'.ofTry ok, q⟩
    | ret v =>
      obtain ⟨v', σ', H', J', r, q⟩ := hsp
      exact ⟨v', σ', H', J'.ofTry ok, r, q⟩
end Rw
namespace Rw
open PySem PySem.Spec PyProof.Rows L2
/-! ### what is asked of a kept error -/
open PySem.W in
theorem kin_classD {prog : Program} {w : World} {A : Around} {E : Value → Shared → Prop} {s : Shared} {K : PySem.W.Frag} {x D : Addr} {ox od : Obj} {Q : Option Value → Shared → Prop} (hga : PySem.W.findIn K (.ref D) "__getattribute__" = some (some (.builtin "BaseException.__getattribute__"))) (hgt : PySem.W.findIn K (.ref D) "__getattr__" = some none)
    (hsub : PySem.W.subIn K (.ref D) (.type "BaseException") = some true) (hdct : PySem.W.hasDictIn K D = true) (ha : PySem.W.findIn K (.ref D) "__class__" = some (some (.builtin "object.__class__"))) (hn : PySem.W.specialIn K (.builtin "object.__class__") "__get__" = some (some (.builtin "getset_descriptor.__get__"))) (htk : PySem.W.takesIn K (.builtin "object.__class__") = some true) (hm : PySem.W.mroIn K D (.type "object") = some true)
    (X : K.In s.heap) (I : PySem.W.InstAt s.heap x ox D (some od)) (h : Q (some (.ref D)) { heap := s.heap, gens := s.gens, drawn := s.drawn, toks := s.toks + 1, os := s.os }) : wpAny (model prog w) A (getAttr? (.ref x) "__class__") Q E s := by
  have hf := PySem.W.findObj_data (K := K) (C := D) (od := od) (by obtain ⟨cd, hc, _⟩ := PySem.W.any_some hdct; rw [hc]; rfl) ha hn htk
  obtain ⟨hp, g, d, t, os⟩ := s
  have L0 := PySem.W.InstAt.type (M := model prog w) I
  have L1 := PySem.W.looks_findIn (M := model prog w) X hga
  have L2 := PySem.W.looks_findIn (M := model prog w) X hgt
  have L3 := PySem.W.looks_find (M := model prog w) X I hf
  have sub : PySem.W.Looks (model prog w) hp (typeOf (.ref x) >>= fun t => isSubtype t (.type "BaseException")) true := PySem.W.Looks.andThen L0 (PySem.W.looks_subIn X hsub)
  unfold getAttr?
  refine wpAny_bind (wpAny_mkText (wpAny_bind (wpAny_attempt (wpAny_holding ?_))))
  refine wpAny_bind (PySem.W.Looks.at L0 (wpAny_bind (PySem.W.Looks.at L1 ?_)))
  have c1 : (onTheHeap (Value.ref D) && (Value.builtin "BaseException.__getattribute__" == Value.builtin "object.__getattribute__")) = false := by
    rw [show (Value.builtin "BaseException.__getattribute__" == Value.builtin "object.__getattribute__") = false by decide]
    rfl
  show wpAny _ _ (if (onTheHeap (Value.ref D) && (Value.builtin "BaseException.__getattribute__" == Value.builtin "object.__getattribute__")) = true then _ else _) _ _ _
  rw [c1, if_neg Bool.false_ne_true]
  unfold getAttrByItsOwn
  refine wpAny_bind ?_
  unfold hookBefore
  rw [if_pos (show onTheHeap (Value.ref D) = true from rfl)]
  refine PySem.W.Looks.at L2 (wpAny_bind (wpAny_attempt (wpAny_holding ?_)))
  unfold callGetattribute
  rw [if_neg (show ¬ ((false && onTheHeap (Value.builtin "BaseException.__getattribute__")) = true) from Bool.false_ne_true)]
  unfold boundAndCalled
  rw [F.excAttr_ValueError.ga.bind (Value.ref x)]
  refine wpAny_bind (wpAny_pure ?_)
  show wpAny _ _ (call (Value.builtin "BaseException.__getattribute__") [.ref x, .str "__class__" t]) _ _ _
  refine wpAny_call ?_
  refine codeAny_call_builtin (id := "BaseException.__getattribute__") (b := Builtin.«object.__getattribute__») F.excAttr_ValueError.ga.plain F.entry_bexc_ga ?_
  refine PySem.W.check_slot (i := "BaseException.__getattribute__") (owner := "BaseException") (n := "__getattribute__") (self := .ref x) (rest := [.str "__class__" t]) (kw := []) PySem.W.kin_classE._proof_2 PySem.W.kin_classE._proof_3 sub (F.args_bexc_ga (.ref x) (.str "__class__" t)) ?_
  unfold Builtin.«object.__getattribute__»
  refine wpAny_bind ?_
  refine wpAny_of_eq (a := (Value.ref x, [Value.str "__class__" t])) rfl ?_
  refine wpAny_bind (wpAny_pure (wpAny_bind (PySem.W.Looks.at L0 (wpAny_bind (PySem.W.Looks.at L3 ?_)))))
  unfold Builtin.ObjectAttr.bindTo
  refine wpAny_bind (wpAny_holding (wpAny_call (PySem.W.class_get X I hm (wpAny_pure ?_))))
  show wpAny (model prog w) A (handedOut (.ref D)) _ _ _
  rw [PySem.W.handedOut_of rfl]
  exact wpAny_pure (wpAny_pure h)
theorem cls_at {K : PySem.W.Frag} {D : Addr} (h : PySem.W.hasDictIn K D = true) : ∃ o cd, K.lookup D = some o ∧ o.data = .cls cd := by
  obtain ⟨cd, hc, _⟩ := PySem.W.any_some h
  unfold PySem.W.clsIn at hc
  split at hc
  · rename_i heq
    exact ⟨_, _, heq, rfl⟩
  · cases hc
theorem kitx_excD {K : PySem.W.Frag} {x D : Addr} {ox od : Obj} (C : ExcC K D) : PySem.W.KitX K (.ref x) (.ref D) (fun h => PySem.W.InstAt h x ox D (some od)) := by
  obtain ⟨⟨cl, dc, da, sl⟩, cd, ho, hd⟩ := cls_at C.hd
  refine ⟨fun M h X I => PySem.W.InstAt.type I, fun M h X _ => ?_, fun h tp dd its n sl' X htp => ?_, fun X I k => kin_classD C.hg C.hk C.hs C.hd C.ha C.hn C.ht C.hm X I k⟩
  · subst hd
    intro A' Q' E' s' k q
    exact wpAny_bind (wpAny_loadPart (k D _ (X D _ ho)) (wpAny_pure q))
  · refine Bool.eq_false_iff.mpr fun q => ?_
    have e := Value.ref.inj (beq_iff_eq.mp q)
    subst e
    have z := (X D _ ho).symm.trans htp
    cases z
    cases hd
/-- isinstance(caught, C): None, or a kept error -/
def rIsH (K : PySem.W.Frag) : List V → Hp → VK → Prop := fun xs H Q => ∃ (x c : V) (u : Value), xs = [x, c] ∧ (∀ v, RelV c v → v = u) ∧
  ((x = .non ∧ ∃ b, PySem.W.kitOne K (.type "NoneType") u = some b ∧ Q (.bl b) H) ∨
   (∃ (a D dd : Addr) (fs : List (Str × V)) (b : Bool), x = .ref a ∧ H a = some (ExH (.ref D) (some dd) a) ∧ H dd = some (.xd fs) ∧ ExcC K D ∧ PySem.W.kitOne K (.ref D) u = some b ∧ Q (.bl b) H))
theorem call_isH {X : Cx} : CallR X (.builtin "isinstance") (rIsH X.K) := by
  intro pins s σ H xs us Q I r h
  obtain ⟨x, c, u, rfl, hu, h⟩ := h
  cases r with
  | cons r1 r2 =>
    cases r2 with
    | cons r2 r3 =>
      cases r3
      obtain rfl := hu _ r2
      rcases h with ⟨rfl, b, hk, q⟩ | ⟨a, D, dd, fs, b, rfl, ha, hd, C, hk, q⟩
      · cases r1
        exact PySem.W.kia_one PySem.W.kitx_none I.kIn trivial hk (fun z => nomatch z) fun tk => ⟨.bl b, H, I.tok _, rfl, q⟩
      · obtain ⟨oe, vs, hget, hz, hdat⟩ := (I.hok a _ ha).1
        obtain ⟨mA, hns, hr⟩ := I.hok dd _ hd
        obtain ⟨od, ho, hl⟩ := lookIn_ns hns
        have J : PySem.W.InstAt s.heap a oe D (some od) := ⟨hget, hz.1, by unfold PySem.W.notCls; rw [hdat] <;> rfl, by rw [hz.2]; exact ho⟩
        rw [show _ = Value.ref a from r1]
        exact PySem.W.kia_one (kitx_excD C) I.kIn J hk (fun z => nomatch z) fun tk => ⟨.bl b, H, I.tok _, rfl, q⟩
/-- caught.n -/
def tFldH (C : Addr) (n : Str) (te : TE) : TE := fun σ H Q => te σ H fun x H1 => ∃ (a dd : Addr) (fs : List (Str × V)) (v : V), x = .ref a ∧ H1 a = some (ExH (.ref C) (some dd) a) ∧ H1 dd = some (.xd fs) ∧ fs.lookup n = some v ∧ Q v H1
theorem pe_fldH {X : Cx} {C : Addr} {e : Expr} {te : TE} {pos : Pos} {n : Str} (T : XfC X.K C) (hno : PySem.W.findIn X.K (.ref C) n = some none) (he : PE X e te) (hb : attributeBase e n X.env (eval e X.env) = eval e X.env := by rfl) : PE X (.Attribute e n pos) (tFldH C n te) := by
  refine ⟨fun pins s σ H Q I h => attr_of hb (thn (he.run pins s σ H _ I h) fun u s1 ⟨x, H1, I1, rx, a, dd, fs, v, ex, ha, hdd, l, q⟩ => ?_)⟩
  subst ex
  obtain rfl : u = Value.ref a := rx
  obtain ⟨oe, vs, hget, hz, hdat⟩ := (I1.hok a _ ha).1
  obtain ⟨mA, hns, hr⟩ := I1.hok dd _ hdd
  obtain ⟨od, ho, hl⟩ := lookIn_ns hns
  obtain ⟨u, hu, ru⟩ := RelO.some_of (v := v) (o := mA n) (by rw [← l]; exact hr n)
  have J : PySem.W.InstAt s1.heap a oe C (some od) := ⟨hget, hz.1, by unfold PySem.W.notCls; rw [hdat] <;> rfl, by rw [hz.2]; exact ho⟩
  exact HandSPX.exc_get I1.kIn J T.ga T.gg T.exC (PySem.W.findObj_own T.hdC hno rfl (by rw [hl, hu])) (handed_of ru) ⟨v, H1, I1.tok _, ru, q⟩
end Rw
namespace Rw
open PySem PySem.Spec PyProof.Rows L2
/-! ### own errors with one field -/
/-- __init__(self, n): self.n = n -/
def spErr (C : Addr) (n : Str) : Sp := fun vs H Q _ => ∃ (a : Addr) (v : V), vs = [.ref a, v] ∧ H a = some (exo a C none) ∧ ∀ dx, H dx = none → dx ≠ a → Q .non (upd (upd H dx (exd dx [(n, v)])) a (exo a C (some dx)))
/-- C(v) made: what its making asks -/
theorem err_made {C : Addr} {n : Str} {v : V} {H1 : Hp} {Q : XK} (h : ∀ d, H1 d = none → Q (.ref C) (some d) (upd H1 d (.xd [(n, v)]))) : [v].length ≤ 1000 ∧ ∀ a : Addr, H1 a = none → spErr C n (.ref a :: ([v] ++ [])) (upd H1 a (exo a C none))
    (fun u H2 => u = .non ∧ ∃ d fs, H2 a = some (exo a C (some d)) ∧ H2 d = some (exd d fs) ∧ H1 d = none ∧ Q (.ref C) (some d) (upd (del H2 a) d (.xd fs))) (fun _ _ _ => False) := by
  refine ⟨by simp, fun a ha => ⟨a, v, rfl, upd_same, fun dx hdx ne => ?_⟩⟩
  have hd1 : H1 dx = none := by
    rw [upd_ne ne] at hdx
    exact hdx
  refine ⟨rfl, dx, [(n, v)], upd_same, ?_, hd1, ?_⟩
  · rw [upd_ne ne, upd_same]
  · have e : upd (del (upd (upd (upd H1 a (exo a C none)) dx (exd dx [(n, v)])) a (exo a C (some dx))) a) dx (.xd [(n, v)]) = upd H1 dx (.xd [(n, v)]) := by
      funext b
      by_cases h1 : b = dx
      · subst h1
        rw [upd_same, upd_same]
      · rw [upd_ne h1, upd_ne h1]
        by_cases h2 : b = a
        · subst h2
          unfold del
          rw [ha]
          simp
        · unfold del
          rw [if_neg h2, upd_ne h2, upd_ne h1, upd_ne h2]
    rw [e]
    exact h dx hd1
end Rw
namespace Rw
open PySem PySem.Spec PyProof.Rows L2 PySem.Froz
/-! ### comprehensions of any depth: one level of their loops -/
def turnOf (tg : Expr) (ifs : List Expr) (pos : Pos) (it : Value) (env : Env) (bk : Sem PySem.Fin) (c : Code) : Sem PySem.Fin := do
  standAt pos
  let r ← pyNext it
  match r with
  | none => pure (PySem.Fin.done Flow.next)
  | some v => do
    letOwnedTupleGo tg it v
    assign tg env v
    let ok ← forIn ifs true fun c r => if r = true then do let ok ← PySem.isTrue c env (eval c env); pure (ForInStep.yield ok) else pure (ForInStep.yield r)
    if ok = true then bk else again c
def Le (σ σ' : L2.St) : Prop := σ.length = σ'.length ∧ ∀ (i : Nat) (v : V), σ[i]? = some (some v) → σ'[i]? = some (some v)
theorem Le.refl (σ : L2.St) : Le σ σ := ⟨rfl, fun _ _ e => e⟩
theorem Le.trans {a b c : L2.St} (h : Le a b) (g : Le b c) : Le a c := ⟨h.1.trans g.1, fun i v e => g.2 i v (h.2 i v e)⟩
theorem Le.wipe (σ : L2.St) (vs : List Nat) : Le (wipe σ vs) σ := ⟨wipe_length σ vs, fun i v e => (wipe_some e).1⟩
theorem Le.wipes {σ : L2.St} {vs vs1 : List Nat} (h : ∀ i ∈ vs1, i ∈ vs) : Le (L2.wipe σ vs) (L2.wipe σ vs1) := ⟨(wipe_length σ vs).trans (wipe_length σ vs1).symm, fun i v e => by
  obtain ⟨h1, h2⟩ := wipe_some e
  rw [wipe_out fun z => h2 (h i z)]
  exact h1⟩
theorem loop_lvl {Y : Cx} {elt : Expr} {gens : List Comprehension} {scope : Scope} {ep : Pos} {d : Nat} {tg : Expr} {ifs : List Expr} {pos : Pos} {it : Addr} {acc : Value} {bk : Sem PySem.Fin} {fp : List Addr} {tn : Nat → Heap → Prop} {J : It} {pins : List (Addr × Obj)} {σ0 : L2.St} {g : TG} {tt : TT} {B : L2.St → Hp → (Hp → Prop) → Prop} {C : L2.St → Prop} {R : Result → Shared → Prop} {N : Hp → Prop} {W : Nat → Nat → Hp → Prop}
    (hc : Y.calm = true) (hxe : ∀ e s, ¬ Y.xe e s) (hT : compTurn (.SetComp elt gens scope ep) d (.ref it) acc Y.env = turnOf tg ifs pos (.ref it) Y.env bk (.compLoop (.SetComp elt gens scope ep) d (.ref it) acc Y.env)) (T : Turn Y.prog Y.w Y.K tg J fp it tn) (hg : PG Y tg g) (ht : PTs Y ifs tt)
    (hb : ∀ pl s σ H (Nx : Hp → Prop) (Q : PySem.Fin → Shared → Prop) (E : Value → Shared → Prop), L2.Inv Y (pins ++ pl) σ H s → C σ → B σ H Nx → (∀ σ' H' s', L2.Inv Y (pins ++ pl) σ' H' s' → Le σ0 σ' → Nx H' → Q (.again (.compLoop (.SetComp elt gens scope ep) d (.ref it) acc Y.env)) s') → wpAny (model Y.prog Y.w) Y.A bk Q E s)
    (hC : ∀ σ, C σ → Le σ0 σ)
    (turn : ∀ i m H, W i m H → (J.stop i H ∧ N H) ∨ (J.go i H ∧ ∃ Nx : Hp → Prop, (∀ H', Nx H' → ∃ m', m' < m ∧ W (i + 1) m' H') ∧ ∀ x H', J.yld i H x H' → g x σ0 H' fun σ2 H2 => C σ2 ∧ tt σ2 H2 fun b H3 => if b = true then B σ2 H3 Nx else Nx H3))
    (hR : ∀ s' H', L2.Inv Y pins σ0 H' s' → N H' → R (.ok .next) s') :
    ∀ (n i : Nat) (H : Hp) (s : Shared), L2.Inv Y pins σ0 H s → tn i s.heap → (∀ b ∈ fp, FpOk Y pins H b) → W i n H → codeAny (model Y.prog Y.w) Y.A (.compLoop (.SetComp elt gens scope ep) d (.ref it) acc Y.env) R s := by
  intro n i H s I0 t0 f0 w0
  refine codeAny_loop (c := .compLoop (.SetComp elt gens scope ep) d (.ref it) acc Y.env) rfl (fun n s' => ∃ i H', L2.Inv Y pins σ0 H' s' ∧ tn i s'.heap ∧ (∀ b ∈ fp, FpOk Y pins H' b) ∧ W i n H') (fun n s5 ⟨i, H5, I5, st5, n5, w5⟩ => ?_) n ⟨i, H, I0, t0, f0, w0⟩
  show wpAny (model Y.prog Y.w) Y.A (Sem.onRaise (compTurn (.SetComp elt gens scope ep) d (.ref it) acc Y.env) fun x => do noteFrame x Y.env; theTreesLotGoes x) _ _ s5
  refine wpAny_noted ?_
  rw [hT]
  unfold turnOf
  refine wpAny_bind (wpAny_standAt (wpAny_bind ?_))
  rcases turn i n H5 w5 with ⟨stop, qq⟩ | ⟨go, Nx, hNx, step⟩
  · refine thnF (T.done Y rfl rfl rfl hc i pins s5 σ0 H5 (fun _ _ => False) I5 n5 st5 stop) fun r s6 ⟨hr, I6⟩ => ?_
    subst hr
    exact wpAny_pure (hR s6 H5 I6 qq)
  · refine thnF (T.item Y rfl rfl rfl hc i pins s5 σ0 H5 (fun _ _ => False) I5 n5 st5 go) fun r s6 ⟨u, hr, h6⟩ => ?_
    subst hr
    refine wpAny_bind (thnF h6 fun _ s7 ⟨x, H7, I7, r7, y7, st7, n7⟩ => ?_)
    have fp7 : ∀ b ∈ fp, FpOk Y pins H7 b := fun b hb => ⟨n7 b hb, (n5 b hb).2⟩
    have I7' := Inv.pinned I7 fp7 (T.obj (i + 1) s7.heap st7)
    refine wpAny_bind (wpAny_mono (hg.run (pins ++ pinsAt fp s7.heap) s7 σ0 H7 x u _ I7' r7 (step x H7 y7)) (fun _ s8 ⟨σ8, H8, I8, hw8, q8⟩ => ?_) fun e s z => (hxe e s z).elim)
    have fin : ∀ {s' : Shared} {H' : Hp} {σ' : L2.St}, L2.Inv Y (pins ++ pinsAt fp s7.heap) σ' H' s' → Le σ0 σ' → Nx H' → ∃ m, m < n ∧ ∃ i H', L2.Inv Y pins σ0 H' s' ∧ tn i s'.heap ∧ (∀ b ∈ fp, FpOk Y pins H' b) ∧ W i m H' := fun {s' H' σ'} I' le nx => by
      obtain ⟨m', hm, w'⟩ := hNx H' nx
      have pin' : ∀ b ∈ fp, ∀ o, s7.heap.get? b = some o → s'.heap.get? b = some o ∧ H' b = none := fun b hb o e => by
        have z := I'.pin (b, o) (List.mem_append_right Y.pn (List.mem_append_right pins (mem_pinsAt hb e)))
        exact ⟨z.1, z.2.1⟩
      refine ⟨m', hm, i + 1, H', Inv.weak (Inv.unpinned I') le.1 le.2, T.keep (i + 1) s7.heap s'.heap st7 fun b hb o e => (pin' b hb o e).1, fun b hb => ?_, w'⟩
      obtain ⟨o, e, _⟩ := T.obj (i + 1) s7.heap st7 b hb
      exact ⟨(pin' b hb o e).2, (n5 b hb).2⟩
    refine wpAny_bind (wpAny_mono (ht.run _ s8 σ8 H8 _ I8 q8) (fun b s9 ⟨H9, I9, q9⟩ => ?_) fun e s z => (hxe e s z).elim)
    cases b with
    | false =>
      have q9' : Nx H9 := q9
      exact wpAny_pure ⟨rfl, fin I9 (hC σ8 hw8) q9'⟩
    | true =>
      have q9' : B σ8 H9 Nx := q9
      exact hb (pinsAt fp s7.heap) s9 σ8 H9 Nx _ _ I9 hw8 q9' fun σ' H' s' I' le nx => ⟨rfl, fin I' le nx⟩
/-- the start of a level -/
theorem start_lvl {P : Program} {w : World} {A : Around} {R : Result → Shared → Prop} {s : Shared} {elt : Expr} {gens : List Comprehension} {scope : Scope} {ep : Pos} {d : Nat} {t i : Expr} {ifs : List Expr} {it acc : Value} {env : Env} (hcl : gens[d]? = some ⟨t, i, ifs, 0⟩)
    (h0 : codeAny (model P w) A (.compLoop (.SetComp elt gens scope ep) d it acc env) R s) (h : wpAny (model P w) A (pyIter it) (fun it' s' => codeAny (model P w) A (.compLoop (.SetComp elt gens scope ep) d it' acc env) R s') (notedBy (model P w) A env fun x s' => R (.error x) s') s) :
    codeAny (model P w) A (.compStart (.SetComp elt gens scope ep) d it acc env) R s := by
  refine codeAny_of_tree ?_
  show wpAny (model P w) A (Sem.onRaise (compStart (.SetComp elt gens scope ep) d it acc env) fun x => do noteFrame x env; standAt theWindowsPlace) _ _ s
  refine wpAny_notedAt ?_
  unfold compStart
  rw [show (clausesOf (.SetComp elt gens scope ep))[d]? = some ⟨t, i, ifs, 0⟩ from hcl]
  show wpAny (model P w) A (ask >>= _) _ _ s
  refine wpAny_bind (wpAny_askSetting ?_)
  split
  · exact wpAny_pure ⟨rfl, h0⟩
  · refine wpAny_bind (wpAny_rule ?_)
    refine wpAny_bind (wpAny_standAt (wpAny_bind (wpAny_mono h (fun it' s' h' => wpAny_pure ⟨rfl, h'⟩) fun _ _ z => z)))
/-! ### a set of texts, one more put in -/
theorem addX_ok {X : Cx} {pins : List (Addr × Obj)} {σ : L2.St} {H : Hp} {s : Shared} {E : Value → Shared → Prop} {D : Addr} {ms : List Str} {z : Str} {u : Tok} {Q : Value → Shared → Prop} (I : L2.Inv X pins σ H s) (hD : H D = some (XSetO X.prog X.w D ms)) (room : ms.length + 1 < scanBound)
    (h : ∀ s' ms', ms'.Nodup → (∀ y, y ∈ ms' ↔ y = z ∨ y ∈ ms) → ms'.length ≤ ms.length + 1 → L2.Inv X pins σ (upd H D (XSetO X.prog X.w D ms')) s' → Q .none s') : wpAny (model X.prog X.w) X.A (call (.builtin "set.add") [.ref D, .str z u]) Q E s := by
  obtain ⟨es, ep, t, R⟩ := (I.hok D _ hD).1
  refine wpAny_call_entry PySem.F.slot_set_add ⟨_, R.ob, rfl⟩ PySem.F.entry_set_add ?_ (PySem.F.args_set_add_2 _ _)
  unfold Builtin.«set.add»
  show wpAny _ _ (Builtin.Frozenset.oneOther "add" _ >>= _) _ _ _
  unfold Builtin.Frozenset.oneOther
  refine wpAny_bind (wpAny_bind (wpAny_pure (wpAny_bind (wpAny_pure (wpAny_pure ?_)))))
  unfold setAdd
  refine wpAny_bind (wpAny_holding (wpAny_bind ((strKind X.prog X.w).pyHash (k := z) (is_str _ _) ?_)))
  refine put_text (s := { s with toks := s.toks + 1 }) R room fun b h' ms' es' ep' t' sb R' hm hl' => ?_
  refine wpAny_pure ⟨.none, rfl, h _ ms' R'.nd hm hl' ?_⟩
  exact Inv.write (I.tok (s.toks + 1)) (by rw [hD]; exact True.intro) (Or.inl rfl) (fun b u hb hu => (sb.2 b hb).trans hu) ⟨_, R'.ob⟩ ⟨⟨es', ep', t', R'⟩, ⟨_, R'.ob⟩, fun h1 h2 ⟨a1, a2, a3, a4⟩ kk => ⟨a1, a2, a3, a4.moved kk⟩⟩
/-! ### {e for x in a for y in b for z in c}, of texts -/
def lvlR (wi : TI) (g : TG) (vs : List Nat) (B : L2.St → Hp → (Hp → Prop) → Prop) : L2.St → Hp → (Hp → Prop) → Prop := fun σ H N => wi σ H fun J H1 => ∃ W : Nat → Nat → Hp → Prop, (∃ m, W 0 m H1) ∧
  ∀ i m H, W i m H → (J.stop i H ∧ N H) ∨ (J.go i H ∧ ∃ Nx : Hp → Prop, (∀ H', Nx H' → ∃ m', m' < m ∧ W (i + 1) m' H') ∧ ∀ x H', J.yld i H x H' → g x (wipe σ vs) H' fun σ2 H2 => wipe σ2 vs = wipe σ vs ∧ B σ2 H2 Nx)
def lastR (P : Program) (w : World) (D : Addr) (te : TE) : L2.St → Hp → (Hp → Prop) → Prop := fun σ H N => te σ H fun y H1 => ∃ z ms, y = .str z ∧ H1 D = some (XSetO P w D ms) ∧ ms.length + 1 < scanBound ∧ ∀ ms', ms'.Nodup → (∀ u, u ∈ ms' ↔ u = z ∨ u ∈ ms) → ms'.length ≤ ms.length + 1 → N (upd H1 D (XSetO P w D ms'))
def tSc3 (P : Program) (w : World) (wi0 wi1 wi2 : TI) (g0 g1 g2 : TG) (te : TE) (vs vs1 vs2 : List Nat) : TE := fun σ H Q => wi0 σ H fun J H1 => ∀ D, H1 D = none → ∃ W : Nat → Nat → Hp → Prop, (∃ m, W 0 m (upd H1 D (XSetO P w D []))) ∧
  ∀ i m H, W i m H → (J.stop i H ∧ Q (.ref D) H) ∨ (J.go i H ∧ ∃ Nx : Hp → Prop, (∀ H', Nx H' → ∃ m', m' < m ∧ W (i + 1) m' H') ∧ ∀ x H', J.yld i H x H' → g0 x (wipe σ vs) H' fun σ2 H2 => wipe σ2 vs = wipe σ vs ∧ lvlR wi1 g1 vs1 (lvlR wi2 g2 vs2 (lastR P w D te)) σ2 H2 Nx)
section
variable {elt t0 i0 t1 i1 t2 i2 : Expr} {scope : Scope} {ep : Pos}
abbrev gens3 (t0 i0 t1 i1 t2 i2 : Expr) : List Comprehension := [⟨t0, i0, [], 0⟩, ⟨t1, i1, [], 0⟩, ⟨t2, i2, [], 0⟩]
def bkIn (i1 : Expr) (e : Expr) (d : Nat) (acc : Value) (env : Env) (c : Code) : Sem PySem.Fin := do
  let x ← eval i1 env
  standAt i1.pos
  let x ← foldedSetIterable i1 env x
  let it ← holding [x] (pyIter x)
  let _ ← runOwn (.compStart e (d + 1) it acc env) env
  again c
def bkLast (elt : Expr) (acc : Value) (env : Env) (c : Code) : Sem PySem.Fin := do
  let _ ← (do let v ← eval elt env; standAt elt.pos; let _ ← call (.builtin "set.add") [acc, v]; pure () : Sem Unit)
  again c
theorem turn3_0 (it acc : Value) (env : Env) : compTurn (.SetComp elt (gens3 t0 i0 t1 i1 t2 i2) scope ep) 0 it acc env = turnOf t0 [] i0.pos it env (bkIn i1 (.SetComp elt (gens3 t0 i0 t1 i1 t2 i2) scope ep) 0 acc env (.compLoop (.SetComp elt (gens3 t0 i0 t1 i1 t2 i2) scope ep) 0 it acc env)) (.compLoop (.SetComp elt (gens3 t0 i0 t1 i1 t2 i2) scope ep) 0 it acc env) := rfl
theorem turn3_1 (it acc : Value) (env : Env) : compTurn (.SetComp elt (gens3 t0 i0 t1 i1 t2 i2) scope ep) 1 it acc env = turnOf t1 [] i1.pos it env (bkIn i2 (.SetComp elt (gens3 t0 i0 t1 i1 t2 i2) scope ep) 1 acc env (.compLoop (.SetComp elt (gens3 t0 i0 t1 i1 t2 i2) scope ep) 1 it acc env)) (.compLoop (.SetComp elt (gens3 t0 i0 t1 i1 t2 i2) scope ep) 1 it acc env) := rfl
theorem turn3_2 (it acc : Value) (env : Env) : compTurn (.SetComp elt (gens3 t0 i0 t1 i1 t2 i2) scope ep) 2 it acc env = turnOf t2 [] i2.pos it env (bkLast elt acc env (.compLoop (.SetComp elt (gens3 t0 i0 t1 i1 t2 i2) scope ep) 2 it acc env)) (.compLoop (.SetComp elt (gens3 t0 i0 t1 i1 t2 i2) scope ep) 2 it acc env) := rfl
theorem bk_step {Y : Cx} {elt : Expr} {gens : List Comprehension} {scope : Scope} {ep : Pos} {d : Nat} {tg iter : Expr} {acc : Value} {wi : TI} {g : TG} {vs : List Nat} {B : L2.St → Hp → (Hp → Prop) → Prop} {bkf : Value → Sem PySem.Fin} {D : L2.St → L2.St → Prop}
    (hc : Y.calm = true) (hxe : ∀ e s, ¬ Y.xe e s) (hgen : gens[d + 1]? = some ⟨tg, iter, [], 0⟩) (hs : ∀ x, foldedSetIterable iter Y.env x = pure x) (hi : PI Y tg iter wi) (hg : PG Y tg g)
    (hT : ∀ it, compTurn (.SetComp elt gens scope ep) (d + 1) it acc Y.env = turnOf tg [] iter.pos it Y.env (bkf it) (.compLoop (.SetComp elt gens scope ep) (d + 1) it acc Y.env))
    (hb : ∀ it pl s σ H (Nx : Hp → Prop) (Q : PySem.Fin → Shared → Prop) (E : Value → Shared → Prop), L2.Inv Y pl σ H s → B σ H Nx → (∀ σ' H' s', L2.Inv Y pl σ' H' s' → D σ σ' → Nx H' → Q (.again (.compLoop (.SetComp elt gens scope ep) (d + 1) it acc Y.env)) s') → wpAny (model Y.prog Y.w) Y.A (bkf it) Q E s)
    (hD : ∀ σ σ2 σ', wipe σ2 vs = wipe σ vs → D σ2 σ' → Le (wipe σ vs) σ') :
    ∀ pl s σ H (Nx : Hp → Prop) (Q : PySem.Fin → Shared → Prop) (E : Value → Shared → Prop) (c : Code), L2.Inv Y pl σ H s → lvlR wi g vs B σ H Nx → (∀ H' s', L2.Inv Y pl (wipe σ vs) H' s' → Nx H' → Q (.again c) s') → wpAny (model Y.prog Y.w) Y.A (bkIn iter (.SetComp elt gens scope ep) d acc Y.env c) Q E s := by
  intro pl s σ H Nx Q E c I hL hQ
  unfold bkIn
  refine wpAny_bind (wpAny_mono (hi.run pl s σ H _ I hL) (fun v s1 h1 => ?_) (fun e s z => (hxe e s z).elim))
  refine wpAny_bind (wpAny_standAt ?_)
  rw [hs v]
  refine wpAny_bind (wpAny_pure ?_)
  refine wpAny_bind (wpAny_holding (wpAny_mono h1 (fun itv s2 ⟨it, fp, tn, J, H2, e, I2, T, st2, f2, W, ⟨m, w0⟩, turn⟩ => ?_) (fun e s z => (hxe e s z).elim)))
  subst e
  have I2' : L2.Inv Y pl (wipe σ vs) H2 s2 := Inv.weak I2 (Le.wipe σ vs).1 (Le.wipe σ vs).2
  have loop : ∀ R : Result → Shared → Prop, (∀ s' H', L2.Inv Y pl (wipe σ vs) H' s' → Nx H' → R (.ok .next) s') → codeAny (model Y.prog Y.w) Y.A (.compLoop (.SetComp elt gens scope ep) (d + 1) (.ref it) acc Y.env) R s2 := fun R hR =>
    loop_lvl (Y := Y) (σ0 := wipe σ vs) (C := fun σ2 => wipe σ2 vs = wipe σ vs) (B := B) (tt := tYes) (W := W) (N := Nx) hc hxe (hT (.ref it)) T hg pts_nil
      (fun pl2 s σ2 H Nx2 Q E I hC hB hq => hb (.ref it) (pl ++ pl2) s σ2 H Nx2 Q E I hB fun σ' H' s' I' hd nx => hq σ' H' s' I' (hD σ σ2 σ' hC hd) nx)
      (fun σ2 hC => by have z := Le.wipe σ2 vs; rw [hC] at z; exact z) turn hR m 0 H2 s2 I2' st2 f2 w0
  refine wpAny_bind (wpAny_runOwn (h := none) (start_lvl hgen ?_ ?_))
  · exact loop _ fun s' H' I' nx => wpAny_pure (hQ H' s' I' nx)
  · exact T.self _ 0 s2 _ _ st2 (loop _ fun s' H' I' nx => wpAny_pure (hQ H' s' I' nx))
theorem last_step {Y : Cx} {elt : Expr} {D : Addr} {te : TE} (hxe : ∀ e s, ¬ Y.xe e s) (he : PE Y elt te) :
    ∀ pl s σ H (Nx : Hp → Prop) (Q : PySem.Fin → Shared → Prop) (E : Value → Shared → Prop) (c : Code), L2.Inv Y pl σ H s → lastR Y.prog Y.w D te σ H Nx → (∀ H' s', L2.Inv Y pl σ H' s' → Nx H' → Q (.again c) s') → wpAny (model Y.prog Y.w) Y.A (bkLast elt (.ref D) Y.env c) Q E s := by
  intro pl s σ H Nx Q E c I hL hQ
  unfold bkLast
  refine wpAny_bind (wpAny_bind (wpAny_mono (he.run pl s σ H _ I hL) (fun v s1 ⟨y, H1, I1, ry, z, ms, ey, hD, room, next⟩ => ?_) (fun e s z => (hxe e s z).elim)))
  subst ey
  obtain ⟨u, rfl⟩ := ry
  exact wpAny_bind (wpAny_standAt (wpAny_bind (addX_ok I1 hD room fun s' ms' nd hm hl I' => wpAny_pure (wpAny_pure (hQ _ s' I' (next ms' nd hm hl))))))
/-- a set comprehension of three clauses, of texts -/
theorem pe_sc3 {X : Cx} {own : List (Str × Nat)} {wi0 wi1 wi2 : TI} {g0 g1 g2 : TG} {te : TE} {vs1 vs2 : List Nat} (hc : X.calm = true) (hN : X.N.Nodup) (hi : PI X t0 i0 wi0) (ok : BlkOk X.N X.env.scope scope own) (hv1 : ∀ i ∈ vs1, i ∈ own.map (·.2)) (hv2 : ∀ i ∈ vs2, i ∈ vs1)
    (hg0 : ∀ s H C cl fp, PG (X.blk s H scope (compEnvC scope cl C X.env) fp) t0 g0) (hi1 : ∀ s H C cl fp, PI (X.blk s H scope (compEnvC scope cl C X.env) fp) t1 i1 wi1) (hg1 : ∀ s H C cl fp, PG (X.blk s H scope (compEnvC scope cl C X.env) fp) t1 g1)
    (hi2 : ∀ s H C cl fp, PI (X.blk s H scope (compEnvC scope cl C X.env) fp) t2 i2 wi2) (hg2 : ∀ s H C cl fp, PG (X.blk s H scope (compEnvC scope cl C X.env) fp) t2 g2) (he : ∀ s H C cl fp, PE (X.blk s H scope (compEnvC scope cl C X.env) fp) elt te)
    (hs : ∀ x, foldedSetIterable i0 X.env x = pure x := by intro x; rfl) (hs1 : ∀ env x, foldedSetIterable i1 env x = pure x := by intro env x; rfl) (hs2 : ∀ env x, foldedSetIterable i2 env x = pure x := by intro env x; rfl) :
    PE X (.SetComp elt (gens3 t0 i0 t1 i1 t2 i2) scope ep) (tSc3 X.prog X.w wi0 wi1 wi2 g0 g1 g2 te (own.map (·.2)) vs1 vs2) := by
  refine ⟨fun pins s σ H Q I h => ?_⟩
  rw [PpSet.eval_SetComp]
  have hfree : ∀ y ∈ scope.names, y.2 = NameKind.free → ∃ c, X.env.cells.lookup y.1 = some c := fun y hy e => (ok.free y hy e).elim (fun k => I.ok.has y.1 (.inl k)) fun k => I.ok.has y.1 (.inr k)
  refine wpAny_comprehension_free (g := ⟨t0, i0, [], 0⟩) (gs := [⟨t1, i1, [], 0⟩, ⟨t2, i2, [], 0⟩]) rfl hs (closure_ok hfree) ok.kind (fun y hy e => by rw [ok.uniq y hy, e]) ?_
  refine thn (hi.run pins s σ H _ I h) fun xv s1 hx => thn hx fun itv s2 ⟨it, fp, tn, J, H2, e, I2, T, st2, f2, q⟩ => ?_
  subst e
  refine PpSet.newSet_ok ?_
  refine newEnv_comp ?_
  have hDn := I2.hok.fresh (Nat.le_refl _)
  obtain ⟨W, ⟨m0, w0⟩, turn⟩ := q s2.heap.objs.size hDn
  have ho : (s2.heap.push (newSetObj X.w)).get? s2.heap.objs.size = some (newSetObj X.w) := Heap.get?_push_size s2.heap rfl
  have R0 : XSet X.prog X.w (s2.heap.push (newSetObj X.w)) s2.heap.objs.size [] #[] 0 (.fresh 0 0 (!X.w.params.followText "set-order")) := ⟨ho, TxOk.nil rfl, List.nodup_nil, List.Pairwise.nil, led_new X.w⟩
  have new : ObjOk X.prog X.w (upd H2 s2.heap.objs.size (XSetO X.prog X.w s2.heap.objs.size [])) (s2.heap.push (newSetObj X.w)) s2.heap.objs.size (XSetO X.prog X.w s2.heap.objs.size []) :=
    ⟨⟨_, _, _, R0⟩, ⟨_, ho⟩, fun h1 h2 ⟨a1, a2, a3, a4⟩ kk => ⟨a1, a2, a3, a4.moved kk⟩⟩
  have I3 : L2.Inv X pins σ (upd H2 s2.heap.objs.size (XSetO X.prog X.w s2.heap.objs.size [])) { s2 with heap := s2.heap.push (newSetObj X.w) } := I2.laid (t' := s2.toks) (fun b o e => Heap.get?_push_of_some _ e) (Nat.le_refl _) new
  have sz : ∀ b ∈ fp, b < s2.heap.objs.size := fun b hb => by
    obtain ⟨o, e, _⟩ := T.obj 0 s2.heap st2 b hb
    exact Heap.lt_size e
  have f3 : ∀ b ∈ fp, FpOk X pins (upd H2 s2.heap.objs.size (XSetO X.prog X.w s2.heap.objs.size [])) b ∧ b < (s2.heap.push (newSetObj X.w)).objs.size := fun b hb => by
    have hlt := sz b hb
    refine ⟨⟨?_, (f2 b hb).2⟩, ?_⟩
    · rw [upd_ne (Nat.ne_of_lt hlt)]
      exact (f2 b hb).1
    · rw [Heap.size_push]
      exact Nat.lt_succ_of_lt hlt
  have I4 := block_start I3 ok hN f3
  have st4 : tn 0 (pushCells ((s2.heap.push (newSetObj X.w)).push { cls := .type "dict", data := .dict #[] }) scope.names) := T.keep 0 s2.heap _ st2 fun b hb o e => pushCells_keeps scope.names _ b o (Heap.get?_push_of_some _ (Heap.get?_push_of_some _ e))
  let s3 : Shared := { s2 with heap := s2.heap.push (newSetObj X.w) }
  let H3 : Hp := upd H2 s2.heap.objs.size (XSetO X.prog X.w s2.heap.objs.size [])
  let cl := cellsFrom (s3.heap.objs.size + 1) scope.names (cloFrom X.env.cells scope.names [])
  let Y : Cx := X.blk s3 H3 scope (compEnvC scope cl s3.heap.objs.size X.env) fp
  have hxe : ∀ e s, ¬ Y.xe e s := fun _ _ z => z
  have stat : ∀ {σ' H' s'}, L2.Inv Y [] σ' H' s' → (∀ b ∈ fp, H' b = none) → ∀ b ∈ fp, FpOk Y [] H' b := fun {σ' H' s'} I' hn b hb => ⟨hn b hb, (I'.ok.exf b hb).1, I'.ok.exfs b hb, .inl hb, fun x c e => (I'.ok.exf b hb).2 x c e, fun p hp => by
    have z : p ∈ ([] : List (Addr × Obj)) := hp
    exact nomatch z⟩
  have last := last_step (Y := Y) (D := s2.heap.objs.size) hxe (he s3 H3 s3.heap.objs.size cl fp)
  have mid := bk_step (Y := Y) (scope := scope) (ep := ep) (d := 1) (acc := .ref s2.heap.objs.size) (vs := vs2) (D := fun σ σ' => σ' = σ) hc hxe (gens := gens3 t0 i0 t1 i1 t2 i2) rfl (hs2 _) (hi2 s3 H3 s3.heap.objs.size cl fp) (hg2 s3 H3 s3.heap.objs.size cl fp) (fun it => turn3_2 it _ _)
    (fun it pl s σ H Nx Q E I hB hq => last pl s σ H Nx Q E _ I hB fun H' s' I' nx => hq σ H' s' I' rfl nx) (fun σ σ2 σ' hw hd => by subst hd; rw [← hw]; exact Le.wipe _ _)
  have top := bk_step (Y := Y) (scope := scope) (ep := ep) (d := 0) (acc := .ref s2.heap.objs.size) (vs := vs1) (D := fun σ σ' => σ' = wipe σ vs2) hc hxe (gens := gens3 t0 i0 t1 i1 t2 i2) rfl (hs1 _) (hi1 s3 H3 s3.heap.objs.size cl fp) (hg1 s3 H3 s3.heap.objs.size cl fp) (fun it => turn3_1 it _ _)
    (fun it pl s σ H Nx Q E I hB hq => mid pl s σ H Nx Q E _ I hB fun H' s' I' nx => hq _ H' s' I' rfl nx) (fun σ σ2 σ' hw hd => by subst hd; rw [← hw]; exact Le.wipes hv2)
  have loop : ∀ R : Result → Shared → Prop, (∀ s' H', L2.Inv Y [] (wipe σ (own.map (·.2))) H' s' → Q (.ref s2.heap.objs.size) H' → R (.ok .next) s') → codeAny (model Y.prog Y.w) Y.A (.compLoop (.SetComp elt (gens3 t0 i0 t1 i1 t2 i2) scope ep) 0 (.ref it) (.ref s2.heap.objs.size) Y.env) R _ := fun R hR =>
    loop_lvl (Y := Y) (σ0 := wipe σ (own.map (·.2))) (pins := []) (C := fun σ2 => wipe σ2 (own.map (·.2)) = wipe σ (own.map (·.2))) (B := lvlR wi1 g1 vs1 (lvlR wi2 g2 vs2 (lastR Y.prog Y.w s2.heap.objs.size te))) (tt := tYes) (W := W) (N := fun H' => Q (.ref s2.heap.objs.size) H') hc hxe (turn3_0 _ _ _) T (hg0 s3 H3 s3.heap.objs.size cl fp) pts_nil
      (fun pl2 s σ2 H Nx2 Q E I hC hB hq => top pl2 s σ2 H Nx2 Q E _ I hB fun H' s' I' nx => hq _ H' s' I' (by rw [← hC]; exact Le.wipes hv1) nx)
      (fun σ2 hC => by have z := Le.wipe σ2 (own.map (·.2)); rw [hC] at z; exact z) turn hR m0 0 H3 _ I4 st4 (stat I4 fun b hb => (f3 b hb).1.1) w0
  have fin : ∀ s6 H5, L2.Inv Y [] (wipe σ (own.map (·.2))) H5 s6 → Q (.ref s2.heap.objs.size) H5 → compPost (model X.prog X.w) X.A X.xe none (EP X pins σ Q) (.ref s2.heap.objs.size) s3.heap.objs.size (.ok .next) s6 := fun s6 H5 I6 qq => by
    have I7 : L2.Inv X pins σ H5 s6 := Inv.call' I3 I6.os I6.base I6.hok I6.bare fun b hb => ⟨(f3 b hb).1.2.2.2.1, (f3 b hb).1.2.1, (f3 b hb).1.2.2.2.2.1, (f3 b hb).1.2.2.2.2.2⟩
    have nC : H5 s3.heap.objs.size = none := I6.free
    obtain ⟨m, hn, _⟩ := I6.loc
    obtain ⟨k0, k1, k2, k3, k4, k5⟩ := Inv.fpOk I3 (Nat.le_refl _) nC
    exact ⟨m, hn, fun h'' sb => ⟨.ref s2.heap.objs.size, H5, Inv.turned I7 (fun b o hb e => (sb.2 b hb).trans e) k0 k1 k3 k4 k5, rfl, qq⟩⟩
  refine start_lvl (d := 0) (t := t0) (i := i0) (ifs := []) rfl ?_ ?_
  · exact loop _ fin
  · exact T.self _ 0 _ _ _ st4 (loop _ fin)
end
end Rw
namespace Rw
open PySem PySem.Spec PyProof.Rows L2
/-! ### the text -/
def topS (i : Nat) : Stmt := PySem.Challenge.pw_ruleworlds_k33_layers.main.body.getD i (.Pass ⟨0, 0, 0, 0⟩)
abbrev sIsName : Stmt := topS 10
abbrev sIsWorld : Stmt := topS 11
abbrev sIsRule : Stmt := topS 12
abbrev sAreNames : Stmt := topS 14
abbrev sSetOf : Stmt := topS 15
abbrev sInit : Stmt := inClass (topS 13) 0
abbrev sOf : Stmt := inClass (topS 13) 1
abbrev sRules : Stmt := inClass (topS 13) 5
theorem scIsName : FnScope ["thing", "letter"] ["thing"] (defScope sIsName) := ⟨rfl, rfl, rfl, by decide +kernel, rfl, by decide +kernel, by decide +kernel⟩
theorem scIsWorld : FnScope ["thing"] ["thing"] (defScope sIsWorld) := ⟨rfl, rfl, rfl, by decide +kernel, rfl, by decide +kernel, by decide +kernel⟩
theorem scIsRule : FnScope ["thing", "part"] ["thing"] (defScope sIsRule) := ⟨rfl, rfl, rfl, by decide +kernel, rfl, by decide +kernel, by decide +kernel⟩
theorem scAreNames : FnScope ["thing", "item"] ["thing"] (defScope sAreNames) := ⟨rfl, rfl, rfl, by decide +kernel, rfl, by decide +kernel, by decide +kernel⟩
theorem scSetOf : FnScope ["names"] ["names"] (defScope sSetOf) := ⟨rfl, rfl, rfl, by decide +kernel, rfl, by decide +kernel, by decide +kernel⟩
theorem scInit : FnScope ["self", "rules", "place", "row"] ["self", "rules"] (defScope sInit) := ⟨rfl, rfl, rfl, by decide +kernel, rfl, by decide +kernel, by decide +kernel⟩
theorem scOf : FnScope ["cls", "rules"] ["cls", "rules"] (defScope sOf) := ⟨rfl, rfl, rfl, by decide +kernel, rfl, by decide +kernel, by decide +kernel⟩
theorem scRules : FnScope ["self"] ["self"] (defScope sRules) := ⟨rfl, rfl, rfl, by decide +kernel, rfl, by decide +kernel, by decide +kernel⟩
/-- the built-in names that the text does not bind -/
structure Bl (mg : Str → Option Value) : Prop where
  len : mg "len" = none
  isi : mg "isinstance" = none
  all : mg "all" = none
  any : mg "any" = none
  tuple : mg "tuple" = none
  list : mg "list" = none
  sorted : mg "sorted" = none
  set : mg "set" = none
  str : mg "str" = none
  int : mg "int" = none
  max : mg "max" = none
  min : mg "min" = none
  range : mg "range" = none
  enum : mg "enumerate" = none
/-! ### odd values -/
def nameD : PyData → Bool
  | .str x => nameB x
  | _ => false
def oddN : PyData → Prop
  | .str x => x.cps.size ≤ 10000
  | .bool _ => False
  | .dict _ => False
  | _ => True
def tyName : PyData → String
  | .none => "NoneType"
  | .bool _ => "bool"
  | .int _ => "int"
  | .str _ => "str"
  | .list _ => "list"
  | .tuple _ => "tuple"
  | .dict _ => "dict"
theorem tyx_dp {K : PySem.W.Frag} {H : Hp} {x : V} {d : PyData} (h : Dp K H x d) : TyX K H x (.type (tyName d)) := by
  cases h with
  | non => exact .base .non
  | bl b => exact .base (.bl b)
  | int i => exact .base (.int i)
  | str x => exact .base (.str x)
  | lst h1 _ =>
    rcases h1 with (h | ⟨o, h⟩) | ⟨o, its, n, h1, h2, _⟩
    · exact .base (.lst h)
    · exact .base (.frz h)
    · exact .kList h1 h2
  | tup h1 _ => exact tyx_tup h1
section
variable {K : PySem.W.Frag} {H H' : Hp}
mutual
theorem dp_same (e : Same H H') : ∀ (d : PyData) (x : V), Dp K H x d → Dp K H' x d
  | .none, _, h => by cases h; exact .non
  | .bool _, _, h => by cases h; exact .bl _
  | .int _, _, h => by cases h; exact .int _
  | .str _, _, h => by cases h; exact .str _
  | .list ds, _, h => by
    cases h with
    | lst h1 h2 => exact .lst (e.seq h1) (dpAll_same e ds _ h2)
  | .tuple ds, _, h => by
    cases h with
    | tup h1 h2 => exact .tup (same_tup e h1) (dpAll_same e ds _ h2)
  | .dict _, _, h => by cases h
theorem dpAll_same (e : Same H H') : ∀ (ds : List PyData) (xs : List V), DpAll K H xs ds → DpAll K H' xs ds
  | [], _, h => by cases h; exact .nil
  | d :: ds, _, h => by
    cases h with
    | cons h1 h2 => exact .cons (dp_same e d _ h1) (dpAll_same e ds _ h2)
end
end
theorem letter_in {c : Nat} : decide (c ∈ lettersS.cps.toList) = letter c := by
  cases h : letter c with
  | true => exact decide_eq_true (in_letters h)
  | false =>
    refine decide_eq_false fun m => ?_
    have all : (lettersS.cps.toList.all letter) = true := by decide +kernel
    rw [List.all_eq_true.mp all c m] at h
    exact nomatch h
section
variable {P : Program} {w : World} {K : PySem.W.Frag} {mg : Str → Option Value} {base : Heap} {f : Addr} {fd : FuncData} {k : Nat}
/-! ### is_name -/
def spIsName (K : PySem.W.Frag) : Sp := fun vs H Q _ => ∃ (x : V) (d : PyData), vs = [x] ∧ Dp K H x d ∧ oddN d ∧ ∀ H', Same H H' → Q (.bl (nameD d)) H'
theorem ok_isName (F : Fun K "is_name" "is_name" sIsName f fd) (T : Bl mg) (mL : ∃ t, mg "LETTERS" = some (.str lettersS t)) : FnOk P w K mg base CX0 (k + 1) f fd ["thing"] (spIsName K) := by
  refine F.ok scIsName (fun vs H Q E h => ?_) (fun cdv A outer s H vs Q E hr h => ?_)
  · obtain ⟨x, d, rfl, _⟩ := h
    rfl
  obtain ⟨x, d, rfl, hd, odd, q⟩ := h
  obtain ⟨tl, mL⟩ := mL
  refine ⟨_, pss_cons (ps_if (PW.pt (pw_or (pt_not (pt_val (pe_callB call_isi (by rfl) T.isi PyProof.Rows.boot_isinstance (pa_cons (pv 0) (pa_cons (pe_bltn (v := .ty "str") (by rfl) T.str (by decide +kernel) rfl) pa_nil)))))
      (pw_or1 (pt_cmpR op_eq (pv 0) pe_str (nomark _))))) (pss_one (ps_ret pe_bl)) pss_nil)
    (pss_one (ps_ret (pe_and (pe_chain op_le op_le pe_int (pe_callB call_len_str (by rfl) T.len PySem.boot_len (pa_cons (pv 0) pa_nil)) pe_int)
      (pe_one (pe_callB (cr_all rfl) (by rfl) T.all (by decide +kernel) (pa_cons (pe_lc (own := [("letter", 1)]) (g := gName 1) (by rfl) scIsName.nd (pi_str (pv 0)) (blkOk_by (N := ["thing", "letter"]) (sc := defScope sIsName) (by decide +kernel))
        (fun _ _ _ _ _ => pg_name (i := 1) scIsName.nd rfl (Or.inl rfl)) (fun _ _ _ _ _ => pts_nil) (fun _ _ _ _ _ => pe_cmpR op_in_sign (pv 1) (pe_glob (v := .str lettersS) (by rfl) mL ⟨_, rfl⟩) (by rfl))) pa_nil)))))), ?_⟩
  have cases' : (∃ t : String, TyX K H x (.type t) ∧ PySem.W.kitOne K (.type t) (.type "str") = some false ∧ nameD d = false) ∨ ∃ z, d = .str z := by
    have ty := tyx_dp hd
    cases d with
    | none => exact .inl ⟨"NoneType", ty, kit_ty (by decide +kernel), rfl⟩
    | bool _ => exact absurd odd id
    | dict _ => exact absurd odd id
    | int i => exact .inl ⟨"int", ty, kit_ty (by decide +kernel), rfl⟩
    | list ds => exact .inl ⟨"list", ty, kit_ty (by decide +kernel), rfl⟩
    | tuple ds => exact .inl ⟨"tuple", ty, kit_ty (by decide +kernel), rfl⟩
    | str z => exact .inr ⟨z, rfl⟩
  rcases cases' with ⟨t, h1, h2, h3⟩ | ⟨z, rfl⟩
  · refine ⟨x, rfl, x, .ty "str", .type t, .type "str", false, rfl, .ty "str", h1, h2, false, rfl, iteT ?_⟩
    have := q H fun _ _ e => e
    rw [h3] at this
    exact this
  · cases hd
    have few : z.cps.size ≤ 10000 := odd
    refine ⟨.str z, rfl, .str z, .ty "str", .type "str", .type "str", true, rfl, .ty "str", .base (.str z), kit_ty (by decide +kernel), true, rfl, ?_⟩
    refine ⟨.str z, rfl, rfl, _, rfl, ?_⟩
    refine ite2 (fun e => ?_) (fun e => ?_)
    · have ez : z = notS := V.str.inj (of_decide_eq_true e)
      have en : nameB z = false := by
        rw [ez]
        decide +kernel
      have := q H fun _ _ e => e
      rw [show nameD (.str z) = nameB z from rfl, en] at this
      exact this
    · have nz : z ≠ notS := fun h => e (decide_eq_true (by rw [h]; rfl))
      have val : nameB z = (decide (1 ≤ z.cps.size) && (decide (z.cps.size ≤ 8) && z.cps.toList.all letter)) := by
        unfold nameB
        rw [decide_eq_false nz]
        cases z.cps.toList.all letter <;> cases decide (1 ≤ z.cps.size) <;> cases decide (z.cps.size ≤ 8) <;> rfl
      have q' : ∀ H', Same H H' → Q (.bl (decide (1 ≤ z.cps.size) && (decide (z.cps.size ≤ 8) && z.cps.toList.all letter))) H' := fun H' s => by
        have := q H' s
        rw [show nameD (.str z) = nameB z from rfl, val] at this
        exact this
      refine ⟨.str z, rfl, z, rfl, small_line few, 1, z.length, rfl, rfl, decide ((1 : Int) ≤ (z.length : Int)), rfl, ite2 (fun e1 => ?_) (fun e1 => ?_)⟩
      · have h1 : decide (1 ≤ z.cps.size) = true := by
          have := of_decide_eq_true e1
          exact decide_eq_true (by have : (1 : Int) ≤ (z.cps.size : Int) := this; omega)
        rw [h1] at q'
        refine ⟨z.length, 8, rfl, rfl, decide ((z.length : Int) ≤ 8), rfl, ite2 (fun e2 => ?_) (fun e2 => ?_)⟩
        · have h2 : decide (z.cps.size ≤ 8) = true := by
            have := of_decide_eq_true e2
            exact decide_eq_true (by have : (z.cps.size : Int) ≤ 8 := this; omega)
          rw [h2] at q'
          refine ⟨.str z, rfl, z, rfl, fun D hD => ?_⟩
          have s1 : Same H (upd H D (.lst [])) := same_new hD _
          refine lc_sgn (x := z) (fun i H1 => Same H H1 ∧ H1 D = some (.lst ((z.cps.toList.take i).map fun c => V.bl (letter c)))) ⟨s1, upd_same⟩ (fun i c H1 hc hI => ?_) (fun H1 hI => ?_)
          · obtain ⟨sm, hd⟩ := hI
            have hc' : z.cps.toList[i]? = some c := by rw [Array.getElem?_toList]; exact hc
            have il : i < z.cps.size := (Array.getElem?_eq_some_iff.mp hc).1
            refine ⟨rfl, .str ⟨#[c]⟩, rfl, c, lettersS, rfl, rfl, ?_⟩
            rw [letter_in]
            refine ⟨_, hd, small_line' (by rw [List.length_map, List.length_take, Array.length_toList]; omega), same_put sm hD, ?_⟩
            rw [upd_same, take_snoc hc', List.map_append]
            rfl
          · obtain ⟨sm, hd⟩ := hI
            rw [show z.cps.size = z.cps.toList.length by rw [Array.length_toList], List.take_length] at hd
            refine ⟨D, z.cps.toList.map letter, rfl, SqL.of (by rw [List.map_map]; exact hd), ?_⟩
            have eq : (z.cps.toList.map letter).all id = z.cps.toList.all letter := by
              rw [List.all_map]
              rfl
            rw [eq]
            exact q' H1 sm
        · have h2 : decide (z.cps.size ≤ 8) = false := decide_eq_false fun h => e2 (decide_eq_true (by show (z.cps.size : Int) ≤ 8; omega))
          rw [h2] at q'
          exact q' H fun _ _ e => e
      · have h1 : decide (1 ≤ z.cps.size) = false := decide_eq_false fun h => e1 (decide_eq_true (by show (1 : Int) ≤ (z.cps.size : Int); omega))
        rw [h1] at q'
        exact ⟨false, rfl, iteF (q' H fun _ _ e => e)⟩
end
end Rw
namespace Rw
open PySem PySem.Spec PyProof.Rows L2
/-! ### worlds of odd values -/
def strOf : PyData → Str
  | .str x => x
  | _ => notS
theorem strs_of : ∀ {ds : List PyData}, ds.all nameD = true → ds = (ds.map strOf).map PyData.str ∧ ∀ x ∈ ds.map strOf, nameB x = true
  | [], _ => ⟨rfl, fun x hx => nomatch hx⟩
  | d :: ds, h => by
    rw [List.all_cons, Bool.and_eq_true] at h
    obtain ⟨h1, h2⟩ := h
    obtain ⟨e, hn⟩ := strs_of h2
    cases d with
    | str x =>
      refine ⟨by rw [List.map_cons, List.map_cons, ← e]; rfl, fun y hy => ?_⟩
      rw [List.map_cons] at hy
      rcases List.mem_cons.mp hy with z | hy
      · rw [z]
        exact h1
      · exact hn y hy
    | _ => exact absurd h1 (by simp [nameD])
instance (ns : W) : Decidable (UpX ns) := inferInstanceAs (Decidable (ns.Pairwise fun a b => a.cps.toList < b.cps.toList))
def worldD : PyData → Bool
  | .tuple ds => ds.all nameD && decide (UpX (ds.map strOf))
  | _ => false
def oddW : PyData → Prop
  | .tuple ds => (∀ d ∈ ds, oddN d) ∧ ds.length ≤ 40
  | .bool _ => False
  | .dict _ => False
  | _ => True
theorem worldD_wd {ns : W} (h : IsW ns) : worldD (wd ns) = true := by
  unfold worldD wd
  have e1 : ((ns.map PyData.str).all nameD) = true := by
    rw [List.all_map, List.all_eq_true]
    exact fun x hx => h.names x hx
  have e2 : (ns.map PyData.str).map strOf = ns := by
    rw [List.map_map]
    exact List.map_id' ns
  show ((ns.map PyData.str).all nameD && decide (UpX ((ns.map PyData.str).map strOf))) = true
  rw [e1, e2, decide_eq_true h.up]
  rfl
theorem worldD_of {d : PyData} (o : oddW d) (h : worldD d = true) : ∃ ns, IsW ns ∧ d = wd ns := by
  cases d with
  | tuple ds =>
    have h' : (ds.all nameD && decide (UpX (ds.map strOf))) = true := h
    rw [Bool.and_eq_true] at h'
    obtain ⟨h1, h2⟩ := h'
    obtain ⟨e, hn⟩ := strs_of h1
    refine ⟨ds.map strOf, ⟨hn, of_decide_eq_true h2, by rw [List.length_map]; exact o.2⟩, ?_⟩
    unfold wd
    rw [← e]
  | _ => exact nomatch h
theorem oddN_name {x : Str} (h : nameB x = true) : oddN (.str x) := by
  obtain ⟨_, _, h3, _⟩ := nameB_iff.mp h
  show x.cps.size ≤ 10000
  omega
theorem oddW_wd {ns : W} (h : IsW ns) : oddW (wd ns) := ⟨fun d hd => by
  obtain ⟨x, hx, rfl⟩ := List.mem_map.mp hd
  exact oddN_name (h.names x hx), by rw [List.length_map]; exact h.few⟩
theorem shaped_names {ns : W} (h : ∀ x ∈ ns, nameB x = true) : SeqAt.shaped (wd ns) = true := shaped_of (lay_wd h) (by rw [depth_wd]; decide)
section
variable {P : Program} {w : World} {K : PySem.W.Frag} {mg : Str → Option Value} {base : Heap} {f : Addr} {fd : FuncData} {k : Nat}
def spAreNames (K : PySem.W.Frag) : Sp := fun vs H Q _ => ∃ (a : Addr) (xs : List V) (ds : List PyData), vs = [.ref a] ∧ SqT K H a xs ∧ DpAll K H xs ds ∧ (∀ d ∈ ds, oddN d) ∧ ds.length ≤ 1000 ∧ ∀ H', Same H H' → Q (.bl (ds.all nameD)) H'
theorem ok_areNames {f1 : Addr} {fd1 : FuncData} (F : Fun K "_are_names" "_are_names" sAreNames f fd) (T : Bl mg) (G : FnOk P w K mg base CX0 k f1 fd1 ["thing"] (spIsName K)) (b1 : Binds K fd1 ["thing"] []) (k1 : PySem.W.keepIn K (.ref f1) = true) (m1 : mg "is_name" = some (.ref f1)) :
    FnOk P w K mg base CX0 (k + 1) f fd ["thing"] (spAreNames K) := by
  refine F.ok scAreNames (fun vs H Q E h => ?_) (fun cdv A outer s H vs Q E hr h => ?_)
  · obtain ⟨a, xs, ds, rfl, _⟩ := h
    rfl
  obtain ⟨a, xs, ds, rfl, hS, hx, odd, few, q⟩ := h
  have xl := dpAll_len hx
  refine ⟨_, pss_one (ps_ret (pe_and (pe_isiTL (pv 0) (by rfl) T.isi (pa_cons (pe_bltn (v := .ty "tuple") (by rfl) T.tuple (by decide +kernel) rfl) (pa_cons (pe_bltn (v := .ty "list") (by rfl) T.list (by decide +kernel) rfl) pa_nil)))
      (pe_one (pe_callB (cr_all rfl) (by rfl) T.all (by decide +kernel) (pa_cons (pe_lc (own := [("item", 1)]) (g := gName 1) (by rfl) scAreNames.nd (pi_tup (pv 0)) (blkOk_by (N := ["thing", "item"]) (sc := defScope sAreNames) (by decide +kernel))
        (fun _ _ _ _ _ => pg_name (i := 1) scAreNames.nd rfl (Or.inl rfl)) (fun _ _ _ _ _ => pts_nil) (fun _ _ _ _ _ => pe_call G hr (by rfl) m1 k1 b1 .nil pass0 (pa_cons (pv 1) pa_nil))) pa_nil))))), ?_⟩
  refine ⟨.ref a, rfl, ⟨a, _, rfl, hS⟩, fun T0 hT => ⟨true, rfl, iteT ?_⟩⟩
  have s0 : Same H (upd H T0 (.tup [.ty "tuple", .ty "list"])) := same_new hT _
  generalize upd H T0 (.tup [.ty "tuple", .ty "list"]) = H0 at s0 ⊢
  refine ⟨.ref a, rfl, a, rfl, ⟨_, same_tup s0 hS⟩, fun D hD => ?_⟩
  have s1 : Same H0 (upd H0 D (.lst [])) := same_new hD _
  refine lc_tup (xs := xs) (fun i H1 => Same H0 H1 ∧ H1 D = some (.lst ((ds.take i).map fun d => V.bl (nameD d)))) ⟨s1, upd_same⟩ (fun i H1 _ hI => same_tup (s0.trans hI.1) hS) (fun i x H1 hxi hI => ?_) (fun H1 hI => ?_)
  · obtain ⟨sm, hd⟩ := hI
    obtain ⟨d, hdi, hxd⟩ := dpAll_at' hx hxi
    have il : i < ds.length := (List.getElem?_eq_some_iff.mp hdi).1
    refine ⟨rfl, x, rfl, x, d, rfl, dp_same (s0.trans sm) _ _ hxd, odd d (List.mem_of_getElem? hdi), fun H2 sm2 => ⟨_, sm2 _ _ hd, small_line' (by rw [List.length_map, List.length_take]; omega), same_put (sm.trans sm2) hD, ?_⟩⟩
    rw [upd_same, take_snoc hdi, List.map_append]
    rfl
  · obtain ⟨sm, hd⟩ := hI
    rw [xl, List.take_length] at hd
    refine ⟨D, ds.map nameD, rfl, SqL.of (by rw [List.map_map]; exact hd), ?_⟩
    have z : (ds.map nameD).all id = ds.all nameD := by
      rw [List.all_map]
      rfl
    rw [z]
    exact q H1 (s0.trans sm)
/-! ### _set_of -/
def spSetOf (K : PySem.W.Frag) : Sp := fun vs H Q _ => ∃ (a : Addr) (ns : W), vs = [.ref a] ∧ (SqL K H a (ns.map V.str) ∨ SqT K H a (ns.map V.str)) ∧ ns.length < 1000 ∧ ∀ (H' : Hp) (p : Addr) (zs : W), Same H H' → H' p = some (.tup (zs.map V.str)) → UpX zs → (∀ z, z ∈ zs ↔ z ∈ ns) → Q (.ref p) H'
theorem ok_setOf (F : Fun K "_set_of" "_set_of" sSetOf f fd) (T : Bl mg) : FnOk P w K mg base CX0 (k + 1) f fd ["names"] (spSetOf K) := by
  refine F.ok scSetOf (fun vs H Q E h => ?_) (fun cdv A outer s H vs Q E hr h => ?_)
  · obtain ⟨a, ns, rfl, _⟩ := h
    rfl
  obtain ⟨a, ns, rfl, hS, few, q⟩ := h
  refine ⟨_, pss_one (ps_ret (pe_callTy call_tuple_of (by rfl) T.tuple (by decide +kernel) (pa_cons (pe_callB (cr_sortX rfl hr.units) (by rfl) T.sorted (by decide +kernel) (pa_cons (pe_callTy (cr_setX rfl hr.units) (by rfl) T.set (by decide +kernel) (pa_cons (pv 0) pa_nil)) pa_nil)) pa_nil))), ?_⟩
  refine ⟨.ref a, rfl, a, ns, rfl, hS, few, fun b ms hb nd hm hl => ?_⟩
  refine ⟨b, ms, rfl, upd_same, by omega, fun zs p hz nz hlz rz hp => ?_⟩
  refine ⟨p, zs.map V.str, rfl, .inl ⟨SqL.of upd_same, fun l hl2 => ?_⟩⟩
  exact q _ l zs ((same_new hb _).trans ((same_new hp _).trans (same_new hl2 _))) upd_same (upX_of rz nz) fun z => (hz z).trans (hm z)
/-! ### is_world -/
def spIsWorld (K : PySem.W.Frag) : Sp := fun vs H Q _ => ∃ (x : V) (d : PyData), vs = [x] ∧ Dp K H x d ∧ oddW d ∧ ∀ H', Same H H' → Q (.bl (worldD d)) H'
theorem ok_isWorld {f1 f2 : Addr} {fd1 fd2 : FuncData} (F : Fun K "is_world" "is_world" sIsWorld f fd) (T : Bl mg) (G1 : FnOk P w K mg base CX0 k f1 fd1 ["thing"] (spAreNames K)) (b1 : Binds K fd1 ["thing"] []) (k1 : PySem.W.keepIn K (.ref f1) = true) (m1 : mg "_are_names" = some (.ref f1))
    (G2 : FnOk P w K mg base CX0 k f2 fd2 ["names"] (spSetOf K)) (b2 : Binds K fd2 ["names"] []) (k2 : PySem.W.keepIn K (.ref f2) = true) (m2 : mg "_set_of" = some (.ref f2)) : FnOk P w K mg base CX0 (k + 1) f fd ["thing"] (spIsWorld K) := by
  refine F.ok scIsWorld (fun vs H Q E h => ?_) (fun cdv A outer s H vs Q E hr h => ?_)
  · obtain ⟨x, d, rfl, _⟩ := h
    rfl
  obtain ⟨x, d, rfl, hx, odd, q⟩ := h
  refine ⟨_, pss_one (ps_ret (pe_and (pe_callB call_isi (by rfl) T.isi PyProof.Rows.boot_isinstance (pa_cons (pv 0) (pa_cons (pe_bltn (v := .ty "tuple") (by rfl) T.tuple (by decide +kernel) rfl) pa_nil)))
    (pe_and (pe_call G1 hr (by rfl) m1 k1 b1 .nil pass0 (pa_cons (pv 0) pa_nil)) (pe_one (pe_cmpR (op_eqD hr.units) (pv 0) (pe_call G2 hr (by rfl) m2 k2 b2 .nil pass0 (pa_cons (pv 0) pa_nil)) (nomark _)))))), ?_⟩
  have cases' : (∃ t : String, TyX K H x (.type t) ∧ PySem.W.kitOne K (.type t) (.type "tuple") = some false ∧ worldD d = false) ∨ ∃ ds, d = .tuple ds := by
    have ty := tyx_dp hx
    cases d with
    | none => exact .inl ⟨"NoneType", ty, kit_ty (by decide +kernel), rfl⟩
    | bool _ => exact absurd odd id
    | dict _ => exact absurd odd id
    | int i => exact .inl ⟨"int", ty, kit_ty (by decide +kernel), rfl⟩
    | list ds => exact .inl ⟨"list", ty, kit_ty (by decide +kernel), rfl⟩
    | str z => exact .inl ⟨"str", ty, kit_ty (by decide +kernel), rfl⟩
    | tuple ds => exact .inr ⟨ds, rfl⟩
  rcases cases' with ⟨t, h1, h2, h3⟩ | ⟨ds, rfl⟩
  · refine ⟨x, rfl, x, .ty "tuple", .type t, .type "tuple", false, rfl, .ty "tuple", h1, h2, false, rfl, iteF ?_⟩
    have := q H fun _ _ e => e
    rw [h3] at this
    exact this
  obtain ⟨o1, o2⟩ := odd
  cases hx with
  | @tup a xs _ hS hxs =>
    refine ⟨.ref a, rfl, .ref a, .ty "tuple", .type "tuple", .type "tuple", true, rfl, .ty "tuple", tyx_tup hS, kit_ty (by decide +kernel), true, rfl, iteT ?_⟩
    refine ⟨.ref a, rfl, a, xs, ds, rfl, hS, hxs, o1, by omega, fun H1 s1 => ⟨_, rfl, ?_⟩⟩
    have val : ∀ b, ds.all nameD = b → worldD (.tuple ds) = (b && decide (UpX (ds.map strOf))) := fun b e => by
      rw [← e]
      rfl
    refine ite2 (fun c => ?_) (fun c => ?_)
    · rw [val _ c] at q
      obtain ⟨e, hn⟩ := strs_of c
      have ex : xs = (ds.map strOf).map V.str := dps_str (K := K) (H := H) (by rw [← e]; exact hxs)
      rw [ex] at hS
      refine ⟨.ref a, rfl, .ref a, rfl, a, ds.map strOf, rfl, .inr (same_tup s1 hS), by rw [List.length_map]; omega, fun H2 p zs s2 hp hu hm => ?_⟩
      have hz : ∀ x ∈ zs, nameB x = true := fun x hx => hn x ((hm x).mp hx)
      refine ⟨wd (ds.map strOf), wd zs, to_wd (same_tup (s1.trans s2) hS), to_wd (SqT.of hp), shaped_names hn, shaped_names hz, ?_⟩
      rw [eqv_wd]
      have ed : decide (ds.map strOf = zs) = decide (UpX (ds.map strOf)) := by
        by_cases u : UpX (ds.map strOf)
        · rw [decide_eq_true u, decide_eq_true (upX_one u hu fun z => (hm z).symm)]
        · rw [decide_eq_false u, decide_eq_false fun z => u (by rw [z]; exact hu)]
      rw [ed]
      exact q H2 (s1.trans s2)
    · rw [val false (by simpa using c)] at q
      exact q H1 s1
/-! ### is_rule -/
def spIsRule (K : PySem.W.Frag) : Sp := fun vs H Q _ => ∃ (x : V) (r : Rl), vs = [x] ∧ Dp K H x (rd r) ∧ IsR r ∧ ∀ H', Same H H' → Q (.bl true) H'
theorem ok_isRule {f1 : Addr} {fd1 : FuncData} (F : Fun K "is_rule" "is_rule" sIsRule f fd) (T : Bl mg) (G1 : FnOk P w K mg base CX0 k f1 fd1 ["thing"] (spIsWorld K)) (b1 : Binds K fd1 ["thing"] []) (k1 : PySem.W.keepIn K (.ref f1) = true) (m1 : mg "is_world" = some (.ref f1)) :
    FnOk P w K mg base CX0 (k + 1) f fd ["thing"] (spIsRule K) := by
  refine F.ok scIsRule (fun vs H Q E h => ?_) (fun cdv A outer s H vs Q E hr h => ?_)
  · obtain ⟨x, r, rfl, _⟩ := h
    rfl
  obtain ⟨x, r, rfl, hx, hr', q⟩ := h
  refine ⟨_, pss_one (ps_ret (pe_and (pe_callB call_isi (by rfl) T.isi PyProof.Rows.boot_isinstance (pa_cons (pv 0) (pa_cons (pe_bltn (v := .ty "tuple") (by rfl) T.tuple (by decide +kernel) rfl) pa_nil)))
    (pe_and (pe_cmpR op_eq (pe_callB call_len_seq (by rfl) T.len PySem.boot_len (pa_cons (pv 0) pa_nil)) pe_int (nomark _)) (pe_one (pe_callB (cr_all rfl) (by rfl) T.all (by decide +kernel) (pa_cons (pe_lc (own := [("part", 1)]) (g := gName 1) (by rfl) scIsRule.nd (pi_tup (pv 0)) (blkOk_by (N := ["thing", "part"]) (sc := defScope sIsRule) (by decide +kernel))
        (fun _ _ _ _ _ => pg_name (i := 1) scIsRule.nd rfl (Or.inl rfl)) (fun _ _ _ _ _ => pts_nil) (fun _ _ _ _ _ => pe_call G1 hr (by rfl) m1 k1 b1 .nil pass0 (pa_cons (pv 1) pa_nil))) pa_nil)))))), ?_⟩
  unfold rd at hx
  cases hx with
  | @tup a xs _ hS hxs =>
    have xl : xs.length = 4 := by
      rw [dpAll_len hxs, List.length_map]
      rfl
    refine ⟨.ref a, rfl, .ref a, .ty "tuple", .type "tuple", .type "tuple", true, rfl, .ty "tuple", tyx_tup hS, kit_ty (by decide +kernel), true, rfl, iteT ?_⟩
    refine ⟨.ref a, rfl, a, xs, rfl, .inr hS, rfl, true, congrArg V.bl (decide_eq_true (by rw [xl]; rfl)), iteT ?_⟩
    refine ⟨.ref a, rfl, a, rfl, ⟨_, hS⟩, fun D hD => ?_⟩
    refine lc_tup (xs := xs) (fun i H1 => Same H H1 ∧ H1 D = some (.lst (List.replicate i (V.bl true)))) ⟨same_new hD _, upd_same⟩ (fun i H1 _ hI => same_tup hI.1 hS) (fun i x H1 hxi hI => ?_) (fun H1 hI => ?_)
    · obtain ⟨sm, hd⟩ := hI
      obtain ⟨d, hdi, hxd⟩ := dpAll_at' hxs hxi
      obtain ⟨t, ht, rfl⟩ := map_at hdi
      have wt := hr'.all t (List.mem_of_getElem? ht)
      have il : i < (parts r).length := (List.getElem?_eq_some_iff.mp ht).1
      have il' : i < 4 := il
      refine ⟨rfl, x, rfl, x, wd t, rfl, (Stay.same sm).wd hxd, oddW_wd wt, fun H2 sm2 => ?_⟩
      rw [worldD_wd wt]
      refine ⟨_, sm2 _ _ hd, small_line' (by rw [List.length_replicate]; omega), same_put (sm.trans sm2) hD, ?_⟩
      rw [upd_same, show List.replicate (i + 1) (V.bl true) = List.replicate i (V.bl true) ++ [V.bl true] from List.replicate_succ']
    · obtain ⟨sm, hd⟩ := hI
      refine ⟨D, List.replicate xs.length true, rfl, SqL.of (by rw [List.map_replicate]; exact hd), ?_⟩
      have z : (List.replicate xs.length true).all id = true := by simp
      rw [z]
      exact q H1 sm
end
end Rw
namespace Rw
open PySem PySem.Spec PyProof.Rows L2
/-! ### programs -/
/-- an instance of the class at C whose rules are S -/
def PgAt (K : PySem.W.Frag) (C : Addr) (H : Hp) (v : V) (S : List Rl) : Prop := ∃ a dx t ys, v = .ref a ∧ H a = some (.ins C dx [(("_rules" : Str), .ref t)]) ∧ SqT K H t ys ∧ DpAll K H ys (S.map rd)
theorem PgAt.same {K : PySem.W.Frag} {C : Addr} {H H' : Hp} {v : V} {S : List Rl} (h : PgAt K C H v S) (e : Same H H') : PgAt K C H' v S := by
  obtain ⟨a, dx, t, ys, h1, h2, h3, h4⟩ := h
  exact ⟨a, dx, t, ys, h1, e _ _ h2, same_tup e h3, dpAll_same e _ _ h4⟩
theorem mut_ins {H : Hp} {p C dx : Addr} {fs : List (Str × V)} (h : H p = some (.ins C dx fs)) : Mut (H p) := by
  rw [h]
  exact True.intro
section
variable {P : Program} {w : World} {K : PySem.W.Frag} {mg : Str → Option Value} {base : Heap} {f : Addr} {fd : FuncData} {k : Nat}
/-- Program.__init__(self, *rules) -/
def spInit (K : PySem.W.Frag) (C : Addr) : Sp := fun vs H Q _ => ∃ (x dx : Addr) (xs : List V) (L : List Rl), vs = .ref x :: xs ∧ H x = some (.ins C dx []) ∧ DpAll K H xs (L.map rd) ∧ (∀ r ∈ L, IsR r) ∧ L.length < 64 ∧
  ∀ H' S, (∀ b u, b ≠ x → H b = some u → H' b = some u) → Srt S L → S.length < 64 → PgAt K C H' (.ref x) S → Q .non H'
theorem ok_init {C f1 : Addr} {fd1 : FuncData} {name qual : Str} {kV doc pm cdv ct oc : Value} {an od : Option Addr} {osl : Array (Option Value)}
    (lk : K.lookup f = some ⟨oc, od, .func (PySem.W.fnOf name qual (defArgs sInit) (defBody sInit) (defScope sInit) .none kV doc pm an cdv ct), osl⟩) (hcd : PySem.W.codeIn K cdv qual = true) (T : Bl mg) (c : Cls K C) (n : NoAttr K C "_rules")
    (G1 : FnOk P w K mg base CX0 k f1 fd1 ["thing"] (spIsRule K)) (b1 : Binds K fd1 ["thing"] []) (k1 : PySem.W.keepIn K (.ref f1) = true) (m1 : mg "is_rule" = some (.ref f1)) : FnR P w K mg base CX0 (k + 1) f (spInit K C) := by
  have main := StX.fn_star (CX := CX0) (P := P) (w := w) (mg := mg) (base := base) (k := k) (N := ["self", "rules", "place", "row"]) (ps := ["self"]) (pv := "rules") (sp := fun vs H Q E => ∃ (x p dx : Addr) (xs : List V) (L : List Rl), vs = [.ref x, .ref p] ∧ H x = some (.ins C dx []) ∧ SqT K H p xs ∧ DpAll K H xs (L.map rd) ∧ (∀ r ∈ L, IsR r) ∧ L.length < 64 ∧
      ∀ H' S, (∀ b u, b ≠ x → H b = some u → H' b = some u) → Srt S L → S.length < 64 → PgAt K C H' (.ref x) S → Q .non H') lk hcd scInit StX.cxUp_none (StX.bind_star1 (p1 := "self") (pv := "rules") (B := fun vs => bindArgs (PySem.W.fnOf name qual (defArgs sInit) (defBody sInit) (defScope sInit) .none kV doc pm an cdv ct) { pos := vs }) (fun _ => by first | rfl | with_unfolding_all rfl) (fun _ _ _ => by first | rfl | with_unfolding_all rfl)) (fun A outer s H vs Q E hr h => ?_)
  · intro A outer s H us vs Q E hr e0 r h
    refine main A outer s H us vs Q E hr e0 r ?_
    obtain ⟨x, dx, xs, L, rfl, hx, hxs, hL, few, q⟩ := h
    refine ⟨[.ref x], xs, rfl, rfl, small_line (by rw [dpAll_len hxs, List.length_map]; omega), fun p hp => ?_⟩
    have sp := same_new hp (.tup xs)
    exact ⟨x, p, dx, xs, L, rfl, sp _ _ hx, SqT.of upd_same, dpAll_same sp _ _ hxs, hL, few, fun H' S hb hs hl hg => q H' S (fun b u nb e => hb b u nb (sp _ _ e)) hs hl hg⟩
  obtain ⟨x, p, dx, xs, L, rfl, hx, hp, hxs, hL, few, q⟩ := h
  have xl : xs.length = L.length := by rw [dpAll_len hxs, List.length_map]
  refine ⟨_, PSs.nox (pss_cons (ps_for PassesOwn.never rfl (pi_enumT (by rfl) T.enum (pa_cons (pv 1) pa_nil)) (pg_tup (by rfl) (pgs_cons (pg_name (i := 2) scInit.nd rfl (.inl rfl)) (pgs_cons (pg_name (i := 3) scInit.nd rfl (.inl rfl)) pgs_nil)))
      (pss_one (ps_if (pt_not (pt_val (pe_call G1 hr (by rfl) m1 k1 b1 .nil pass0 (pa_cons (pv 3) pa_nil)))) pss_never pss_nil)))
    (pss_one (ps_fld (pv 0) (pe_callTy call_tuple_of (by rfl) T.tuple (by decide +kernel) (pa_cons (pe_callB (cr_sortR rfl hr.units) (by rfl) T.sorted (by decide +kernel) (pa_cons (pe_callTy (cr_setR rfl hr.units) (by rfl) T.set (by decide +kernel) (pa_cons (pv 1) pa_nil)) pa_nil)) pa_nil)) rfl))), ?_⟩
  refine ⟨.ref p, rfl, p, xs, rfl, hp, for_enumT (xs := xs) (fun i σ H1 => (∃ y2 y3, σ = [some (.ref x), some (.ref p), y2, y3]) ∧ Same H H1) ⟨⟨none, none, rfl⟩, fun _ _ e => e⟩ (fun i σ H1 _ hI => same_tup hI.2 hp) (fun i v σ H1 T0 hv hI hT => ?_) (fun σ H1 hI => ?_)⟩
  · obtain ⟨⟨y2, y3, rfl⟩, sm⟩ := hI
    obtain ⟨d, hd, hvd⟩ := dpAll_at' hxs hv
    obtain ⟨r, hr', rfl⟩ := map_at hd
    have st := same_new hT (.tup [.int (i : Int), v])
    refine ⟨T0, [.int (i : Int), v], rfl, SqT.of upd_same, rfl, .int (i : Int), [v], rfl, v, [], rfl, rfl, ?_⟩
    refine ⟨v, rfl, v, r, rfl, dp_same (sm.trans st) _ _ hvd, hL r (List.mem_of_getElem? hr'), fun H2 s2 => ⟨true, rfl, iteF ⟨⟨_, _, rfl⟩, sm.trans (st.trans s2)⟩⟩⟩
  · obtain ⟨⟨y2, y3, rfl⟩, sm⟩ := hI
    refine ⟨.ref p, rfl, p, xs, L, rfl, .inr (same_tup sm hp), dpAll_same sm _ _ hxs, few, fun a M ha hM isP hall => ?_⟩
    have sa := same_new ha (TSetO w a M)
    refine ⟨a, M, L, rfl, upd_same, (fun e he => ⟨(hM e he).1, (Stay.same sa).dp _ _ (hM e he).1.ok (hM e he).2⟩), isP, hall, fun ys S l hS hSl hys hl => ?_⟩
    have sl := same_new hl (.lst ys)
    refine ⟨l, ys, rfl, .inl ⟨SqL.of upd_same, fun t ht => ?_⟩⟩
    have st := same_new ht (.tup ys)
    have all := sm.trans (sa.trans (sl.trans st))
    refine ⟨.ref x, rfl, x, C, dx, _, rfl, all _ _ hx, c, n, by show 0 < 1000; decide, ?_⟩
    have hx' := all _ _ hx
    have stp := Stay.put (mut_ins hx') (.ins C dx [(("_rules" : Str), .ref t)])
    refine q _ S (fun b u nb e => ?_) hS hSl ⟨x, dx, t, ys, rfl, upd_same, stp.seq (SqT.of upd_same), (Stay.same st |>.trans stp).dpAll _ _ (okDs_rd S) ((Stay.same sl).dpAll _ _ (okDs_rd S) hys)⟩
    rw [upd_ne nb]
    exact all _ _ e
/-- a program made: where the class is called with the rules L -/
theorem made_ok {C : Addr} {H : Hp} {xs : List V} {L : List Rl} {Q : VK} {E : XK} (hx : DpAll K H xs (L.map rd)) (hL : ∀ r ∈ L, IsR r) (few : L.length < 64) (q : ∀ H' v S, Same H H' → Srt S L → S.length < 64 → PgAt K C H' v S → Q v H') :
    ∀ x dx, H x = none → H dx = none → dx ≠ x → spInit K C (.ref x :: xs) (upd (upd H dx (.own x)) x (.ins C dx [])) (fun v H2 => v = .non ∧ Q (.ref x) H2) E := fun x dx hx0 hd0 ne => by
  have s1 := same_new hd0 (.own x)
  have hx1 : (upd H dx (.own x)) x = none := by
    rw [upd_ne ne.symm]
    exact hx0
  have s2 := s1.trans (same_new hx1 (.ins C dx []))
  refine ⟨x, dx, xs, L, rfl, upd_same, (Stay.same s2).dpAll _ _ (okDs_rd L) hx, hL, few, fun H' S hb hS hl hg => ⟨rfl, q H' _ S (fun b u e => ?_) hS hl hg⟩⟩
  exact hb b u (ne_of_none e hx0) (s2 _ _ e)
/-- Program.of(cls, rules) -/
def spOf (K : PySem.W.Frag) (C : Addr) : Sp := fun vs H Q _ => ∃ (l : Addr) (xs : List V) (L : List Rl), vs = [.ref C, .ref l] ∧ (SqT K H l xs ∨ SqL K H l xs) ∧ DpAll K H xs (L.map rd) ∧ (∀ r ∈ L, IsR r) ∧ L.length < 64 ∧ ∀ H' v S, Same H H' → Srt S L → S.length < 64 → PgAt K C H' v S → Q v H'
theorem ok_of {C f1 : Addr} (F : Fun K "of" "Program.of" sOf f fd) (M : Mk K C f1) (G : FnR P w K mg base CX0 k f1 (spInit K C)) : FnOk P w K mg base CX0 (k + 2) f fd ["cls", "rules"] (spOf K C) := by
  refine F.ok scOf (fun vs H Q E h => ?_) (fun cdv A outer s H vs Q E hr h => ?_)
  · obtain ⟨l, xs, L, rfl, _⟩ := h
    rfl
  obtain ⟨l, xs, L, rfl, hS, hx, hL, few, q⟩ := h
  refine ⟨_, pss_one (ps_ret (pe_makeSL (i := 0) M G hr rfl (.inl rfl) pass0 (pv 1))), ?_⟩
  exact ⟨rfl, .ref l, rfl, l, xs, rfl, hS, made_ok hx hL few q⟩
/-- program.rules -/
def spRules (K : PySem.W.Frag) (C : Addr) : Sp := fun vs H Q _ => ∃ (v : V) (S : List Rl), vs = [v] ∧ PgAt K C H v S ∧ ∀ t ys, SqT K H t ys → DpAll K H ys (S.map rd) → Q (.ref t) H
theorem ok_rules {C : Addr} (F : Fun K "rules" "Program.rules" sRules f fd) (c : Cls K C) (n : NoAttr K C "_rules") : FnOk P w K mg base CX0 (k + 1) f fd ["self"] (spRules K C) := by
  refine F.ok scRules (fun vs H Q E h => ?_) (fun cdv A outer s H vs Q E hr h => ?_)
  · obtain ⟨v, S, rfl, _⟩ := h
    rfl
  obtain ⟨v, S, rfl, ⟨a, dx, t, ys, rfl, h1, h2, h3⟩, q⟩ := h
  refine ⟨_, pss_one (ps_ret (pe_fld (pv 0) rfl)), ?_⟩
  exact ⟨.ref a, rfl, a, C, dx, _, .ref t, rfl, h1, c, n, rfl, q t ys h2 h3⟩
end
end Rw
namespace Rw
open PySem PySem.Spec PyProof.Rows L2
/-! ### Program.names -/
abbrev sNames : Stmt := inClass (topS 13) 6
theorem scNames : FnScope ["self", "row", "part", "name"] ["self"] (defScope sNames) := ⟨rfl, rfl, rfl, by decide +kernel, rfl, by decide +kernel, by decide +kernel⟩
/-- a walk over a tuple, the heap followed, as one level of a comprehension reads it -/
theorem lvl_tup {K : PySem.W.Frag} {a : Addr} {xs : List V} {H0 : Hp} {Qd : Hp → Prop} {B : V → Hp → (Hp → Prop) → Prop} (Pv : Nat → Hp → Prop) (h0 : Pv 0 H0) (hl : ∀ i H, i ≤ xs.length → Pv i H → SqT K H a xs) (hs : ∀ i x H, xs[i]? = some x → Pv i H → B x H (Pv (i + 1))) (hd : ∀ H, Pv xs.length H → Qd H) :
    ∃ W : Nat → Nat → Hp → Prop, (∃ m, W 0 m H0) ∧ ∀ i m H, W i m H → ((Itt K a).stop i H ∧ Qd H) ∨ ((Itt K a).go i H ∧ ∃ Nx : Hp → Prop, (∀ H', Nx H' → ∃ m', m' < m ∧ W (i + 1) m' H') ∧ ∀ x H', (Itt K a).yld i H x H' → B x H' Nx) := by
  refine ⟨fun i m H => m = xs.length - i ∧ i ≤ xs.length ∧ Pv i H, ⟨xs.length, by simp, Nat.zero_le _, h0⟩, ?_⟩
  rintro i m H ⟨rfl, hi, p⟩
  have hS := hl i H hi p
  by_cases hlt : i < xs.length
  · refine .inr ⟨⟨xs, xs[i], hS, List.getElem?_eq_getElem hlt⟩, Pv (i + 1), fun H' p' => ⟨xs.length - (i + 1), by omega, rfl, hlt, p'⟩, fun y H' yy => ?_⟩
    obtain ⟨rfl, fv⟩ := yy
    exact hs i y _ (fv xs hS) p
  · have e : i = xs.length := by omega
    subst e
    exact .inl ⟨⟨xs, hS, Nat.le_refl _⟩, hd H p⟩
/-- the names of a rule, of rules -/
def ownN (r : Rl) : W := (parts r).flatMap id
def namesL (S : List Rl) : W := S.flatMap ownN
theorem ownN_len {r : Rl} (h : IsR r) : (ownN r).length ≤ 160 := by
  unfold ownN parts
  simp only [List.flatMap_cons, List.flatMap_nil, List.length_append, List.length_nil, id]
  have := h.h.few
  have := h.d.few
  have := h.n.few
  have := h.b.few
  omega
section
variable {P : Program} {w : World} {K : PySem.W.Frag} {mg : Str → Option Value} {base : Heap} {f : Addr} {fd : FuncData} {k : Nat}
/-- the sorted names of a program whose names are among few -/
def spNames (K : PySem.W.Frag) (C : Addr) : Sp := fun vs H Q _ => ∃ (v : V) (S : List Rl) (bd : W), vs = [v] ∧ PgAt K C H v S ∧ (∀ r ∈ S, IsR r) ∧ (∀ z ∈ namesL S, z ∈ bd) ∧ bd.length ≤ 40 ∧ ∀ H' t (ns : W), Same H H' → SqT K H' t (ns.map V.str) → IsW ns → (∀ z, z ∈ ns ↔ z ∈ namesL S) → Q (.ref t) H'
theorem ok_names {C : Addr} (F : Fun K "names" "Program.names" sNames f fd) (T : Bl mg) (c : Cls K C) (n : NoAttr K C "_rules") : FnOk P w K mg base CX0 (k + 1) f fd ["self"] (spNames K C) := by
  refine F.ok scNames (fun vs H Q E h => ?_) (fun cdv A outer s H vs Q E hr h => ?_)
  · obtain ⟨v, S, bd, rfl, _⟩ := h
    rfl
  obtain ⟨v, S, bd, rfl, ⟨a, dx, t, ys, rfl, h1, h2, h3⟩, hI, hbd, b40, q⟩ := h
  refine ⟨_, pss_one (ps_ret (pe_callTy call_tuple_of (by rfl) T.tuple (by decide +kernel) (pa_cons (pe_callB (cr_sortX rfl hr.units) (by rfl) T.sorted (by decide +kernel) (pa_cons
    (pe_sc3 (own := [("row", 1), ("part", 2), ("name", 3)]) (vs1 := [2, 3]) (vs2 := [3]) (g0 := gName 1) (g1 := gName 2) (g2 := gName 3) (wi1 := iTup K (tVar 1)) (wi2 := iTup K (tVar 2)) (te := tVar 3) rfl scNames.nd (pi_tup (pe_fld (pv 0) rfl)) (blkOk_by (N := ["self", "row", "part", "name"]) (sc := defScope sNames) (by decide +kernel)) (by decide) (by decide)
      (fun _ _ _ _ _ => pg_name (i := 1) scNames.nd rfl (Or.inl rfl)) (fun _ _ _ _ _ => pi_tup (pv 1)) (fun _ _ _ _ _ => pg_name (i := 2) scNames.nd rfl (Or.inl rfl)) (fun _ _ _ _ _ => pi_tup (pv 2)) (fun _ _ _ _ _ => pg_name (i := 3) scNames.nd rfl (Or.inl rfl)) (fun _ _ _ _ _ => pv 3)) pa_nil)) pa_nil))), ?_⟩
  have yl : ys.length = S.length := by rw [dpAll_len h3, List.length_map]
  have few : ∀ ms : W, ms.Nodup → (∀ z ∈ ms, z ∈ bd) → ms.length ≤ 40 := fun ms nd h => Nat.le_trans (nodup_len_le nd h) b40
  have sb : scanBound = 4096 := rfl
  refine ⟨.ref a, rfl, a, C, dx, _, .ref t, rfl, h1, c, n, rfl, t, rfl, ⟨_, h2⟩, fun D hD => ?_⟩
  refine lvl_tup (xs := ys) (fun i H1 => Same H H1 ∧ ∃ ms : W, H1 D = some (XSetO P w D ms) ∧ ms.Nodup ∧ ∀ z, z ∈ ms ↔ z ∈ namesL (S.take i)) ⟨same_new hD _, [], upd_same, List.nodup_nil, fun z => Iff.rfl⟩ (fun i H1 _ hI => same_tup hI.1 h2) (fun i x H1 hx hI1 => ?_) (fun H1 hI1 => ?_)
  · obtain ⟨sm, ms, hm, nd, mem⟩ := hI1
    obtain ⟨dd, hdd, hxd⟩ := dpAll_at' h3 hx
    obtain ⟨r, hr0, rfl⟩ := map_at hdd
    have hrS := List.mem_of_getElem? hr0
    have hr' := hI r hrS
    have own_bd : ∀ z ∈ ownN r, z ∈ bd := fun z hz => hbd z (List.mem_flatMap.mpr ⟨r, hrS, hz⟩)
    have top_bd : ∀ z ∈ namesL (S.take i), z ∈ bd := fun z hz => by
      obtain ⟨q, hq, hz⟩ := List.mem_flatMap.mp hz
      exact hbd z (List.mem_flatMap.mpr ⟨q, List.mem_of_mem_take hq, hz⟩)
    have step : namesL (S.take (i + 1)) = namesL (S.take i) ++ ownN r := by
      unfold namesL
      rw [take_snoc hr0, List.flatMap_append]
      simp
    unfold rd at hxd
    cases hxd with
    | @tup b xs _ hT hxs =>
      have xl : xs.length = (parts r).length := by rw [dpAll_len hxs, List.length_map]
      refine ⟨rfl, .ref b, rfl, b, rfl, ⟨_, same_tup sm hT⟩, ?_⟩
      refine lvl_tup (xs := xs) (fun j H2 => Same H H2 ∧ ∃ ms : W, H2 D = some (XSetO P w D ms) ∧ ms.Nodup ∧ ∀ z, z ∈ ms ↔ z ∈ namesL (S.take i) ∨ z ∈ ((parts r).take j).flatMap id) ⟨sm, ms, hm, nd, fun z => by rw [mem z]; simp⟩ (fun j H2 _ hI => same_tup hI.1 hT) (fun j y H2 hy hI2 => ?_) (fun H2 hI2 => ?_)
      · obtain ⟨sm2, ms2, hm2, nd2, mem2⟩ := hI2
        obtain ⟨d, hdi, hyd⟩ := dpAll_at' hxs hy
        obtain ⟨p, hp, rfl⟩ := map_at hdi
        obtain ⟨u, rfl, hU⟩ := of_wd hyd
        have in_own : ∀ z ∈ ((parts r).take j).flatMap id, z ∈ ownN r := fun z hz => by
          obtain ⟨q, hq, hz⟩ := List.mem_flatMap.mp hz
          exact List.mem_flatMap.mpr ⟨q, List.mem_of_mem_take hq, hz⟩
        have p_own : ∀ z ∈ p, z ∈ ownN r := fun z hz => List.mem_flatMap.mpr ⟨p, List.mem_of_getElem? hp, hz⟩
        refine ⟨rfl, .ref u, rfl, u, rfl, ⟨_, same_tup sm2 hU⟩, ?_⟩
        refine lvl_tup (xs := p.map V.str) (fun l H3 => Same H H3 ∧ ∃ ms : W, H3 D = some (XSetO P w D ms) ∧ ms.Nodup ∧ ∀ z, z ∈ ms ↔ (z ∈ namesL (S.take i) ∨ z ∈ ((parts r).take j).flatMap id) ∨ z ∈ p.take l) ⟨sm2, ms2, hm2, nd2, fun z => by rw [mem2 z]; simp⟩ (fun l H3 _ hI => same_tup hI.1 hU) (fun l v H3 hv hI3 => ?_) (fun H3 hI3 => ?_)
        · obtain ⟨sm3, ms3, hm3, nd3, mem3⟩ := hI3
          obtain ⟨z, hz, rfl⟩ := map_at hv
          have f3 := few ms3 nd3 fun z hz => by
            rcases (mem3 z).mp hz with (h | h) | h
            · exact top_bd z h
            · exact own_bd z (in_own z h)
            · exact own_bd z (p_own z (List.mem_of_mem_take h))
          refine ⟨rfl, .str z, rfl, z, ms3, rfl, hm3, by omega, fun ms' nd' hm' _ => ⟨same_put sm3 hD, ms', upd_same, nd', fun u => ?_⟩⟩
          rw [hm' u, mem3 u, take_snoc hz, List.mem_append, List.mem_singleton]
          exact ⟨fun h => h.elim (fun e => .inr (.inr e)) fun h => h.elim .inl fun h => .inr (.inl h), fun h => h.elim (fun h => .inr (.inl h)) fun h => h.elim (fun h => .inr (.inr h)) .inl⟩
        · obtain ⟨sm3, ms3, hm3, nd3, mem3⟩ := hI3
          rw [List.length_map, List.take_length] at mem3
          refine ⟨sm3, ms3, hm3, nd3, fun z => ?_⟩
          rw [mem3 z, take_snoc hp, List.flatMap_append, List.mem_append]
          simp [or_assoc]
      · obtain ⟨sm2, ms2, hm2, nd2, mem2⟩ := hI2
        rw [xl, List.take_length] at mem2
        refine ⟨sm2, ms2, hm2, nd2, fun z => ?_⟩
        rw [mem2 z, step, List.mem_append]
        exact Iff.rfl
  · obtain ⟨sm, ms, hm, nd, mem⟩ := hI1
    rw [yl, List.take_length] at mem
    have f1 := few ms nd fun z hz => hbd z ((mem z).mp hz)
    refine ⟨D, ms, rfl, hm, by omega, fun zs L hz nz hlz rz hL => ?_⟩
    have sL := same_new hL (.lst (zs.map V.str))
    refine ⟨L, _, rfl, .inl ⟨SqL.of upd_same, fun t2 ht2 => ?_⟩⟩
    have s2 := same_new ht2 (.tup (zs.map V.str))
    have nam : ∀ z ∈ namesL S, nameB z = true := fun z hz => by
      obtain ⟨r, hr, hz⟩ := List.mem_flatMap.mp hz
      obtain ⟨p, hp, hz⟩ := List.mem_flatMap.mp hz
      exact ((hI r hr).all p hp).names z hz
    have memz : ∀ z, z ∈ zs ↔ z ∈ namesL S := fun z => (hz z).trans (mem z)
    exact q _ t2 zs (sm.trans (sL.trans s2)) (SqT.of upd_same) ⟨fun z hz => nam z ((memz z).mp hz), upX_of rz nz, by omega⟩ memz
end
end Rw
namespace Rw
open PySem PySem.Spec PyProof.Rows L2
/-! ### names in and out -/
abbrev sHasAll : Stmt := topS 22
abbrev sMeet : Stmt := topS 23
theorem scHasAll : FnScope ["names", "wanted", "name"] ["names", "wanted"] (defScope sHasAll) := ⟨rfl, rfl, rfl, by decide +kernel, rfl, by decide +kernel, by decide +kernel⟩
theorem scMeet : FnScope ["one", "other", "name"] ["one", "other"] (defScope sMeet) := ⟨rfl, rfl, rfl, by decide +kernel, rfl, by decide +kernel, by decide +kernel⟩
/-- a list or a tuple of names -/
def Ws (K : PySem.W.Frag) (H : Hp) (v : V) (ns : W) : Prop := ∃ a, v = .ref a ∧ (SqL K H a (ns.map V.str) ∨ SqT K H a (ns.map V.str))
theorem Ws.same {K : PySem.W.Frag} {H H' : Hp} {v : V} {ns : W} (h : Ws K H v ns) (e : Same H H') : Ws K H' v ns := by
  obtain ⟨a, rfl, h⟩ := h
  exact ⟨a, rfl, h.elim (fun z => .inl (e.seq z)) (fun z => .inr (same_tup e z))⟩
theorem Ws.wd {K : PySem.W.Frag} {H : Hp} {v : V} {ns : W} (h : Dp K H v (Rw.wd ns)) : Ws K H v ns := by
  obtain ⟨a, rfl, h'⟩ := of_wd h
  exact ⟨a, rfl, .inr h'⟩
def meets (ns ms : W) : Bool := ns.any fun z => decide (z ∈ ms)
def minus (ns ms : W) : W := ns.filter fun z => !decide (z ∈ ms)
def hasK (kvs : List (Key × V)) (z : Str) : Bool := (valV kvs (.inr z)).isSome
section
variable {P : Program} {w : World} {K : PySem.W.Frag} {mg : Str → Option Value} {base : Heap} {f : Addr} {fd : FuncData} {k : Nat}
def spHasAll (K : PySem.W.Frag) : Sp := fun vs H Q _ => ∃ (x y : V) (ns ms : W), vs = [x, y] ∧ Ws K H x ns ∧ Ws K H y ms ∧ ms.length ≤ 1000 ∧ ∀ H', Same H H' → Q (.bl (sub ms ns)) H'
theorem ok_hasAll (F : Fun K "has_all" "has_all" sHasAll f fd) (T : Bl mg) : FnOk P w K mg base CX0 (k + 1) f fd ["names", "wanted"] (spHasAll K) := by
  refine F.ok scHasAll (fun vs H Q E h => ?_) (fun cdv A outer s H vs Q E hr h => ?_)
  · obtain ⟨x, y, ns, ms, rfl, _⟩ := h
    rfl
  obtain ⟨x, y, ns, ms, rfl, ⟨a, rfl, hS⟩, ⟨b, rfl, hT⟩, few, q⟩ := h
  have turn : ∀ (D : Addr) (i : Nat) (z : Str) (H1 : Hp), ms[i]? = some z → H D = none → Same H H1 ∧ H1 D = some (.lst ((ms.take i).map fun z => V.bl (decide (z ∈ ns)))) → SqL K H1 a (ns.map V.str) ∨ SqT K H1 a (ns.map V.str) := fun D i z H1 _ _ ⟨sm, _⟩ => hS.elim (fun z => .inl (sm.seq z)) (fun z => .inr (same_tup sm z))
  have step : ∀ (D : Addr) (i : Nat) (z : Str) (H1 : Hp), ms[i]? = some z → H D = none → Same H H1 ∧ H1 D = some (.lst ((ms.take i).map fun z => V.bl (decide (z ∈ ns)))) → ∃ acc, H1 D = some (.lst acc) ∧ acc.length < sizeLine ∧ (Same H (upd H1 D (.lst (acc ++ [V.bl (inV (.str z) (ns.map V.str))]))) ∧ (upd H1 D (.lst (acc ++ [V.bl (inV (.str z) (ns.map V.str))]))) D = some (.lst ((ms.take (i + 1)).map fun z => V.bl (decide (z ∈ ns))))) := fun D i z H1 hz hD ⟨sm, hd⟩ => by
    refine ⟨_, hd, small_line' (by rw [List.length_map, List.length_take]; omega), same_put sm hD, ?_⟩
    rw [upd_same, take_snoc hz, List.map_append, inV_str]
    rfl
  have fin : ∀ (D : Addr) (H1 : Hp), Same H H1 → H1 D = some (.lst ((ms.take ms.length).map fun z => V.bl (decide (z ∈ ns)))) → ∃ (a : Addr) (bs : List Bool), [V.ref D] = [V.ref a] ∧ SqL K H1 a (bs.map V.bl) ∧ Q (.bl (bs.all id)) H1 := fun D H1 sm hd => by
    rw [List.take_length] at hd
    refine ⟨D, ms.map fun z => decide (z ∈ ns), rfl, SqL.of (by rw [List.map_map]; exact hd), ?_⟩
    have z : (ms.map fun z => decide (z ∈ ns)).all id = sub ms ns := by
      unfold sub
      rw [List.all_map]
      rfl
    rw [z]
    exact q H1 sm
  rcases hT with hT | hT
  · refine ⟨_, pss_one (ps_ret (pe_callB (cr_all rfl) (by rfl) T.all (by decide +kernel) (pa_cons (pe_lc (own := [("name", 2)]) (g := gName 2) (by rfl) scHasAll.nd (pi_list (pv 1)) (blkOk_by (N := ["names", "wanted", "name"]) (sc := defScope sHasAll) (by decide +kernel))
        (fun _ _ _ _ _ => pg_name (i := 2) scHasAll.nd rfl (Or.inl rfl)) (fun _ _ _ _ _ => pts_nil) (fun _ _ _ _ _ => pe_cmpR (r := rIn K false) op_in_seq (pv 2) (pv 0) (by rfl))) pa_nil))), ?_⟩
    refine ⟨.ref b, rfl, b, rfl, ⟨_, hT⟩, fun D hD => ?_⟩
    refine lc_list (xs := ms.map V.str) (fun i H1 => Same H H1 ∧ H1 D = some (.lst ((ms.take i).map fun z => V.bl (decide (z ∈ ns))))) ⟨same_new hD _, upd_same⟩ (fun i H1 _ hI => hI.1.seq hT) (fun i x H1 hx hI => ?_) (fun H1 hI => ?_)
    · obtain ⟨z, hz, rfl⟩ := map_at hx
      exact ⟨rfl, .str z, rfl, .ref a, rfl, a, ns.map V.str, rfl, turn D i z H1 hz hD hI, rfl, flat_strs ns, step D i z H1 hz hD hI⟩
    · obtain ⟨sm, hd⟩ := hI
      rw [List.length_map] at hd
      exact fin D H1 sm hd
  · refine ⟨_, pss_one (ps_ret (pe_callB (cr_all rfl) (by rfl) T.all (by decide +kernel) (pa_cons (pe_lc (own := [("name", 2)]) (g := gName 2) (by rfl) scHasAll.nd (pi_tup (pv 1)) (blkOk_by (N := ["names", "wanted", "name"]) (sc := defScope sHasAll) (by decide +kernel))
        (fun _ _ _ _ _ => pg_name (i := 2) scHasAll.nd rfl (Or.inl rfl)) (fun _ _ _ _ _ => pts_nil) (fun _ _ _ _ _ => pe_cmpR (r := rIn K false) op_in_seq (pv 2) (pv 0) (by rfl))) pa_nil))), ?_⟩
    refine ⟨.ref b, rfl, b, rfl, ⟨_, hT⟩, fun D hD => ?_⟩
    refine lc_tup (xs := ms.map V.str) (fun i H1 => Same H H1 ∧ H1 D = some (.lst ((ms.take i).map fun z => V.bl (decide (z ∈ ns))))) ⟨same_new hD _, upd_same⟩ (fun i H1 _ hI => same_tup hI.1 hT) (fun i x H1 hx hI => ?_) (fun H1 hI => ?_)
    · obtain ⟨z, hz, rfl⟩ := map_at hx
      exact ⟨rfl, .str z, rfl, .ref a, rfl, a, ns.map V.str, rfl, turn D i z H1 hz hD hI, rfl, flat_strs ns, step D i z H1 hz hD hI⟩
    · obtain ⟨sm, hd⟩ := hI
      rw [List.length_map] at hd
      exact fin D H1 sm hd
def spMeet (K : PySem.W.Frag) : Sp := fun vs H Q _ => ∃ (x y : V) (ns ms : W), vs = [x, y] ∧ Dp K H x (wd ns) ∧ Ws K H y ms ∧ ns.length ≤ 1000 ∧ ∀ H', Same H H' → Q (.bl (meets ns ms)) H'
theorem ok_meet (F : Fun K "meet" "meet" sMeet f fd) (T : Bl mg) : FnOk P w K mg base CX0 (k + 1) f fd ["one", "other"] (spMeet K) := by
  refine F.ok scMeet (fun vs H Q E h => ?_) (fun cdv A outer s H vs Q E hr h => ?_)
  · obtain ⟨x, y, ns, ms, rfl, _⟩ := h
    rfl
  obtain ⟨x, y, ns, ms, rfl, hx, ⟨b, rfl, hT⟩, few, q⟩ := h
  obtain ⟨a, rfl, hS⟩ := of_wd hx
  refine ⟨_, pss_one (ps_ret (pe_callB (cr_any rfl) (by rfl) T.any (by decide +kernel) (pa_cons (pe_lc (own := [("name", 2)]) (g := gName 2) (by rfl) scMeet.nd (pi_tup (pv 0)) (blkOk_by (N := ["one", "other", "name"]) (sc := defScope sMeet) (by decide +kernel))
        (fun _ _ _ _ _ => pg_name (i := 2) scMeet.nd rfl (Or.inl rfl)) (fun _ _ _ _ _ => pts_nil) (fun _ _ _ _ _ => pe_cmpR (r := rIn K false) op_in_seq (pv 2) (pv 1) (by rfl))) pa_nil))), ?_⟩
  refine ⟨.ref a, rfl, a, rfl, ⟨_, hS⟩, fun D hD => ?_⟩
  refine lc_tup (xs := ns.map V.str) (fun i H1 => Same H H1 ∧ H1 D = some (.lst ((ns.take i).map fun z => V.bl (decide (z ∈ ms))))) ⟨same_new hD _, upd_same⟩ (fun i H1 _ hI => same_tup hI.1 hS) (fun i x H1 hx hI => ?_) (fun H1 hI => ?_)
  · obtain ⟨sm, hd⟩ := hI
    obtain ⟨z, hz, rfl⟩ := map_at hx
    refine ⟨rfl, .str z, rfl, .ref b, rfl, b, ms.map V.str, rfl, hT.elim (fun z => .inl (sm.seq z)) (fun z => .inr (same_tup sm z)), rfl, flat_strs ms, ?_⟩
    refine ⟨_, hd, small_line' (by rw [List.length_map, List.length_take]; omega), same_put sm hD, ?_⟩
    rw [upd_same, take_snoc hz, List.map_append]
    show some (HO.lst (_ ++ [V.bl (inV (.str z) (ms.map V.str))])) = _
    rw [inV_str]
    rfl
  · obtain ⟨sm, hd⟩ := hI
    rw [List.length_map, List.take_length] at hd
    refine ⟨D, ns.map fun z => decide (z ∈ ms), rfl, SqL.of (by rw [List.map_map]; exact hd), ?_⟩
    have z : (ns.map fun z => decide (z ∈ ms)).any id = meets ns ms := by
      unfold meets
      rw [List.any_map]
      rfl
    rw [z]
    exact q H1 sm
/-! ### the same two of a dict's keys -/
def spHasAllD (K : PySem.W.Frag) : Sp := fun vs H Q _ => ∃ (a : Addr) (y : V) (kvs : List (Key × V)) (ms : W), vs = [.ref a, y] ∧ H a = some (.dK kvs) ∧ Dp K H y (wd ms) ∧ ms.length ≤ 1000 ∧ ∀ H', Same H H' → Q (.bl (ms.all (hasK kvs))) H'
theorem ok_hasAllD (F : Fun K "has_all" "has_all" sHasAll f fd) (T : Bl mg) : FnOk P w K mg base CX0 (k + 1) f fd ["names", "wanted"] (spHasAllD K) := by
  refine F.ok scHasAll (fun vs H Q E h => ?_) (fun cdv A outer s H vs Q E hr h => ?_)
  · obtain ⟨a, y, kvs, ms, rfl, _⟩ := h
    rfl
  obtain ⟨a, y, kvs, ms, rfl, hS, hy, few, q⟩ := h
  obtain ⟨b, rfl, hT⟩ := of_wd hy
  have hu := hr.units
  refine ⟨_, pss_one (ps_ret (pe_callB (cr_all rfl) (by rfl) T.all (by decide +kernel) (pa_cons (pe_lc (own := [("name", 2)]) (g := gName 2) (te := tDIn (tVar 2) (tVar 0)) (by rfl) scHasAll.nd (pi_tup (pv 1)) (blkOk_by (N := ["names", "wanted", "name"]) (sc := defScope sHasAll) (by decide +kernel))
        (fun _ _ _ _ _ => pg_name (i := 2) scHasAll.nd rfl (Or.inl rfl)) (fun _ _ _ _ _ => pts_nil) (fun _ _ _ _ _ => pe_cmp (pc_din (Nat.lt_of_le_of_lt (Nat.add_le_add_left (by decide) _) hu) (pv 2) (pv 0)) (by rfl))) pa_nil))), ?_⟩
  refine ⟨.ref b, rfl, b, rfl, ⟨_, hT⟩, fun D hD => ?_⟩
  refine lc_tup (xs := ms.map V.str) (fun i H1 => Same H H1 ∧ H1 D = some (.lst ((ms.take i).map fun z => V.bl (hasK kvs z)))) ⟨same_new hD _, upd_same⟩ (fun i H1 _ hI => same_tup hI.1 hT) (fun i x H1 hx hI => ?_) (fun H1 hI => ?_)
  · obtain ⟨sm, hd⟩ := hI
    obtain ⟨z, hz, rfl⟩ := map_at hx
    refine ⟨rfl, .str z, rfl, .ref a, rfl, a, valV kvs (.inr z), rfl, .inl ⟨kvs, .inr z, .inl (sm _ _ hS), rfl, rfl⟩, ?_⟩
    refine ⟨_, hd, small_line' (by rw [List.length_map, List.length_take]; omega), same_put sm hD, ?_⟩
    rw [upd_same, take_snoc hz, List.map_append]
    rfl
  · obtain ⟨sm, hd⟩ := hI
    rw [List.length_map, List.take_length] at hd
    refine ⟨D, ms.map fun z => hasK kvs z, rfl, SqL.of (by rw [List.map_map]; exact hd), ?_⟩
    have z : (ms.map fun z => hasK kvs z).all id = ms.all (hasK kvs) := by
      rw [List.all_map]
      rfl
    rw [z]
    exact q H1 sm
def spMeetD (K : PySem.W.Frag) : Sp := fun vs H Q _ => ∃ (x : V) (b : Addr) (ns : W) (kvs : List (Key × V)), vs = [x, .ref b] ∧ Dp K H x (wd ns) ∧ H b = some (.dK kvs) ∧ ns.length ≤ 1000 ∧ ∀ H', Same H H' → Q (.bl (ns.any (hasK kvs))) H'
theorem ok_meetD (F : Fun K "meet" "meet" sMeet f fd) (T : Bl mg) : FnOk P w K mg base CX0 (k + 1) f fd ["one", "other"] (spMeetD K) := by
  refine F.ok scMeet (fun vs H Q E h => ?_) (fun cdv A outer s H vs Q E hr h => ?_)
  · obtain ⟨x, b, ns, kvs, rfl, _⟩ := h
    rfl
  obtain ⟨x, b, ns, kvs, rfl, hx, hT, few, q⟩ := h
  obtain ⟨a, rfl, hS⟩ := of_wd hx
  have hu := hr.units
  refine ⟨_, pss_one (ps_ret (pe_callB (cr_any rfl) (by rfl) T.any (by decide +kernel) (pa_cons (pe_lc (own := [("name", 2)]) (g := gName 2) (te := tDIn (tVar 2) (tVar 1)) (by rfl) scMeet.nd (pi_tup (pv 0)) (blkOk_by (N := ["one", "other", "name"]) (sc := defScope sMeet) (by decide +kernel))
        (fun _ _ _ _ _ => pg_name (i := 2) scMeet.nd rfl (Or.inl rfl)) (fun _ _ _ _ _ => pts_nil) (fun _ _ _ _ _ => pe_cmp (pc_din (Nat.lt_of_le_of_lt (Nat.add_le_add_left (by decide) _) hu) (pv 2) (pv 1)) (by rfl))) pa_nil))), ?_⟩
  refine ⟨.ref a, rfl, a, rfl, ⟨_, hS⟩, fun D hD => ?_⟩
  refine lc_tup (xs := ns.map V.str) (fun i H1 => Same H H1 ∧ H1 D = some (.lst ((ns.take i).map fun z => V.bl (hasK kvs z)))) ⟨same_new hD _, upd_same⟩ (fun i H1 _ hI => same_tup hI.1 hS) (fun i x H1 hx hI => ?_) (fun H1 hI => ?_)
  · obtain ⟨sm, hd⟩ := hI
    obtain ⟨z, hz, rfl⟩ := map_at hx
    refine ⟨rfl, .str z, rfl, .ref b, rfl, b, valV kvs (.inr z), rfl, .inl ⟨kvs, .inr z, .inl (sm _ _ hT), rfl, rfl⟩, ?_⟩
    refine ⟨_, hd, small_line' (by rw [List.length_map, List.length_take]; omega), same_put sm hD, ?_⟩
    rw [upd_same, take_snoc hz, List.map_append]
    rfl
  · obtain ⟨sm, hd⟩ := hI
    rw [List.length_map, List.take_length] at hd
    refine ⟨D, ns.map fun z => hasK kvs z, rfl, SqL.of (by rw [List.map_map]; exact hd), ?_⟩
    have z : (ns.map fun z => hasK kvs z).any id = ns.any (hasK kvs) := by
      rw [List.any_map]
      rfl
    rw [z]
    exact q H1 sm
end
end Rw
namespace Rw
open PySem PySem.Spec PyProof.Rows L2
/-! ### without, _names_in -/
abbrev sWithout : Stmt := topS 24
abbrev sNamesIn : Stmt := topS 30
theorem scWithout : FnScope ["names", "left_out", "name"] ["names", "left_out"] (defScope sWithout) := ⟨rfl, rfl, rfl, by decide +kernel, rfl, by decide +kernel, by decide +kernel⟩
theorem scNamesIn : FnScope ["row", "part", "name"] ["row"] (defScope sNamesIn) := ⟨rfl, rfl, rfl, by decide +kernel, rfl, by decide +kernel, by decide +kernel⟩
section
variable {P : Program} {w : World} {K : PySem.W.Frag} {mg : Str → Option Value} {base : Heap} {f : Addr} {fd : FuncData} {k : Nat}
def spWithout (K : PySem.W.Frag) : Sp := fun vs H Q _ => ∃ (x y : V) (ns ms : W), vs = [x, y] ∧ Dp K H x (wd ns) ∧ Ws K H y ms ∧ ns.length ≤ 1000 ∧ ∀ H' v, Same H H' → Dp K H' v (wd (minus ns ms)) → Q v H'
theorem ok_without (F : Fun K "without" "without" sWithout f fd) (T : Bl mg) : FnOk P w K mg base CX0 (k + 1) f fd ["names", "left_out"] (spWithout K) := by
  refine F.ok scWithout (fun vs H Q E h => ?_) (fun cdv A outer s H vs Q E hr h => ?_)
  · obtain ⟨x, y, ns, ms, rfl, _⟩ := h
    rfl
  obtain ⟨x, y, ns, ms, rfl, hx, ⟨b, rfl, hT⟩, few, q⟩ := h
  obtain ⟨a, rfl, hS⟩ := of_wd hx
  refine ⟨_, pss_one (ps_ret (pe_callTy call_tuple_of (by rfl) T.tuple (by decide +kernel) (pa_cons (pe_lc (own := [("name", 2)]) (g := gName 2) (by rfl) scWithout.nd (pi_tup (pv 0)) (blkOk_by (N := ["names", "left_out", "name"]) (sc := defScope sWithout) (by decide +kernel))
        (fun _ _ _ _ _ => pg_name (i := 2) scWithout.nd rfl (Or.inl rfl)) (fun _ _ _ _ _ => pts_one (pt_cmpR (r := rIn K true) op_notIn_seq (pv 2) (pv 1) (by rfl))) (fun _ _ _ _ _ => pv 2)) pa_nil))), ?_⟩
  refine ⟨.ref a, rfl, a, rfl, ⟨_, hS⟩, fun D hD => ?_⟩
  refine lc_tup (xs := ns.map V.str) (fun i H1 => Same H H1 ∧ H1 D = some (.lst (((ns.take i).filter fun z => !decide (z ∈ ms)).map V.str))) ⟨same_new hD _, upd_same⟩ (fun i H1 _ hI => same_tup hI.1 hS) (fun i x H1 hx hI => ?_) (fun H1 hI => ?_)
  · obtain ⟨sm, hd⟩ := hI
    obtain ⟨z, hz, rfl⟩ := map_at hx
    refine ⟨rfl, .str z, rfl, .ref b, rfl, b, ms.map V.str, rfl, hT.elim (fun z => .inl (sm.seq z)) (fun z => .inr (same_tup sm z)), rfl, flat_strs ms, _, rfl, ?_⟩
    rw [inV_str]
    refine ite2 (fun e => ?_) (fun e => ?_)
    · refine ⟨.str z, rfl, _, hd, small_line' ?_, same_put sm hD, ?_⟩
      · rw [List.length_map]
        have := List.length_filter_le (fun z => !decide (z ∈ ms)) (ns.take i)
        rw [List.length_take] at this
        omega
      · rw [upd_same, filt_t hz (show (!decide (z ∈ ms)) = true by simpa using e), List.map_append]
        rfl
    · refine ⟨sm, ?_⟩
      rw [filt_f hz (show (!decide (z ∈ ms)) = false by simpa using e)]
      exact hd
  · obtain ⟨sm, hd⟩ := hI
    rw [List.length_map, List.take_length] at hd
    refine ⟨D, _, rfl, .inl ⟨SqL.of hd, fun l hl => ?_⟩⟩
    exact q _ _ (sm.trans (same_new hl _)) (to_wd (SqT.of upd_same))
end
/-- a walk over a tuple, whatever each turn does -/
theorem walk_tup {K : PySem.W.Frag} {a : Addr} {xs : List V} {H0 : Hp} {Qd : Hp → Prop} {B : V → Hp → (Hp → Prop) → Prop} (Pv : Nat → Hp → Prop) (h0 : Pv 0 H0) (hl : ∀ i H, i ≤ xs.length → Pv i H → SqT K H a xs) (hs : ∀ i x H, xs[i]? = some x → Pv i H → B x H (Pv (i + 1))) (hd : ∀ H, Pv xs.length H → Qd H) :
    ∃ W : Nat → Nat → Hp → Prop, (∃ m, W 0 m H0) ∧ ∀ i m H, W i m H → ((Itt K a).stop i H ∧ Qd H) ∨ ((Itt K a).go i H ∧ ∃ Nx : Hp → Prop, (∀ H', Nx H' → ∃ m', m' < m ∧ W (i + 1) m' H') ∧ ∀ x H', (Itt K a).yld i H x H' → B x H' Nx) := by
  refine ⟨fun i m H => m = xs.length - i ∧ i ≤ xs.length ∧ Pv i H, ⟨xs.length, by simp, Nat.zero_le _, h0⟩, ?_⟩
  rintro i m H ⟨rfl, hi, p⟩
  have hS := hl i H hi p
  by_cases hlt : i < xs.length
  · refine .inr ⟨⟨xs, xs[i], hS, List.getElem?_eq_getElem hlt⟩, Pv (i + 1), fun H' p' => ⟨xs.length - (i + 1), by omega, rfl, hlt, p'⟩, fun y H' yy => ?_⟩
    obtain ⟨rfl, fv⟩ := yy
    exact hs i y _ (fv xs hS) p
  · have e : i = xs.length := by omega
    subst e
    exact .inl ⟨⟨xs, hS, Nat.le_refl _⟩, hd H p⟩
/-- a list of names -/
def Wl (K : PySem.W.Frag) (H : Hp) (v : V) (ns : W) : Prop := ∃ a, v = .ref a ∧ H a = some (.lst (ns.map V.str))
theorem Wl.ws {K : PySem.W.Frag} {H : Hp} {v : V} {ns : W} (h : Wl K H v ns) : Ws K H v ns := by
  obtain ⟨a, e, h⟩ := h
  exact ⟨a, e, .inl (SqL.of h)⟩
/-- all names of a rule, in order, with repetition -/
def own (r : Rl) : W := (parts r).flatMap id
theorem own_mem {r : Rl} {z : Str} : z ∈ own r ↔ ∃ t ∈ parts r, z ∈ t := by
  unfold own
  rw [List.mem_flatMap]
  rfl
theorem own_len {r : Rl} (h : IsR r) : (own r).length ≤ 160 := by
  unfold own parts
  simp only [List.flatMap_cons, List.flatMap_nil, List.length_append, List.length_nil, id]
  have := h.h.few
  have := h.d.few
  have := h.n.few
  have := h.b.few
  omega
section
variable {P : Program} {w : World} {K : PySem.W.Frag} {mg : Str → Option Value} {base : Heap} {f : Addr} {fd : FuncData} {k : Nat}
def spNamesIn (K : PySem.W.Frag) : Sp := fun vs H Q _ => ∃ (x : V) (r : Rl), vs = [x] ∧ Dp K H x (rd r) ∧ IsR r ∧ ∀ H' v, Same H H' → Wl K H' v (own r) → Q v H'
theorem ok_namesIn (F : Fun K "_names_in" "_names_in" sNamesIn f fd) : FnOk P w K mg base CX0 (k + 1) f fd ["row"] (spNamesIn K) := by
  refine F.ok scNamesIn (fun vs H Q E h => ?_) (fun cdv A outer s H vs Q E hr h => ?_)
  · obtain ⟨x, r, rfl, _⟩ := h
    rfl
  obtain ⟨x, r, rfl, hx, hr', q⟩ := h
  refine ⟨_, pss_one (ps_ret (pe_lc2 (own := [("part", 1), ("name", 2)]) (vs1 := [2]) (g := gName 1) (g1 := gName 2) (wi1 := iTup K (tVar 1)) (te := tVar 2) (by rfl) scNamesIn.nd (pi_tup (pv 0)) (blkOk_by (N := ["row", "part", "name"]) (sc := defScope sNamesIn) (by decide +kernel)) (by decide)
    (fun _ _ _ _ _ => pg_name (i := 1) scNamesIn.nd rfl (Or.inl rfl)) (fun _ _ _ _ _ => pts_nil) (fun _ _ _ _ _ => pi_tup (pv 1)) (fun _ _ _ _ _ => pg_name (i := 2) scNamesIn.nd rfl (Or.inl rfl)) (fun _ _ _ _ _ => pts_nil) (fun _ _ _ _ _ => pv 2))), ?_⟩
  have lim := own_len hr'
  unfold rd at hx
  cases hx with
  | @tup a xs _ hS hxs =>
    have xl : xs.length = (parts r).length := by rw [dpAll_len hxs, List.length_map]
    refine ⟨.ref a, rfl, a, rfl, ⟨_, hS⟩, fun D hD => ?_⟩
    refine walk_tup (xs := xs) (fun i H1 => Same H H1 ∧ H1 D = some (.lst ((((parts r).take i).flatMap id).map V.str))) ⟨same_new hD _, upd_same⟩ (fun i H1 _ hI => same_tup hI.1 hS) (fun i x H1 hxi hI => ?_) (fun H1 hI => ?_)
    · obtain ⟨sm, hd⟩ := hI
      obtain ⟨d, hdi, hxd⟩ := dpAll_at' hxs hxi
      obtain ⟨t, ht, rfl⟩ := map_at hdi
      obtain ⟨b, rfl, hb⟩ := of_wd hxd
      refine ⟨rfl, .ref b, rfl, b, rfl, ⟨_, same_tup sm hb⟩, ?_⟩
      refine walk_tup (xs := t.map V.str) (fun j H2 => Same H H2 ∧ H2 D = some (.lst ((((parts r).take i).flatMap id ++ t.take j).map V.str))) ⟨sm, by rw [List.take_zero, List.append_nil]; exact hd⟩ (fun j H2 _ hI => same_tup hI.1 hb) (fun j y H2 hy hI => ?_) (fun H2 hI => ?_)
      · obtain ⟨sm2, hd2⟩ := hI
        obtain ⟨z, hz, rfl⟩ := map_at hy
        refine ⟨rfl, .str z, rfl, _, hd2, small_line' ?_, same_put sm2 hD, ?_⟩
        · have e1 : (((parts r).take i).flatMap id).length + t.length ≤ (own r).length := by
            have e2 : own r = ((parts r).take i).flatMap id ++ ((parts r).drop i).flatMap id := by
              unfold own
              rw [← List.flatMap_append, List.take_append_drop]
            have e3 : (parts r).drop i = t :: (parts r).drop (i + 1) := by
              obtain ⟨hi, ei⟩ := List.getElem?_eq_some_iff.mp ht
              rw [← ei]
              exact List.drop_eq_getElem_cons hi
            rw [e2, e3, List.flatMap_cons, List.length_append, List.length_append]
            show _ + t.length ≤ _ + (t.length + _)
            omega
          rw [List.length_map, List.length_append, List.length_take]
          omega
        · rw [upd_same, take_snoc hz, ← List.append_assoc, List.map_append (f := V.str) (l₂ := [z])]
          rfl
      · obtain ⟨sm2, hd2⟩ := hI
        refine ⟨sm2, ?_⟩
        rw [List.length_map, List.take_length] at hd2
        rw [take_snoc ht, List.flatMap_append]
        have e : List.flatMap id [t] = t := by simp
        rw [e]
        exact hd2
    · obtain ⟨sm, hd⟩ := hI
      rw [xl, List.take_length] at hd
      exact q H1 _ sm ⟨D, rfl, hd⟩
end
end Rw
namespace Rw
open PySem PySem.Spec PyProof.Rows L2
abbrev sENotProg : Stmt := inClass (topS 4) 0
abbrev sEWorld : Stmt := inClass (topS 5) 0
theorem scENotProg : FnScope ["self", "thing"] ["self", "thing"] (defScope sENotProg) := ⟨rfl, rfl, rfl, by decide +kernel, rfl, by decide +kernel, by decide +kernel⟩
theorem scEWorld : FnScope ["self", "thing"] ["self", "thing"] (defScope sEWorld) := ⟨rfl, rfl, rfl, by decide +kernel, rfl, by decide +kernel, by decide +kernel⟩
section
variable {P : Program} {w : World} {K : PySem.W.Frag} {mg : Str → Option Value} {base : Heap} {f : Addr} {fd : FuncData} {k : Nat}
theorem ok_eNotProg {C : Addr} (F : FunD K "__init__" "NotAProgram.__init__" (defArgs sENotProg) (defBody sENotProg) (defScope sENotProg) [.non] [] f fd) (O : OexC K C) (no : PySem.W.findIn K (.ref C) "thing" = some none) : FnOk P w K mg base CX0 (k + 1) f fd ["self", "thing"] (spErr C "thing") := by
  refine F.ok scENotProg (fun vs H Q E h => ?_) (fun cdv A outer s H vs Q E hr h => ?_)
  · obtain ⟨a, v, rfl, _⟩ := h
    rfl
  obtain ⟨a, v, rfl, ha, q⟩ := h
  exact ⟨_, PSs.nox (pss_one (ps_ost (pv 0) (pv 1))), v, rfl, .ref a, rfl, a, C, rfl, O, no, .inl ⟨ha, fun dx h1 h2 => q dx h1 h2⟩⟩
theorem ok_eWorld {C : Addr} (F : FunD K "__init__" "InvalidWorld.__init__" (defArgs sEWorld) (defBody sEWorld) (defScope sEWorld) [.non] [] f fd) (O : OexC K C) (no : PySem.W.findIn K (.ref C) "thing" = some none) : FnOk P w K mg base CX0 (k + 1) f fd ["self", "thing"] (spErr C "thing") := by
  refine F.ok scEWorld (fun vs H Q E h => ?_) (fun cdv A outer s H vs Q E hr h => ?_)
  · obtain ⟨a, v, rfl, _⟩ := h
    rfl
  obtain ⟨a, v, rfl, ha, q⟩ := h
  exact ⟨_, PSs.nox (pss_one (ps_ost (pv 0) (pv 1))), v, rfl, .ref a, rfl, a, C, rfl, O, no, .inl ⟨ha, fun dx h1 h2 => q dx h1 h2⟩⟩
end
/-! ### refusals -/
abbrev sCheckProgram : Stmt := topS 25
abbrev sCheckWorld : Stmt := topS 26
theorem scCheckProgram : FnScope ["thing"] ["thing"] (defScope sCheckProgram) := ⟨rfl, rfl, rfl, by decide +kernel, rfl, by decide +kernel, by decide +kernel⟩
theorem scCheckWorld : FnScope ["thing"] ["thing"] (defScope sCheckWorld) := ⟨rfl, rfl, rfl, by decide +kernel, rfl, by decide +kernel, by decide +kernel⟩
/-- what the text's own error class with one field is -/
structure ErrT (P : Program) (w : World) (K : PySem.W.Frag) (mg : Str → Option Value) (base : Heap) (k : Nat) (x : Str) (n : Str) (C : Addr) : Prop where
  oex : OexC K C
  ex : ∃ (fI : Addr) (fd : FuncData), PySem.W.findIn K (.ref C) "__init__" = some (some (.ref fI)) ∧ PySem.W.typeIn K (.ref fI) = some (.type "function") ∧ FnOk P w K mg base CX0 k fI fd ["self", n] (spErr C n) ∧ Binds K fd ["self", n] []
  m : mg x = some (.ref C)
/-- what a program's class says of what is no program -/
structure PgC (K : PySem.W.Frag) (mg : Str → Option Value) (C : Addr) : Prop where
  yes : PySem.W.kitOne K (.ref C) (.ref C) = some true
  non : PySem.W.kitOne K (.type "NoneType") (.ref C) = some false
  bool : PySem.W.kitOne K (.type "bool") (.ref C) = some false
  int : PySem.W.kitOne K (.type "int") (.ref C) = some false
  str : PySem.W.kitOne K (.type "str") (.ref C) = some false
  list : PySem.W.kitOne K (.type "list") (.ref C) = some false
  tuple : PySem.W.kitOne K (.type "tuple") (.ref C) = some false
  dict : PySem.W.kitOne K (.type "dict") (.ref C) = some false
  m : mg "Program" = some (.ref C)
  cls : Cls K C
  cg : PySem.W.findIn K (.ref C) "__class__" = some (some (.builtin "object.__class__"))
  sp : PySem.W.specialIn K (.builtin "object.__class__") "__get__" = some (some (.builtin "getset_descriptor.__get__"))
  tk : PySem.W.takesIn K (.builtin "object.__class__") = some true
  mro : PySem.W.mroIn K C (.type "object") = some true
section
variable {P : Program} {w : World} {K : PySem.W.Frag} {mg : Str → Option Value} {base : Heap} {f : Addr} {fd : FuncData} {k : Nat}
theorem PgC.odd {C : Addr} (T : PgC K mg C) : ∀ d : PyData, PySem.W.kitOne K (.type (tyName d)) (.ref C) = some false
  | .none => T.non
  | .bool _ => T.bool
  | .int _ => T.int
  | .str _ => T.str
  | .list _ => T.list
  | .tuple _ => T.tuple
  | .dict _ => T.dict
def spCheckProgram (K : PySem.W.Frag) (C CE : Addr) : Sp := fun vs H Q E => ∃ v : V, vs = [v] ∧ ((∃ S, PgAt K C H v S ∧ Q .non H) ∨ (∃ d, Dp K H v d ∧ ∀ dx, H dx = none → E (.ref CE) (some dx) (upd H dx (.xd [(("thing" : Str), v)]))))
theorem ok_checkProgram {C CE : Addr} (F : Fun K "check_program" "check_program" sCheckProgram f fd) (T : Bl mg) (G : PgC K mg C) (X : ErrT P w K mg base k "NotAProgram" "thing" CE) : FnOk P w K mg base (L2.CX P w) (k + 2) f fd ["thing"] (spCheckProgram K C CE) := by
  obtain ⟨fI, fdI, i1, i2, i3, i4⟩ := X.ex
  refine F.okX scCheckProgram (fun vs H Q E h => ?_) (fun cdv A outer s H vs Q E hr h => ?_)
  · obtain ⟨v, rfl, _⟩ := h
    rfl
  obtain ⟨v, rfl, h⟩ := h
  refine ⟨_, pss_one (ps_if (pt_not (pt_val (pe_callB call_isi (by rfl) T.isi PyProof.Rows.boot_isinstance (pa_cons (pv 0) (pa_cons (pe_glob (v := .ref C) (by rfl) G.m rfl) pa_nil)))))
    (pss_one (ps_raise rfl (takes_of rfl rfl rfl rfl) (pmk_oex X.oex i1 i2 i3 hr i4 .nil pass0 (by rfl) X.m (pa_cons (pv 0) pa_nil)))) pss_nil), ?_⟩
  rcases h with ⟨S, hS, q⟩ | ⟨d, hd, q⟩
  · obtain ⟨a, dx, t, ys, rfl, h1, h2, h3⟩ := hS
    exact ⟨.ref a, rfl, .ref a, .ref C, .ref C, .ref C, true, rfl, .own C, .base (.ins h1 G.cls G.cg G.sp G.tk G.mro), G.yes, true, rfl, iteF q⟩
  · exact ⟨v, rfl, v, .ref C, .type (tyName d), .ref C, false, rfl, .own C, tyx_dp hd, G.odd d, false, rfl, iteT ⟨v, rfl, err_made q⟩⟩
def spCheckWorld (K : PySem.W.Frag) (CE : Addr) : Sp := fun vs H Q E => ∃ (v : V) (d : PyData), vs = [v] ∧ Dp K H v d ∧ oddW d ∧ ∀ H', Same H H' → (worldD d = true → Q .non H') ∧ (worldD d = false → ∀ dx, H' dx = none → E (.ref CE) (some dx) (upd H' dx (.xd [(("thing" : Str), v)])))
theorem ok_checkWorld {f1 CE : Addr} {fd1 : FuncData} (F : Fun K "check_world" "check_world" sCheckWorld f fd) (G1 : FnOk P w K mg base CX0 (k + 1) f1 fd1 ["thing"] (spIsWorld K)) (b1 : Binds K fd1 ["thing"] []) (k1 : PySem.W.keepIn K (.ref f1) = true) (m1 : mg "is_world" = some (.ref f1)) (X : ErrT P w K mg base k "InvalidWorld" "thing" CE) :
    FnOk P w K mg base (L2.CX P w) (k + 2) f fd ["thing"] (spCheckWorld K CE) := by
  obtain ⟨fI, fdI, i1, i2, i3, i4⟩ := X.ex
  refine F.okX scCheckWorld (fun vs H Q E h => ?_) (fun cdv A outer s H vs Q E hr h => ?_)
  · obtain ⟨v, d, rfl, _⟩ := h
    rfl
  obtain ⟨v, d, rfl, hd, odd, q⟩ := h
  refine ⟨_, pss_one (ps_if (pt_not (pt_val (pe_call G1 hr (by rfl) m1 k1 b1 .nil pass0 (pa_cons (pv 0) pa_nil))))
    (pss_one (ps_raise rfl (takes_of rfl rfl rfl rfl) (pmk_oex X.oex i1 i2 i3 hr i4 .nil pass0 (by rfl) X.m (pa_cons (pv 0) pa_nil)))) pss_nil), ?_⟩
  refine ⟨v, rfl, v, d, rfl, hd, odd, fun H1 s1 => ⟨_, rfl, ?_⟩⟩
  cases e : worldD d with
  | true => exact iteF ((q H1 s1).1 e)
  | false => exact iteT ⟨v, rfl, err_made ((q H1 s1).2 e)⟩
end
end Rw
namespace Rw
open PySem PySem.Spec PyProof.Rows L2
/-! ### splits, _check_split -/
abbrev sSplits : Stmt := topS 28
theorem scSplits : FnScope ["program", "names", "row"] ["program", "names"] (defScope sSplits) := ⟨rfl, rfl, rfl, by decide +kernel, rfl, by decide +kernel, by decide +kernel⟩
def splitR (r : Rl) (ns : W) : Bool := !(meets r.1 ns) || sub (own r) ns
def splitsB (S : List Rl) (ns : W) : Bool := S.all fun r => splitR r ns
theorem all_take {α : Type} {p : α → Bool} {S : List α} {i : Nat} {r : α} (hr : S[i]? = some r) (h : (S.take i).all p = true) (b : p r = true) : (S.take (i + 1)).all p = true := by
  rw [take_snoc hr, List.all_append, h]
  simp [b]
theorem all_no {α : Type} {p : α → Bool} {S : List α} {i : Nat} {r : α} (hr : S[i]? = some r) (b : p r = false) : S.all p = false := by
  rw [List.all_eq_false]
  exact ⟨r, List.mem_of_getElem? hr, by simp [b]⟩
section
variable {P : Program} {w : World} {K : PySem.W.Frag} {mg : Str → Option Value} {base : Heap} {f : Addr} {fd : FuncData} {k : Nat}
def spSplits (K : PySem.W.Frag) (C CP CW : Addr) : Sp := fun vs H Q E => ∃ v nm : V, vs = [v, nm] ∧ ((∃ (S : List Rl) (d : PyData), PgAt K C H v S ∧ (∀ r ∈ S, IsR r) ∧ S.length < 64 ∧ Dp K H nm d ∧ oddW d ∧ ∀ H', Same H H' → (∀ ns, IsW ns → d = wd ns → Q (.bl (splitsB S ns)) H') ∧ (worldD d = false → ∀ dx, H' dx = none → E (.ref CW) (some dx) (upd H' dx (.xd [(("thing" : Str), nm)])))) ∨
  (∃ d, Dp K H v d ∧ ∀ dx, H dx = none → E (.ref CP) (some dx) (upd H dx (.xd [(("thing" : Str), v)]))))
theorem ok_splits {C CP CW pr f1 f2 f3 f4 f5 f6 : Addr} {fd1 fd2 fd3 fd4 fd5 fd6 : FuncData} (F : Fun K "splits" "splits" sSplits f fd) (c : Cls K C) (hp : PropOf K C "rules" pr f3)
    (G1 : FnOk P w K mg base (L2.CX P w) (k + 1) f1 fd1 ["thing"] (spCheckProgram K C CP)) (b1 : Binds K fd1 ["thing"] []) (k1 : PySem.W.keepIn K (.ref f1) = true) (m1 : mg "check_program" = some (.ref f1))
    (G2 : FnOk P w K mg base (L2.CX P w) (k + 1) f2 fd2 ["thing"] (spCheckWorld K CW)) (b2 : Binds K fd2 ["thing"] []) (k2 : PySem.W.keepIn K (.ref f2) = true) (m2 : mg "check_world" = some (.ref f2))
    (G3 : FnOk P w K mg base CX0 k f3 fd3 ["self"] (spRules K C)) (b3 : Binds K fd3 ["self"] [])
    (G4 : FnOk P w K mg base CX0 (k + 1) f4 fd4 ["one", "other"] (spMeet K)) (b4 : Binds K fd4 ["one", "other"] []) (k4 : PySem.W.keepIn K (.ref f4) = true) (m4 : mg "meet" = some (.ref f4))
    (G5 : FnOk P w K mg base CX0 (k + 1) f5 fd5 ["names", "wanted"] (spHasAll K)) (b5 : Binds K fd5 ["names", "wanted"] []) (k5 : PySem.W.keepIn K (.ref f5) = true) (m5 : mg "has_all" = some (.ref f5))
    (G6 : FnOk P w K mg base CX0 (k + 1) f6 fd6 ["row"] (spNamesIn K)) (b6 : Binds K fd6 ["row"] []) (k6 : PySem.W.keepIn K (.ref f6) = true) (m6 : mg "_names_in" = some (.ref f6)) :
    FnOk P w K mg base (L2.CX P w) (k + 2) f fd ["program", "names"] (spSplits K C CP CW) := by
  refine F.okX scSplits (fun vs H Q E h => ?_) (fun cdv A outer s H vs Q E hr h => ?_)
  · obtain ⟨v, nm, rfl, _⟩ := h
    rfl
  obtain ⟨v, nm, rfl, h⟩ := h
  refine ⟨_, pss_cons (ps_expr (pe_call G1 hr (by rfl) m1 k1 b1 .nil (passes_call (takes_of rfl rfl rfl rfl) (fun _ _ _ _ h => h)) (pa_cons (pv 0) pa_nil)))
    (pss_cons (ps_expr (pe_call G2 hr (by rfl) m2 k2 b2 .nil (passes_call (takes_of rfl rfl rfl rfl) (fun _ _ _ _ h => h)) (pa_cons (pv 1) pa_nil)))
    (pss_cons (ps_for (passes_of rfl) rfl (pi_tup (pe_prop (pv 0) c hp G3 hr b3 .nil pass0 rfl)) (pg_name (i := 2) scSplits.nd rfl (.inl rfl))
      (pss_one (ps_if (PW.pt (pw_and (pt_val (pe_call G4 hr (by rfl) m4 k4 b4 .nil pass0 (pa_cons (pe_ix ix_tup (pv 2) pe_int (fun _ _ => rfl)) (pa_cons (pv 1) pa_nil)))) (pw_and1 (pt_not (pt_val (pe_call G5 hr (by rfl) m5 k5 b5 .nil pass0 (pa_cons (pv 1) (pa_cons (pe_call G6 hr (by rfl) m6 k6 b6 .nil pass0 (pa_cons (pv 2) pa_nil)) pa_nil))))))))
        (pss_one (ps_ret pe_bl)) pss_nil)))
    (pss_one (ps_ret pe_bl)))), ?_⟩
  rcases h with ⟨S, d, hS, hI, few, hd, odd, q⟩ | ⟨d, hd, q⟩
  · refine ⟨v, rfl, v, rfl, .inl ⟨S, hS, ?_⟩⟩
    refine ⟨nm, rfl, nm, d, rfl, hd, odd, fun H1 s1 => ⟨fun e => ?_, (q H1 s1).2⟩⟩
    obtain ⟨ns, hn, rfl⟩ := worldD_of odd e
    have hS1 := hS.same s1
    obtain ⟨a, dx, t0, ys0, rfl, i1, i2, i3⟩ := id hS1
    refine ⟨.ref a, rfl, a, dx, _, rfl, i1, .ref a, S, rfl, hS1, fun t ys ht hys => ?_⟩
    have yl : ys.length = S.length := by rw [dpAll_len hys, List.length_map]
    refine ⟨t, rfl, ⟨_, ht⟩, ?_⟩
    refine for_tup (xs := ys) (fun i σ H2 => (∃ y2, σ = [some (.ref a), some nm, y2]) ∧ Same H1 H2 ∧ (S.take i).all (fun r => splitR r ns) = true) ⟨⟨none, rfl⟩, fun _ _ e => e, rfl⟩ (fun i σ H2 _ hI2 => same_tup hI2.2.1 ht) (fun i x σ H2 hx hI2 => ?_) (fun σ H2 hI2 => ?_)
    · obtain ⟨⟨y2, rfl⟩, sm, hall⟩ := hI2
      obtain ⟨dd, hdd, hxd⟩ := dpAll_at' hys hx
      obtain ⟨r, hr0, rfl⟩ := map_at hdd
      have hr' := hI r (List.mem_of_getElem? hr0)
      have hxd2 := dp_same sm _ _ hxd
      obtain ⟨b, v1, v2, v3, v4, rfl, hT, h1, _⟩ := of_rd hxd2
      refine ⟨.ref b, rfl, b, [v1, v2, v3, v4], 0, v1, rfl, rfl, hT, rfl, ?_⟩
      have hn2 := dp_same (s1.trans sm) _ _ hd
      have f1' := hr'.h.few
      refine ⟨nm, rfl, v1, nm, r.1, ns, rfl, h1, .wd hn2, by omega, fun H3 s3 => ⟨_, rfl, ite2 (fun e1 => ?_) (fun e1 => ?_)⟩⟩
      · have lim := own_len hr'
        refine ⟨nm, rfl, .ref b, rfl, .ref b, r, rfl, dp_same s3 _ _ hxd2, hr', fun H4 v5 s4 h5 => ?_⟩
        refine ⟨nm, v5, ns, own r, rfl, .wd (dp_same (s3.trans s4) _ _ hn2), h5.ws, by omega, fun H5 s5 => ⟨_, rfl, ?_⟩⟩
        have all5 := s3.trans (s4.trans s5)
        cases e2 : sub (own r) ns with
        | true => exact iteF ⟨⟨_, rfl⟩, sm.trans all5, all_take hr0 hall (by show (!(meets r.1 ns) || sub (own r) ns) = true; rw [e2, Bool.or_true])⟩
        | false =>
          refine iteT ?_
          have z := (q H5 (s1.trans (sm.trans all5))).1 ns hn rfl
          rw [show splitsB S ns = false from all_no hr0 (by show (!(meets r.1 ns) || sub (own r) ns) = false; rw [e1, e2]; rfl)] at z
          exact z
      · have e1' : meets r.1 ns = false := by simpa using e1
        exact iteF ⟨⟨_, rfl⟩, sm.trans s3, all_take hr0 hall (by show (!(meets r.1 ns) || sub (own r) ns) = true; rw [e1']; rfl)⟩
    · obtain ⟨_, sm, hall⟩ := hI2
      rw [yl, List.take_length] at hall
      have z := (q H2 (s1.trans sm)).1 ns hn rfl
      rw [show splitsB S ns = true from hall] at z
      exact z
  · exact ⟨v, rfl, v, rfl, .inr ⟨d, hd, q⟩⟩
end
end Rw
namespace Rw
open PySem PySem.Spec PyProof.Rows L2
/-! ### {**a, **b} of dicts whose keys are ints and texts -/
section
variable {prog : Program} {w : World} {A : Around} {E : Value → Shared → Prop} {s : Shared}
theorem key_noref {k : Key} {v : Value} (h : (mixKind prog w).is k v = true) : ∀ b, v ≠ .ref b := fun b e => by
  subst e
  cases k <;> exact absurd h Bool.false_ne_true
theorem wpAny_dictPut {K : Type} [DecidableEq K] {knd : KeyKind prog w K} {d : Addr} {kvs : List (K × Value)} {k : K} {key v : Value} {Q : Unit → Shared → Prop} (hkey : knd.is k key = true) (hm : s.heap.DictOf knd d kvs)
    (hQ : ∀ h', h'.DictOf knd d (stored kvs k v) → Heap.SameBut d s.heap h' → Q () { s with heap := h' })
    (hsz : kvs.length ≤ sizeLine) :
    wpAny (model prog w) A (dictPut d (knd.hash k) key v) Q E s := by
  obtain ⟨o, es, ep, ho, hc, hd, hk, hp, hn⟩ := hm
  have hes : es.size ≤ sizeLine := by have e1 := hp.length; have e2 : es.toList.length = es.size := by simp
                                      omega
  unfold dictPut
  refine wpAny_bind (wpAny_dictFind_of hkey ho hd hk ?_)
  have hidx : (es.findIdx? fun e => knd.is k e.key) = kvs.findIdx? fun kv => decide (kv.1 = k) := by
    rw [← hp.findIdx k]; obtain ⟨l⟩ := es; simp
  cases hi : es.findIdx? fun e => knd.is k e.key with
  | some i =>
    refine wpAny_updateDict ho hd (hQ _ ⟨_, _, ep, Heap.get?_update_self _ ho (Obj.isFreed_of_dict (Obj.data_mapDict hd _)),
      hc.mapDict _, Obj.data_mapDict hd _, hk.modify _ _, ?_, ?_⟩ (Heap.SameBut.update ..))
    · rw [stored, if_pos (any_of_findIdx_some (hidx ▸ hi))]
      have hl : (es.toList.findIdx? fun e => knd.is k e.key) = some i := by rw [← hi]; obtain ⟨l⟩ := es; simp
      have := hp.modify hn hl v
      obtain ⟨l⟩ := es
      simpa using this
    · rw [stored, if_pos (any_of_findIdx_some (hidx ▸ hi)), keys_map_store]; exact hn
  | none =>
    have hnot : k ∉ kvs.map (·.1) := not_mem_of_findIdx_none (hidx ▸ hi)
    have hany : ¬ (kvs.any fun kv => decide (kv.1 = k)) = true := by
      rw [List.any_eq_true]; rintro ⟨kv, hkv, he⟩
      exact hnot (List.mem_map.mpr ⟨kv, hkv, of_decide_eq_true he⟩)
    refine wpAny_updateDictKeys (hz := hes) ho hd (hQ _ ⟨_, _, ep + 1, Heap.get?_update_self _ ho (Obj.isFreed_of_dict (Obj.data_mapDictKeys hd _)),
      hc.mapDictKeys _, Obj.data_mapDictKeys hd _, hk.push hkey _, ?_, ?_⟩ (Heap.SameBut.update ..))
    · rw [stored, if_neg hany]
      have := hp.append hkey (knd.hash k) v
      obtain ⟨l⟩ := es
      simpa using this
    · rw [stored, if_neg hany, List.map_append, List.nodup_append]
      refine ⟨hn, by simp, ?_⟩
      intro a ha b hb
      simp only [List.map_cons, List.map_nil, List.mem_singleton] at hb
      subst hb
      exact fun e => hnot (e ▸ ha)
theorem wpAny_mergeMapping {d o : Addr} {kvs more : List (Key × Value)} {Q : Unit → Shared → Prop} (hdo : d ≠ o) (hoS : (o == sysModules) = false)
    (hd : s.heap.DictOf (mixKind prog w) d kvs) (ho : s.heap.DictOf (mixKind prog w) o more)
    (hQ : ∀ h', h'.DictOf (mixKind prog w) d (merged kvs more) → Heap.SameBut d s.heap h' → Q () { s with heap := h' })
    (hsz : kvs.length + more.length ≤ sizeLine) :
    wpAny (model prog w) A (mergeMapping d (.ref o) false) Q E s := by
  obtain ⟨od, esd, epd, hod, hcd, hdd, hkd, hpd, hnd⟩ := id hd
  obtain ⟨oo, eso, epo, hoo, hco, hdo', hko, hpo, hno⟩ := id ho
  have hlen : more.length = eso.size := by rw [← hpo.length]; simp
  unfold mergeMapping
  refine wpAny_bind (wpAny_isInstance ho.typeIs isSubtype_dict_dict ?_)
  rw [if_pos rfl]
  refine wpAny_bind (wpAny_specialOf ho.typeIs PySem.F.slot_dict_iter.lookup (wpAny_bind (wpAny_pure ?_)))
  rw [show (some (Value.builtin "dict.__iter__") == some (Value.builtin "dict.__iter__")) = true from by decide]
  dsimp only
  rw [if_neg (by rw [hoS]; exact Bool.false_ne_true)]
  refine wpAny_bind (wpAny_dictEntries hod hdd ?_)
  have loop : wpAny (model prog w) A (do
      let l ← dictEntries o
      let epoch ← dictEpoch o
      forIn (List.range l.size) PUnit.unit fun i (_ : PUnit) => (do
          let l' ← dictEntries o
          match l'[i]? with
            | some e => do
              holding [e.key, e.val] (dictPut d e.hash e.key e.val)
              let ep' ← dictEpoch o
              if (ep' != epoch) = true then do
                  (unsupported "dict.changed-during-merge" : Sem PUnit)
                  pure (ForInStep.yield PUnit.unit)
                else pure (ForInStep.yield PUnit.unit)
            | _ => do
              (unsupported "dict.changed-during-merge" : Sem PUnit)
              pure (ForInStep.yield PUnit.unit) : Sem (ForInStep PUnit))
      pure ()) Q E s := by
    refine wpAny_bind (wpAny_dictEntries hoo hdo' ?_)
    refine wpAny_bind (wpAny_dictEpoch hoo hdo' ?_)
    refine wpAny_bind ?_
    refine wpAny_forIn_list _
      (fun rest _ s' => ∃ h' i, s' = { s with heap := h' } ∧ rest = List.range' i (eso.size - i) ∧ i ≤ eso.size ∧ h'.DictOf (mixKind prog w) d (merged kvs (more.take i)) ∧ h'.get? o = some oo ∧ Heap.SameBut d s.heap h')
      _ ?_ ?_ _ _ ⟨s.heap, 0, rfl, by rw [List.range_eq_range', Nat.sub_zero], Nat.zero_le _, by simpa [merged] using hd, hoo, Heap.SameBut.refl _ _⟩
    · rintro x rest b s' ⟨h', i, rfl, hr, hi, hd', hoo', hs'⟩
      have hlt : i < eso.size := by
        rcases Nat.lt_or_ge i eso.size with h | h
        · exact h
        · rw [Nat.sub_eq_zero_of_le h] at hr; simp at hr
      obtain ⟨rfl, hrest⟩ : x = i ∧ rest = List.range' (i + 1) (eso.size - (i + 1)) := by
        have e : eso.size - i = (eso.size - (i + 1)) + 1 := by omega
        rw [e, List.range'_succ] at hr
        injection hr with h1 h2
        exact ⟨h1, h2⟩
      refine wpAny_bind (wpAny_dictEntries hoo' hdo' ?_)
      rw [Array.getElem?_eq_getElem hlt]
      obtain ⟨kv, hkv⟩ : ∃ kv, more[x]? = some kv := ⟨more[x]'(by rw [hlen]; exact hlt), List.getElem?_eq_getElem _⟩
      obtain ⟨k, v⟩ := kv
      obtain ⟨hkey, hval⟩ := hpo.get? (e := eso[x]) (by simp [hlt]) hkv
      obtain ⟨k', hkey', hhash⟩ := hko eso[x] (Array.getElem_mem hlt)
      obtain rfl : k' = k := (mixKind prog w).inj _ _ _ hkey' hkey
      show wpAny _ _ (holding [eso[x].key, eso[x].val] (dictPut d eso[x].hash eso[x].key eso[x].val) >>= _) _ _ _
      rw [hhash, hval]
      have hmx : (merged kvs (more.take x)).length ≤ sizeLine := by
        have e1 := merged_length_le kvs (more.take x)
        have e2 : (more.take x).length ≤ more.length := by rw [List.length_take]; omega
        omega
      refine wpAny_bind (wpAny_holding (wpAny_dictPut (hsz := hmx) hkey hd' fun h'' hd'' hs'' => ?_))
      have hoo'' : h''.get? o = some oo := (hs''.2 o (Ne.symm hdo)).trans hoo'
      refine wpAny_bind (wpAny_dictEpoch hoo'' hdo' ?_)
      rw [if_neg (by simp)]
      exact wpAny_pure ⟨h'', x + 1, rfl, hrest, hlt, by rw [merged_take_succ kvs more x (k', v) hkv]; exact hd'', hoo'', hs'.trans hs''⟩
    · rintro b s' ⟨h', i, rfl, hr, hi, hd', hoo', hs'⟩
      have hin : i = eso.size := by
        rcases Nat.lt_or_ge i eso.size with h | h
        · have e : eso.size - i = (eso.size - (i + 1)) + 1 := by omega
          rw [e, List.range'_succ] at hr; exact nomatch hr
        · exact Nat.le_antisymm hi h
      refine wpAny_pure (hQ h' ?_ hs')
      rw [hin, ← hlen, List.take_length] at hd'; exact hd'
  simp only [Bool.false_eq_true, if_false]
  split
  · refine wpAny_bind (wpAny_dictEntries hoo hdo' ?_)
    have hloop : (forIn eso PUnit.unit fun e (_ : PUnit) => (match e.key with
      | Value.ref a => do
        let q ← specialOf e.key "__eq__"
        if (q != some (Value.builtin "object.__eq__")) = true then
            if (Array.filter (fun x => x.hash == e.hash) eso).size > 1 then do
              (unsupported "dict.merge-into-an-empty-dict:keys-of-equal-hash" : Sem PUnit)
              pure (ForInStep.yield PUnit.unit)
            else pure (ForInStep.yield PUnit.unit)
          else pure (ForInStep.yield PUnit.unit)
      | x => pure (ForInStep.yield PUnit.unit) : Sem (ForInStep PUnit))) = pure PUnit.unit := by
      rw [← Array.forIn_toList]
      refine forIn_yield_id _ fun e he c => ?_
      obtain ⟨k, hkey, _⟩ := hko e (Array.mem_toList_iff.mp he)
      have nr := key_noref hkey
      cases ek : e.key with
      | ref b => exact absurd ek (nr b)
      | _ => rfl
    exact wpAny_bind (wpAny_of_eq hloop loop)
  · exact loop
end
/-! ### y = {k: v for ..} -/
theorem ps_setDc {X : Cx} {i : Nat} {y : Str} {py : Pos} {kx vx tg iter : Expr} {ifs : List Expr} {scope : Scope} {own : List (Str × Nat)} {pos spos : Pos} {wi : TI} {g : TG} {tt : L2.TT} {tk tv : TE} (hc : X.calm = true) (hN : X.N.Nodup) (hy : X.N[i]? = some y) (hyl : X.env.scope.names.lookup y = some .local)
    (hsw : swapsWith (.DictComp kx vx [⟨tg, iter, ifs, 0⟩] scope pos) (some (.Name y py)) spos.line X.env = pure true) (hi : PI X tg iter wi) (ok : BlkOk X.N X.env.scope scope own)
    (hg : ∀ (s : Shared) (H : Hp) (C : Addr) (cl : List (Str × Addr)) (fp : List Addr), PG (X.blk s H scope (compEnvC scope cl C X.env) fp) tg g) (ht : ∀ (s : Shared) (H : Hp) (C : Addr) (cl : List (Str × Addr)) (fp : List Addr), PTs (X.blk s H scope (compEnvC scope cl C X.env) fp) ifs tt)
    (hk : ∀ (s : Shared) (H : Hp) (C : Addr) (cl : List (Str × Addr)) (fp : List Addr), PE (X.blk s H scope (compEnvC scope cl C X.env) fp) kx tk)
    (he : ∀ (s : Shared) (H : Hp) (C : Addr) (cl : List (Str × Addr)) (fp : List Addr), PE (X.blk s H scope (compEnvC scope cl C X.env) fp) vx tv) (hs : ∀ x, foldedSetIterable iter X.env x = pure x := by intro _; rfl) :
    PS X (.Assign [.Name y py] (.DictComp kx vx [⟨tg, iter, ifs, 0⟩] scope pos) spos) (tAsg (tDc wi g tt tk tv (own.map (·.2))) (gName i)) := by
  refine ⟨fun pins s σ H D I h => ?_⟩
  rw [exec_Assign_Name_used _ _ _ _ hsw]
  refine wpAny_bind (wpAny_standAt (wpAny_bind ?_))
  show wpAny _ X.A (do let _ ← comprehension (.DictComp kx vx [⟨tg, iter, ifs, 0⟩] scope pos) scope X.env (firstIterPos [⟨tg, iter, ifs, 0⟩] pos) newDict false (eval iter X.env) (some (assign (.Name y py) X.env))) _ _ s
  have h : tDc wi g tt tk tv (own.map (·.2)) σ H (fun x H1 => gName i x σ H1 D.nx) := h
  refine wpAny_bind (thn (dc_core (Qf := fun _ s' => SP X pins D .next s') hc hN I hi ok hg ht hk he hs h fun L C s' m H' I' q hn f => ?_) fun _ s' hq => wpAny_pure (wpAny_pure hq))
  show wpAny _ _ (assign (.Name y py) X.env (.ref L)) _ _ _
  refine wpAny_assign_Name (store_ok2 (v := V.ref L) I' hN hy (.inl hyl) rfl (fun s2 I2 ⟨a, sb, ha⟩ => ?_) (.inr hyl))
  obtain ⟨f0, f1, f2, f3, f4, f5⟩ := f
  have haC : C ≠ a := by
    rcases ha with z | z
    · rw [z]; exact f1
    · exact fun e => f4 y a z e.symm
  refine ⟨m, hn.sameBut sb haC, fun h3 sb3 => ?_⟩
  exact ⟨_, H', I2.turned (t' := s2.toks) (fun b o hb e => (sb3.2 b hb).trans e) f0 f1 f3 f4 f5, q⟩
def tStar2 (ta tb : TE) : TE := fun σ H Q => ∀ D, H D = none → ta σ (upd H D (.dK [])) fun x H1 => ∃ a ks, x = .ref a ∧ a ≠ D ∧ Rd H1 a (.dK ks) ∧ H1 D = some (.dK []) ∧
  tb σ (upd H1 D (.dK (mergeK [] ks))) fun y H2 => ∃ b ls, y = .ref b ∧ b ≠ D ∧ Rd H2 b (.dK ls) ∧ H2 D = some (.dK (mergeK [] ks)) ∧ (mergeK [] ks).length + ls.length ≤ sizeLine ∧ Q (.ref D) (upd H2 D (.dK (mergeK (mergeK [] ks) ls)))
section
variable {X : Cx} {pins : List (Addr × Obj)} {σ : L2.St} {H : Hp} {s : Shared}
theorem d_merge {D a : Addr} {kvs ks : List (Key × V)} {A : Around} {E : Value → Shared → Prop} {Q : Unit → Shared → Prop} (I : Inv X pins σ H s) (hD : H D = some (.dK kvs)) (ha : Rd H a (.dK ks)) (ne : a ≠ D) (hz : kvs.length + ks.length ≤ sizeLine) (h : ∀ s', Inv X pins σ (upd H D (.dK (mergeK kvs ks))) s' → Q () s') :
    wpAny (model X.prog X.w) A (mergeMapping D (.ref a) false) Q E s := by
  obtain ⟨z, hd, vs, rel, dd⟩ := dk_of I.hok hD
  obtain ⟨z2, hd2, vs2, rel2, dd2⟩ := dk_rd I.hok ha
  have hl : (mergeK kvs ks).length ≤ sizeLine := Nat.le_trans (length_mergeK ks kvs) hz
  refine wpAny_mergeMapping (Ne.symm ne) hd2 dd dd2 (fun h' dd' hs => h _ ?_) (by rw [← rel.length, ← rel2.length]; exact hz)
  have he : ∃ q, h'.get? D = some q := let ⟨q, _, _, hq, _⟩ := dd'; ⟨q, hq⟩
  exact d_write I (by rw [hD]; exact True.intro) hs he (dk_new hl hd (KV.merge rel2 rel) dd')
theorem pe_dstar2 {a b : Expr} {ta tb : TE} {pos : Pos} (ha : PE X a ta) (hb : PE X b tb) : PE X (.Dict [none, none] [a, b] pos) (tStar2 ta tb) := by
  refine ⟨fun pins s σ H Q I h => ?_⟩
  rw [arm_eval_Dict]
  refine wpAny_bind (wpAny_standAt ?_)
  show wpAny _ _ (dictDisplay [(none, do let x ← eval a X.env; standAt pos; pure x), (none, do let x ← eval b X.env; standAt pos; pure x)]) _ _ s
  unfold dictDisplay
  simp only [List.forIn_cons, List.forIn_nil, List.isEmpty_nil, if_true, pure_bind]
  have I1 := I.laid (a := s.heap.objs.size) (o := .dK []) (t' := s.toks) (fun _ _ q => Heap.get?_push_of_some _ q) (Nat.le_refl _) (dk_empty s.heap I.big)
  have q1 := h s.heap.objs.size (I.hok.fresh (Nat.le_refl _))
  refine wpAny_bind (wpAny_bind (wpAny_bind (wpAny_alloc ?_)))
  refine wpAny_bind (wpAny_holding (wpAny_bind (thn (ha.run pins _ σ _ _ I1 q1) fun v s2 ⟨x, H2, I2, rx, p, ks, ex, ne, hp, hD, q2⟩ => wpAny_bind (wpAny_standAt (wpAny_pure ?_)))))
  subst ex
  obtain rfl : v = Value.ref p := rx
  refine wpAny_bind (wpAny_onRaise (wpAny_tryCatch (wpAny_onRaise (wpAny_holding (d_merge I2 hD hp ne (by rw [List.length_nil, Nat.zero_add]; exact (dk_rd I2.hok hp).1) fun s3 I3 => ?_)))))
  refine wpAny_pure ?_
  dsimp only
  simp only [List.isEmpty_nil, if_true, pure_bind]
  refine wpAny_bind (wpAny_bind (wpAny_holding (wpAny_bind (thn (hb.run pins _ σ _ _ I3 q2) fun v s4 ⟨y, H4, I4, ry, p2, ls, ey, ne2, hp2, hD2, hz, q4⟩ => wpAny_bind (wpAny_standAt (wpAny_pure ?_))))))
  subst ey
  obtain rfl : v = Value.ref p2 := ry
  refine wpAny_bind (wpAny_onRaise (wpAny_tryCatch (wpAny_onRaise (wpAny_holding (d_merge I4 hD2 hp2 ne2 hz fun s5 I5 => ?_)))))
  refine wpAny_pure (wpAny_pure ?_)
  simp only [List.isEmpty_nil, if_true, pure_bind]
  exact wpAny_pure ⟨.ref s.heap.objs.size, _, I5, rfl, q4⟩
end
end Rw
namespace Rw
open PySem PySem.Spec PyProof.Rows L2
/-! ### dicts of names, and dicts of such dicts -/
def ND (names : W) (g : Str → V) : HO := .dK (names.map fun z => (.inr z, g z))
/-- a dict with these names, all True -/
def SDl (l : W) : List (Key × V) := l.map fun y => (.inr y, .bl true)
def SD (l : W) : HO := .dK (SDl l)
def ins (l : W) (y : Str) : W := if y ∈ l then l else l ++ [y]
def uni (l m : W) : W := m.foldl ins l
theorem any_key {l : W} {g : Str → V} {y : Str} : ((l.map fun z => ((.inr z : Key), g z)).any fun kv => decide (kv.1 = .inr y)) = decide (y ∈ l) := by
  rw [List.any_map]
  by_cases h : y ∈ l
  · rw [decide_eq_true h, List.any_eq_true]
    exact ⟨y, h, decide_eq_true rfl⟩
  · rw [decide_eq_false h, List.any_eq_false]
    intro z hz
    simp only [Function.comp, decide_eq_true_eq]
    exact fun e => h (Sum.inr.inj e ▸ hz)
theorem put_sd {l : W} {y : Str} : putK (SDl l) (.inr y) (.bl true) = SDl (ins l y) := by
  unfold putK SDl ins
  rw [any_key]
  by_cases h : y ∈ l
  · rw [decide_eq_true h, if_pos rfl, if_pos h, List.map_map]
    refine List.map_congr_left fun z _ => ?_
    show (if (Sum.inr z : Key) = .inr y then ((.inr z : Key), V.bl true) else (.inr z, .bl true)) = _
    by_cases e : (Sum.inr z : Key) = .inr y
    · rw [if_pos e]
    · rw [if_neg e]
  · rw [decide_eq_false h, if_neg Bool.false_ne_true, if_neg h, List.map_append]
    rfl
theorem merge_sd : ∀ {m l : W}, mergeK (SDl l) (SDl m) = SDl (uni l m)
  | [], l => rfl
  | y :: m, l => by
    show mergeK (putK (SDl l) (.inr y) (.bl true)) (SDl m) = _
    rw [put_sd, merge_sd]
    rfl
theorem mem_ins {l : W} {y z : Str} : z ∈ ins l y ↔ z ∈ l ∨ z = y := by
  unfold ins
  by_cases h : y ∈ l
  · rw [if_pos h]
    exact ⟨.inl, fun e => e.elim id fun e => e ▸ h⟩
  · rw [if_neg h, List.mem_append, List.mem_singleton]
theorem mem_uni : ∀ {m l : W} {z : Str}, z ∈ uni l m ↔ z ∈ l ∨ z ∈ m
  | [], l, z => by
    show z ∈ l ↔ _
    simp
  | y :: m, l, z => by
    show z ∈ uni (ins l y) m ↔ _
    rw [mem_uni, mem_ins, List.mem_cons, or_assoc]
theorem nd_ins {l : W} {y : Str} (h : l.Nodup) : (ins l y).Nodup := by
  unfold ins
  by_cases e : y ∈ l
  · rw [if_pos e]
    exact h
  · rw [if_neg e]
    exact nodup_snoc h e
theorem nd_uni : ∀ {m l : W}, l.Nodup → (uni l m).Nodup
  | [], _, h => h
  | y :: m, l, h => nd_uni (m := m) (l := ins l y) (nd_ins h)
theorem valV_nd {g : Str → V} {z : Str} : ∀ {ns : W}, z ∈ ns → valV (ns.map fun y => ((.inr y : Key), g y)) (.inr z) = some (g z)
  | [], h => nomatch h
  | y :: ns, h => by
    rw [List.map_cons]
    by_cases e : y = z
    · subst e
      exact valV_pos rfl
    · rw [valV_neg (fun q => e (Sum.inr.inj q))]
      rcases List.mem_cons.mp h with q | q
      · exact absurd q.symm e
      · exact valV_nd q
theorem valV_no {g : Str → V} {z : Str} : ∀ {ns : W}, z ∉ ns → valV (ns.map fun y => ((.inr y : Key), g y)) (.inr z) = none
  | [], _ => rfl
  | y :: ns, h => by
    rw [List.map_cons, valV_neg (fun q => h (by rw [Sum.inr.inj q]; exact List.mem_cons_self))]
    exact valV_no fun q => h (List.mem_cons_of_mem _ q)
theorem has_sd {l : W} {z : Str} : (valV (SDl l) (.inr z)).isSome = decide (z ∈ l) := by
  unfold SDl
  by_cases h : z ∈ l
  · rw [valV_nd (g := fun _ => V.bl true) h, decide_eq_true h]
    rfl
  · rw [valV_no (g := fun _ => V.bl true) h, decide_eq_false h]
    rfl
def setA (ad : Str → Addr) (z : Str) (p : Addr) : Str → Addr := fun y => if y = z then p else ad y
def setL (L : Str → W) (z : Str) (l : W) : Str → W := fun y => if y = z then l else L y
/-- a dict of dicts -/
structure RD (H : Hp) (F : Addr) (ns : W) (ad : Str → Addr) (L : Str → W) : Prop where
  top : H F = some (ND ns fun z => .ref (ad z))
  low : ∀ z ∈ ns, H (ad z) = some (SD (L z))
  nF : ∀ z ∈ ns, ad z ≠ F
  inj : ∀ y ∈ ns, ∀ z ∈ ns, ad y = ad z → y = z
  nd : ∀ z ∈ ns, (L z).Nodup
  sub : ∀ z ∈ ns, ∀ y ∈ L z, y ∈ ns
theorem RD.same {H H' : Hp} {F : Addr} {ns : W} {ad : Str → Addr} {L : Str → W} (h : RD H F ns ad L) (e : Same H H') : RD H' F ns ad L := ⟨e _ _ h.top, fun z hz => e _ _ (h.low z hz), h.nF, h.inj, h.nd, h.sub⟩
theorem RD.few {H : Hp} {F : Addr} {ns : W} {ad : Str → Addr} {L : Str → W} (h : RD H F ns ad L) : ∀ z ∈ ns, (L z).length ≤ ns.length := fun z hz => len_le (h.nd z hz) (h.sub z hz)
theorem put_ad {names : W} {ad : Str → Addr} {z : Str} {p : Addr} (h : z ∈ names) : putK (names.map fun y => ((.inr y : Key), V.ref (ad y))) (.inr z) (.ref p) = names.map fun y => ((.inr y : Key), V.ref (setA ad z p y)) := by
  unfold putK
  rw [any_key, decide_eq_true h, if_pos rfl, List.map_map]
  refine List.map_congr_left fun y _ => ?_
  show (if (Sum.inr y : Key) = .inr z then ((.inr y : Key), V.ref p) else (.inr y, V.ref (ad y))) = _
  unfold setA
  by_cases e : y = z
  · rw [if_pos (by rw [e]), if_pos e]
  · rw [if_neg (fun q => e (Sum.inr.inj q)), if_neg e]
/-- one name more in one of the dicts -/
theorem RD.add {H : Hp} {F : Addr} {ns : W} {ad : Str → Addr} {L : Str → W} {x y : Str} (h : RD H F ns ad L) (hx : x ∈ ns) (hy : y ∈ ns) : RD (upd H (ad x) (SD (ins (L x) y))) F ns ad (setL L x (ins (L x) y)) := by
  refine ⟨by rw [upd_ne (Ne.symm (h.nF x hx))]; exact h.top, fun z hz => ?_, h.nF, h.inj, fun z hz => ?_, fun z hz w hw => ?_⟩
  · unfold setL
    by_cases e : z = x
    · rw [e, if_pos rfl, upd_same]
    · rw [if_neg e, upd_ne (fun q => e (h.inj z hz x hx q))]
      exact h.low z hz
  · unfold setL
    by_cases e : z = x
    · rw [if_pos e]
      exact nd_ins (h.nd x hx)
    · rw [if_neg e]
      exact h.nd z hz
  · unfold setL at hw
    by_cases e : z = x
    · rw [if_pos e] at hw
      rcases mem_ins.mp hw with q | q
      · exact h.sub x hx w q
      · exact q ▸ hy
    · rw [if_neg e] at hw
      exact h.sub z hz w hw
/-- a new dict in the place of one -/
theorem RD.swap {H : Hp} {F D : Addr} {ns : W} {ad : Str → Addr} {L : Str → W} {x : Str} {l : W} (h : RD H F ns ad L) (hx : x ∈ ns) (hD : H D = some (SD l)) (nDF : D ≠ F) (nD : ∀ z ∈ ns, ad z ≠ D) (hn : l.Nodup) (hs : ∀ y ∈ l, y ∈ ns) : RD (upd H F (ND ns fun z => .ref (setA ad x D z))) F ns (setA ad x D) (setL L x l) := by
  refine ⟨upd_same, fun z hz => ?_, fun z hz => ?_, fun y hy z hz e => ?_, fun z hz => ?_, fun z hz w hw => ?_⟩
  · unfold setA setL
    by_cases e : z = x
    · rw [if_pos e, if_pos e, upd_ne nDF]
      exact hD
    · rw [if_neg e, if_neg e, upd_ne (h.nF z hz)]
      exact h.low z hz
  · unfold setA
    by_cases e : z = x
    · rw [if_pos e]
      exact nDF
    · rw [if_neg e]
      exact h.nF z hz
  · unfold setA at e
    by_cases e1 : y = x
    · by_cases e2 : z = x
      · rw [e1, e2]
      · rw [if_pos e1, if_neg e2] at e
        exact absurd e.symm (nD z hz)
    · by_cases e2 : z = x
      · rw [if_neg e1, if_pos e2] at e
        exact absurd e (nD y hy)
      · rw [if_neg e1, if_neg e2] at e
        exact h.inj y hy z hz e
  · unfold setL
    by_cases e : z = x
    · rw [if_pos e]
      exact hn
    · rw [if_neg e]
      exact h.nd z hz
  · unfold setL at hw
    by_cases e : z = x
    · rw [if_pos e] at hw
      exact hs w hw
    · rw [if_neg e] at hw
      exact h.sub z hz w hw
/-! ### which name leads to which -/
def Use (S : List Rl) (x y : Str) : Prop := ∃ r ∈ S, x ∈ r.1 ∧ y ∈ own r
inductive Lead (S : List Rl) : Str → Str → Prop
  | one {x y : Str} : Use S x y → Lead S x y
  | cons {x y z : Str} : Use S x y → Lead S y z → Lead S x z
theorem Lead.trans {S : List Rl} {x y z : Str} (h : Lead S x y) (g : Lead S y z) : Lead S x z := by
  induction h with
  | one u => exact .cons u g
  | cons u _ ih => exact .cons u (ih g)
end Rw
namespace Rw
open PySem PySem.Spec PyProof.Rows L2
/-! ### _reached -/
abbrev sReached : Stmt := topS 31
theorem scReached : FnScope ["program", "found", "row", "head", "name", "middle"] ["program"] (defScope sReached) := ⟨rfl, rfl, rfl, by decide +kernel, rfl, by decide +kernel, by decide +kernel⟩
/-- the inner dicts are new -/
def NewA (H : Hp) (ns : W) (ad : Str → Addr) : Prop := ∀ z ∈ ns, H (ad z) = none
theorem put_new {names : W} {g : Str → V} {z : Str} {v : V} (h : z ∉ names) : putK (names.map fun y => ((.inr y : Key), g y)) (.inr z) v = (names.map fun y => ((.inr y : Key), g y)) ++ [(.inr z, v)] := by
  unfold putK
  rw [any_key, decide_eq_false h, if_neg Bool.false_ne_true]
theorem RD.grow {H : Hp} {D p : Addr} {ns : W} {ad : Str → Addr} {z : Str} (h : RD H D ns ad fun _ => []) (hz : z ∉ ns) (hp : H p = none) : RD (upd (upd H p (.dK [])) D (.dK (putK (ns.map fun y => ((.inr y : Key), V.ref (ad y))) (.inr z) (.ref p)))) D (ns ++ [z]) (setA ad z p) fun _ => [] := by
  have npD : p ≠ D := fun e => by
    rw [e, h.top] at hp
    cases hp
  have na : ∀ {y}, y ∈ ns → ad y ≠ p := fun hy e => by
    have := h.low _ hy
    rw [e, hp] at this
    cases this
  have ny : ∀ {y}, y ∈ ns → setA ad z p y = ad y := fun {y} hy => by
    unfold setA
    rw [if_neg (fun e => hz (by rw [← e]; exact hy))]
  have nz : setA ad z p z = p := by
    unfold setA
    rw [if_pos rfl]
  refine ⟨?_, fun y hy => ?_, fun y hy => ?_, fun x hx y hy e => ?_, fun _ _ => List.nodup_nil, fun _ _ _ q => nomatch q⟩
  · rw [upd_same, put_new hz]
    unfold ND
    rw [List.map_append]
    have e : (ns.map fun y => ((.inr y : Key), V.ref (ad y))) = ns.map fun y => ((.inr y : Key), V.ref (setA ad z p y)) := List.map_congr_left fun y hy => by rw [ny hy]
    rw [e]
    show some (HO.dK (_ ++ [((.inr z : Key), V.ref p)])) = some (HO.dK (_ ++ [((.inr z : Key), V.ref (setA ad z p z))]))
    rw [nz]
  · rcases List.mem_append.mp hy with q | q
    · rw [ny q, upd_ne (h.nF y q), upd_ne (na q)]
      exact h.low y q
    · rw [List.mem_singleton.mp q, nz, upd_ne npD, upd_same]
      rfl
  · rcases List.mem_append.mp hy with q | q
    · rw [ny q]
      exact h.nF y q
    · rw [List.mem_singleton.mp q, nz]
      exact npD
  · rcases List.mem_append.mp hx with a | a
    · rcases List.mem_append.mp hy with b | b
      · rw [ny a, ny b] at e
        exact h.inj x a y b e
      · rw [ny a, List.mem_singleton.mp b, nz] at e
        exact absurd e (na a)
    · rcases List.mem_append.mp hy with b | b
      · rw [ny b, List.mem_singleton.mp a, nz] at e
        exact absurd e.symm (na b)
      · rw [List.mem_singleton.mp a, List.mem_singleton.mp b]
theorem rd_get {σ : L2.St} {H : Hp} {Q : VK} {F : Addr} {ns : W} {ad : Str → Addr} {L : Str → W} {i j : Nat} {x : Str} (h : RD H F ns ad L) (hi : σ[i]? = some (some (.ref F))) (hj : σ[j]? = some (some (.str x))) (hx : x ∈ ns) (q : Q (.ref (ad x)) H) : tDGet (tVar i) (tVar j) σ H Q :=
  ⟨.ref F, hi, .str x, hj, F, _, rfl, .inl ⟨_, .inr x, .inl h.top, rfl, (valV_nd (g := fun z => V.ref (ad z)) hx).symm⟩, q⟩
/-! the rounds of the middles -/
section
variable {S : List Rl} {ns M : W} {L L0 L2' : Str → W} {m : Str}
/-- closed at the middles of M -/
def ClM (ns M : W) (L : Str → W) : Prop := ∀ k ∈ M, ∀ x ∈ ns, ∀ y, k ∈ L x → y ∈ L k → y ∈ L x
theorem ClM.step (h : ClM ns M L0) (hM : ∀ k ∈ M, k ∈ ns) (hm : m ∈ ns) (e : ∀ x ∈ ns, ∀ y, y ∈ L x ↔ y ∈ L0 x ∨ (m ∈ L0 x ∧ y ∈ L0 m)) : ClM ns (M ++ [m]) L := fun k hk x hx y h1 h2 => by
  have kn : k ∈ ns := by
    rcases List.mem_append.mp hk with q | q
    · exact hM k q
    · rw [List.mem_singleton.mp q]
      exact hm
  have h1' := (e x hx k).mp h1
  have h2' := (e k kn y).mp h2
  rw [e x hx]
  rcases List.mem_append.mp hk with q | q
  · rcases h1' with a | ⟨a1, a2⟩
    · rcases h2' with b | ⟨b1, b2⟩
      · exact .inl (h k q x hx y a b)
      · exact .inr ⟨h k q x hx m a b1, b2⟩
    · rcases h2' with b | ⟨b1, b2⟩
      · exact .inr ⟨a1, h k q m hm y a2 b⟩
      · exact .inr ⟨a1, b2⟩
  · have ek := List.mem_singleton.mp q
    subst ek
    have a : k ∈ L0 x := h1'.elim id fun z => z.1
    have b : y ∈ L0 k := h2'.elim id fun z => z.2
    exact .inr ⟨a, b⟩
theorem lead_all (cl : ClM ns ns L) (hs : ∀ x ∈ ns, ∀ y ∈ L x, y ∈ ns) (hu : ∀ x ∈ ns, ∀ y, Use S x y → y ∈ L x) {x y : Str} (h : Lead S x y) : x ∈ ns → y ∈ L x := by
  induction h with
  | one u => exact fun hx => hu _ hx _ u
  | cons u _ ih =>
    intro hx
    have h1 := hu _ hx _ u
    have h2 := hs _ hx _ h1
    exact cl _ h2 _ hx _ h1 (ih h2)
end
section
variable {P : Program} {w : World} {K : PySem.W.Frag} {mg : Str → Option Value} {base : Heap} {f : Addr} {fd : FuncData} {k : Nat}
def spReached (K : PySem.W.Frag) (C : Addr) : Sp := fun vs H Q _ => ∃ (v : V) (S : List Rl) (bd : W), vs = [v] ∧ PgAt K C H v S ∧ (∀ r ∈ S, IsR r) ∧ S.length < 64 ∧ (∀ z ∈ namesL S, z ∈ bd) ∧ bd.length ≤ 40 ∧
  ∀ H' F ns ad L, Same H H' → RD H' F ns ad L → IsW ns → (∀ z, z ∈ ns ↔ z ∈ namesL S) → (∀ x ∈ ns, ∀ y, y ∈ L x ↔ Lead S x y) → Q (.ref F) H'
theorem ok_reached {C pN pR f1 f2 f3 : Addr} {fd1 fd2 fd3 : FuncData} (F : Fun K "_reached" "_reached" sReached f fd) (T : Bl mg) (c : Cls K C) (hpN : PropOf K C "names" pN f2) (hpR : PropOf K C "rules" pR f3)
    (G1 : FnOk P w K mg base CX0 (k + 1) f1 fd1 ["row"] (spNamesIn K)) (b1 : Binds K fd1 ["row"] []) (k1 : PySem.W.keepIn K (.ref f1) = true) (m1 : mg "_names_in" = some (.ref f1))
    (G2 : FnOk P w K mg base CX0 k f2 fd2 ["self"] (spNames K C)) (b2 : Binds K fd2 ["self"] [])
    (G3 : FnOk P w K mg base CX0 k f3 fd3 ["self"] (spRules K C)) (b3 : Binds K fd3 ["self"] []) : FnOk P w K mg base CX0 (k + 2) f fd ["program"] (spReached K C) := by
  refine F.ok scReached (fun vs H Q E h => ?_) (fun cdv A outer s H vs Q E hr h => ?_)
  · obtain ⟨v, S, bd, rfl, _⟩ := h
    rfl
  obtain ⟨v, S, bd, rfl, hS, hI, few, hbd, lbd, q⟩ := h
  refine ⟨_, pss_cons (ps_setDc (i := 1) (own := [("name", 4)]) (g := gName 4) (tk := tVar 4) (tv := tDNewK) (by rfl) scReached.nd rfl rfl (sw_trueD rfl rfl rfl (by decide +kernel)) (pi_tup (pe_prop (pv 0) c hpN G2 hr b2 .nil pass0 rfl)) (blkOk_by (N := ["program", "found", "row", "head", "name", "middle"]) (sc := defScope sReached) (by decide +kernel))
      (fun _ _ _ _ _ => pg_name (i := 4) scReached.nd rfl (Or.inl rfl)) (fun _ _ _ _ _ => pts_nil) (fun _ _ _ _ _ => pv 4) (fun _ _ _ _ _ => pe_dnewK))
    (pss_cons (ps_for PassesOwn.never rfl (pi_tup (pe_prop (pv 0) c hpR G3 hr b3 .nil pass0 rfl)) (pg_name (i := 2) scReached.nd rfl (.inl rfl))
      (pss_one (ps_for PassesOwn.never rfl (pi_tup (pe_ix ix_tup (pv 2) pe_int (fun _ _ => rfl))) (pg_name (i := 3) scReached.nd rfl (.inl rfl))
        (pss_one (ps_for PassesOwn.never rfl (pi_list (pe_call G1 hr (by rfl) m1 k1 b1 .nil pass0 (pa_cons (pv 2) pa_nil))) (pg_name (i := 4) scReached.nd rfl (.inl rfl))
          (pss_one (ps_dput (hu_of hr) (pe_dget (hu_of hr) (pv 1) (pv 3) (fun _ _ => rfl)) (pv 4) pe_bl rfl)))))))
    (pss_cons (ps_for PassesOwn.never rfl (pi_tup (pe_prop (pv 0) c hpN G2 hr b2 .nil pass0 rfl)) (pg_name (i := 5) scReached.nd rfl (.inl rfl))
      (pss_one (ps_for PassesOwn.never rfl (pi_tup (pe_prop (pv 0) c hpN G2 hr b2 .nil pass0 rfl)) (pg_name (i := 4) scReached.nd rfl (.inl rfl))
        (pss_one (ps_if (pt_cmp (pc_din (hu_of hr) (pv 5) (pe_dget (hu_of hr) (pv 1) (pv 4) (fun _ _ => rfl))) (by rfl))
          (pss_one (ps_dput (hu_of hr) (pv 1) (pv 4) (pe_dstar2 (pe_dget (hu_of hr) (pv 1) (pv 4) (fun _ _ => rfl)) (pe_dget (hu_of hr) (pv 1) (pv 5) (fun _ _ => rfl))) rfl)) pss_nil)))))
    (pss_one (ps_ret (pv 1))))), ?_⟩
  obtain ⟨a, dx, t0, ys0, rfl, i1', i2', i3'⟩ := id hS
  -- the dicts
  refine ⟨.ref a, rfl, a, dx, _, rfl, i1', .ref a, S, bd, rfl, hS, hI, hbd, lbd, fun H1 tn ns s1 htn hns hmem => ?_⟩
  have nl := hns.few
  have nnd := upX_nodup hns.up
  refine ⟨tn, rfl, ⟨_, htn⟩, fun D hD => ?_⟩
  have hD0 : H D = none := none_back s1 hD
  refine dc_tup (xs := ns.map V.str) (fun i H2 => Same H1 H2 ∧ ∃ ad, RD H2 D (ns.take i) ad (fun _ => []) ∧ NewA H (ns.take i) ad) ⟨same_new hD _, fun _ => D, ⟨upd_same, (fun _ z => nomatch z), (fun _ z => nomatch z), (fun _ z => nomatch z), (fun _ z => nomatch z), fun _ z => nomatch z⟩, fun _ z => nomatch z⟩ (fun i H2 _ h => same_tup h.1 htn) (fun i x H2 hx h => ?_) (fun H2 h => ?_)
  · obtain ⟨sm, ad, hR, hN⟩ := h
    obtain ⟨z, hz, rfl⟩ := map_at hx
    refine ⟨rfl, .str z, rfl, fun p hp => ?_⟩
    have sp := same_new hp (.dK [])
    have new : z ∉ ns.take i := idx_new' nnd hz
    refine ⟨_, .inr z, rfl, sp _ _ hR.top, small_line' (by rw [List.length_map, List.length_take]; omega), same_put (sm.trans sp) hD, setA ad z p, ?_, fun y hy => ?_⟩
    · rw [take_snoc hz]
      exact hR.grow new hp
    · rw [take_snoc hz] at hy
      unfold setA
      by_cases e : y = z
      · rw [if_pos e]
        exact none_back (s1.trans sm) hp
      · rw [if_neg e]
        rcases List.mem_append.mp hy with q | q
        · exact hN y q
        · exact absurd (List.mem_singleton.mp q) e
  obtain ⟨sm12, ad0, hR0, hN0⟩ := h
  rw [List.length_map, List.take_length] at hR0 hN0
  have s2 := s1.trans sm12
  -- what holds between
  let St : Hp → (Str → W) → Prop := fun H' L => Same H H' ∧ ∃ ad, RD H' D ns ad L ∧ NewA H ns ad
  have stAdd : ∀ {H' L x y}, Same H H' → ∀ {ad}, RD H' D ns ad L → NewA H ns ad → x ∈ ns → y ∈ ns → St (upd H' (ad x) (SD (ins (L x) y))) (setL L x (ins (L x) y)) := fun {H' L x y} sm {ad} hR hN hx hy => ⟨same_put sm (hN x hx), ad, hR.add hx hy, hN⟩
  -- the rules
  refine ⟨.ref a, rfl, a, dx, _, rfl, s2 _ _ i1', .ref a, S, rfl, hS.same s2, fun t ys ht hys => ?_⟩
  have yl : ys.length = S.length := by rw [dpAll_len hys, List.length_map]
  refine ⟨t, rfl, ⟨_, ht⟩, for_tup (xs := ys) (fun i σ H3 => (∃ y2 y3 y4, σ = [some (.ref a), some (.ref D), y2, y3, y4, none]) ∧ Stay H2 H3 ∧ ∃ L, St H3 L ∧ (∀ x ∈ ns, ∀ y ∈ L x, Use S x y) ∧ ∀ r ∈ S.take i, ∀ x ∈ r.1, ∀ y ∈ own r, y ∈ L x) ⟨⟨_, _, _, rfl⟩, Stay.same fun _ _ e => e, fun _ => [], ⟨s2, ad0, hR0, hN0⟩, (fun _ _ _ z => nomatch z), fun r hr => absurd hr (by simp)⟩ (fun i σ H3 _ h => h.2.1.seq ht) (fun i x σ H3 hx h => ?_) (fun σ H3 h => ?_)⟩
  · obtain ⟨⟨y2, y3, y4, rfl⟩, st3, L, hSt, snd, done⟩ := h
    obtain ⟨dd, hdd, hxd⟩ := dpAll_at' hys hx
    obtain ⟨r, hr0, rfl⟩ := map_at hdd
    have hrS := List.mem_of_getElem? hr0
    have hr' := hI r hrS
    have hxd3 := st3.rd hxd
    obtain ⟨b0, v1, v2, v3, v4, rfl, hT, g1, g2, g3, g4⟩ := of_rd hxd3
    obtain ⟨c1, rfl, t1⟩ := of_wd g1
    have inH : ∀ z ∈ r.1, z ∈ ns := fun z hz => (hmem z).mpr (List.mem_flatMap.mpr ⟨r, hrS, List.mem_flatMap.mpr ⟨r.1, by unfold parts; simp, hz⟩⟩)
    have inO : ∀ z ∈ own r, z ∈ ns := fun z hz => (hmem z).mpr (List.mem_flatMap.mpr ⟨r, hrS, hz⟩)
    refine ⟨.ref b0, rfl, b0, _, 0, .ref c1, rfl, rfl, hT, rfl, c1, rfl, ⟨_, t1⟩, for_tup (xs := r.1.map V.str) (fun k σ H4 => (∃ y3 y4, σ = [some (.ref a), some (.ref D), some (.ref b0), y3, y4, none]) ∧ Stay H3 H4 ∧ ∃ L, St H4 L ∧ (∀ x ∈ ns, ∀ y ∈ L x, Use S x y) ∧ (∀ r ∈ S.take i, ∀ x ∈ r.1, ∀ y ∈ own r, y ∈ L x) ∧ ∀ x ∈ r.1.take k, ∀ y ∈ own r, y ∈ L x) ⟨⟨_, _, rfl⟩, Stay.same fun _ _ e => e, L, hSt, snd, done, fun x hx => absurd hx (by simp)⟩ (fun k σ H4 _ h => h.2.1.seq t1) (fun k x σ H4 hx h => ?_) (fun σ H4 h => ?_)⟩
    · obtain ⟨⟨y3', y4', rfl⟩, st4, L, ⟨sm4, ad, hR4, hN4⟩, snd, done, donek⟩ := h
      obtain ⟨hd, hhd, rfl⟩ := map_at hx
      have hdr : hd ∈ r.1 := List.mem_of_getElem? hhd
      have hdn := inH hd hdr
      refine ⟨.ref b0, rfl, .ref b0, r, rfl, st4.rd hxd3, hr', fun H5 v5 s5 h5 => ?_⟩
      obtain ⟨D5, rfl, hD5⟩ := h5
      refine ⟨D5, rfl, ⟨_, SqL.of hD5⟩, for_list (xs := (own r).map V.str) (fun m σ H6 => (∃ y4, σ = [some (.ref a), some (.ref D), some (.ref b0), some (.str hd), y4, none]) ∧ Stay H5 H6 ∧ H6 D5 = some (.lst ((own r).map V.str)) ∧ ∃ L, St H6 L ∧ (∀ x ∈ ns, ∀ y ∈ L x, Use S x y) ∧ (∀ r ∈ S.take i, ∀ x ∈ r.1, ∀ y ∈ own r, y ∈ L x) ∧ (∀ x ∈ r.1.take k, ∀ y ∈ own r, y ∈ L x) ∧ ∀ y ∈ (own r).take m, y ∈ L hd) ⟨⟨_, rfl⟩, Stay.same fun _ _ e => e, hD5, L, ⟨sm4.trans s5, ad, hR4.same s5, hN4⟩, snd, done, donek, fun y hy => absurd hy (by simp)⟩ (fun m σ H6 _ h => SqL.of h.2.2.1) (fun m x σ H6 hx h => ?_) (fun σ H6 h => ?_)⟩
      · obtain ⟨⟨y4'', rfl⟩, st6, hD6, L, ⟨sm6, ad6, hR6, hN6⟩, snd, done, donek, donem⟩ := h
        obtain ⟨y, hy, rfl⟩ := map_at hx
        have hyo : y ∈ own r := List.mem_of_getElem? hy
        have hyn := inO y hyo
        have few6 := hR6.few hd hdn
        refine ⟨.ref D, rfl, .str hd, rfl, D, _, rfl, .inl ⟨_, .inr hd, .inl hR6.top, rfl, (valV_nd (g := fun z => V.ref (ad6 z)) hdn).symm⟩, .str y, rfl, ad6 hd, _, rfl, .inl ⟨_, .inr y, hR6.low hd hdn, rfl, small_line' (by unfold SDl; rw [List.length_map]; omega), rfl⟩, ?_⟩
        rw [put_sd]
        have ne5 : D5 ≠ ad6 hd := fun e => by
          have z := hR6.low hd hdn
          rw [← e, hD6] at z
          cases z
        have mono : ∀ x z, z ∈ L x → z ∈ setL L hd (ins (L hd) y) x := fun x z hz => by
          unfold setL
          by_cases e : x = hd
          · rw [if_pos e]
            exact mem_ins.mpr (.inl (e ▸ hz))
          · rw [if_neg e]
            exact hz
        have atd : setL L hd (ins (L hd) y) hd = ins (L hd) y := by
          unfold setL
          rw [if_pos rfl]
        refine ⟨⟨_, rfl⟩, st6.trans (Stay.put (by rw [hR6.low hd hdn]; exact True.intro) _), by rw [upd_ne ne5]; exact hD6, setL L hd (ins (L hd) y), stAdd sm6 hR6 hN6 hdn hyn, fun x hx z hz => ?_, fun r hr x hx z hz => mono x z (done r hr x hx z hz), fun x hx z hz => mono x z (donek x hx z hz), fun z hz => ?_⟩
        · unfold setL at hz
          by_cases e : x = hd
          · rw [if_pos e] at hz
            rw [e]
            rcases mem_ins.mp hz with q | q
            · exact snd hd hdn z q
            · rw [q]
              exact ⟨r, hrS, hdr, hyo⟩
          · rw [if_neg e] at hz
            exact snd x hx z hz
        · rw [take_snoc hy] at hz
          rcases List.mem_append.mp hz with q | q
          · exact mono hd z (donem z q)
          · rw [List.mem_singleton.mp q, atd]
            exact mem_ins.mpr (.inr rfl)
      · obtain ⟨⟨y4'', rfl⟩, st6, hD6, L, hSt6, snd, done, donek, donem⟩ := h
        rw [List.length_map, List.take_length] at donem
        refine ⟨⟨_, _, rfl⟩, st4.trans ((Stay.same s5).trans st6), L, hSt6, snd, done, fun x hx y hy => ?_⟩
        rw [take_snoc hhd] at hx
        rcases List.mem_append.mp hx with q | q
        · exact donek x q y hy
        · rw [List.mem_singleton.mp q]
          exact donem y hy
    · obtain ⟨⟨y3', y4', rfl⟩, st4, L, hSt4, snd, done, donek⟩ := h
      rw [List.length_map, List.take_length] at donek
      refine ⟨⟨_, _, _, rfl⟩, st3.trans st4, L, hSt4, snd, fun r2 hr2 x hx y hy => ?_⟩
      rw [take_snoc hr0] at hr2
      rcases List.mem_append.mp hr2 with q | q
      · exact done r2 q x hx y hy
      · rw [List.mem_singleton.mp q] at hx hy
        exact donek x hx y hy
  · obtain ⟨⟨y2, y3, y4, rfl⟩, st3, L, ⟨sm3, ad3, hR3, hN3⟩, snd, done⟩ := h
    rw [yl, List.take_length] at done
    have compl : ∀ x ∈ ns, ∀ y, Use S x y → y ∈ L x := fun x _ y ⟨r, hr, h1, h2⟩ => done r hr x h1 y h2
    -- the middles
    refine ⟨.ref a, rfl, a, dx, _, rfl, sm3 _ _ i1', .ref a, S, bd, rfl, hS.same sm3, hI, hbd, lbd, fun H4 tn2 ns2 s4 htn2 hns2 hmem2 => ?_⟩
    obtain rfl : ns = ns2 := upX_one hns.up hns2.up fun z => (hmem z).trans (hmem2 z).symm
    refine ⟨tn2, rfl, ⟨_, htn2⟩, for_tup (xs := ns.map V.str) (fun i σ H5 => (∃ y2 y3 y4 y5, σ = [some (.ref a), some (.ref D), y2, y3, y4, y5]) ∧ Stay H4 H5 ∧ ∃ L, St H5 L ∧ (∀ x ∈ ns, ∀ y ∈ L x, Lead S x y) ∧ (∀ x ∈ ns, ∀ y, Use S x y → y ∈ L x) ∧ ClM ns (ns.take i) L) ⟨⟨_, _, _, _, rfl⟩, Stay.same fun _ _ e => e, L, ⟨sm3.trans s4, ad3, hR3.same s4, hN3⟩, fun x hx y hy => .one (snd x hx y hy), compl, fun k hk => absurd hk (by simp)⟩ (fun i σ H5 _ h => h.2.1.seq htn2) (fun i x σ H5 hx h => ?_) (fun σ H5 h => ?_)⟩
    · obtain ⟨⟨y2', y3', y4', y5', rfl⟩, st5, L0, ⟨sm5, ad5, hR5, hN5⟩, snd0, compl0, cl0⟩ := h
      obtain ⟨m, hm, rfl⟩ := map_at hx
      have hmn : m ∈ ns := List.mem_of_getElem? hm
      refine ⟨.ref a, rfl, a, dx, _, rfl, sm5 _ _ i1', .ref a, S, bd, rfl, hS.same sm5, hI, hbd, lbd, fun H6 tn3 ns3 s6 htn3 hns3 hmem3 => ?_⟩
      obtain rfl : ns = ns3 := upX_one hns.up hns3.up fun z => (hmem z).trans (hmem3 z).symm
      refine ⟨tn3, rfl, ⟨_, htn3⟩, for_tup (xs := ns.map V.str) (fun j σ H7 => (∃ y4, σ = [some (.ref a), some (.ref D), y2', y3', y4, some (.str m)]) ∧ Stay H6 H7 ∧ ∃ L, St H7 L ∧ ∀ x ∈ ns, ∀ y, y ∈ L x ↔ y ∈ L0 x ∨ (x ∈ ns.take j ∧ m ∈ L0 x ∧ y ∈ L0 m)) ⟨⟨_, rfl⟩, Stay.same fun _ _ e => e, L0, ⟨sm5.trans s6, ad5, hR5.same s6, hN5⟩, fun x hx y => ⟨.inl, fun h => h.elim id fun h => absurd h.1 (by simp)⟩⟩ (fun j σ H7 _ h => h.2.1.seq htn3) (fun j x σ H7 hx h => ?_) (fun σ H7 h => ?_)⟩
      · obtain ⟨⟨y4'', rfl⟩, st7, L, ⟨sm7, ad7, hR7, hN7⟩, eL⟩ := h
        obtain ⟨x, hx0, rfl⟩ := map_at hx
        have hxn : x ∈ ns := List.mem_of_getElem? hx0
        have new : x ∉ ns.take j := idx_new' nnd hx0
        have eLx : ∀ y, y ∈ L x ↔ y ∈ L0 x := fun y => (eL x hxn y).trans ⟨fun h => h.elim id fun h => absurd h.1 new, .inl⟩
        have eLm : ∀ y, y ∈ L m ↔ y ∈ L0 m := fun y => (eL m hmn y).trans ⟨fun h => h.elim id fun h => h.2.2, .inl⟩
        refine ⟨.str m, rfl, .ref D, rfl, .str x, rfl, D, _, rfl, .inl ⟨_, .inr x, .inl hR7.top, rfl, (valV_nd (g := fun z => V.ref (ad7 z)) hxn).symm⟩, ad7 x, _, rfl, .inl ⟨_, .inr m, .inl (hR7.low x hxn), rfl, rfl⟩, _, rfl, ?_⟩
        rw [has_sd]
        refine ite2 (fun e => ?_) (fun e => ?_)
        · have hmx : m ∈ L x := of_decide_eq_true e
          refine fun D2 hD2 => ?_
          have sA := same_new hD2 (.dK [])
          have nD2 : ∀ z ∈ ns, ad7 z ≠ D2 := fun z hz e => by
            have q := hR7.low z hz
            rw [e, hD2] at q
            cases q
          have nD2D : D2 ≠ D := fun e => by
            have q := hR7.top
            rw [← e, hD2] at q
            cases q
          have sB := same_put (o := .dK (mergeK [] (SDl (L x)))) sA hD2
          have sC := same_put (o := .dK (mergeK (mergeK [] (SDl (L x))) (SDl (L m)))) sB hD2
          have e1 : mergeK [] (SDl (L x)) = SDl (uni [] (L x)) := merge_sd (l := [])
          have fx := hR7.few x hxn
          have fm := hR7.few m hmn
          have lu : (uni [] (L x)).length ≤ ns.length := len_le (nd_uni List.nodup_nil) fun z hz => hR7.sub x hxn z ((mem_uni.mp hz).elim (fun q => nomatch q) id)
          refine ⟨.ref D, rfl, .str x, rfl, D, _, rfl, .inl ⟨_, .inr x, .inl (sA _ _ hR7.top), rfl, (valV_nd (g := fun z => V.ref (ad7 z)) hxn).symm⟩, ad7 x, SDl (L x), rfl, nD2 x hxn, .inl (sA _ _ (hR7.low x hxn)), upd_same, ?_⟩
          refine ⟨.ref D, rfl, .str m, rfl, D, _, rfl, .inl ⟨_, .inr m, .inl (sB _ _ hR7.top), rfl, (valV_nd (g := fun z => V.ref (ad7 z)) hmn).symm⟩, ad7 m, SDl (L m), rfl, nD2 m hmn, .inl (sB _ _ (hR7.low m hmn)), upd_same, ?_, ?_⟩
          · rw [e1]
            unfold SDl
            rw [List.length_map, List.length_map]
            exact small_line (by omega)
          refine ⟨.ref D, rfl, .str x, rfl, D, _, rfl, .inl ⟨_, .inr x, sC _ _ hR7.top, rfl, small_line' (by rw [List.length_map]; omega), rfl⟩, ?_⟩
          have ep := put_ad (ad := ad7) (p := D2) hxn
          rw [ep]
          have hD2' : (upd (upd (upd H7 D2 (.dK [])) D2 (.dK (mergeK [] (SDl (L x))))) D2 (.dK (mergeK (mergeK [] (SDl (L x))) (SDl (L m))))) D2 = some (SD (uni (uni [] (L x)) (L m))) := by
            rw [upd_same, e1, merge_sd]
            rfl
          have memU : ∀ y, y ∈ uni (uni [] (L x)) (L m) ↔ y ∈ L x ∨ y ∈ L m := fun y => by
            rw [mem_uni, mem_uni]
            simp
          have mutD : Mut ((upd (upd (upd H7 D2 (.dK [])) D2 (.dK (mergeK [] (SDl (L x))))) D2 (.dK (mergeK (mergeK [] (SDl (L x))) (SDl (L m))))) D) := by
            rw [sC _ _ hR7.top]
            exact True.intro
          refine ⟨⟨_, rfl⟩, st7.trans ((Stay.same sC).trans (Stay.put mutD _)), setL L x (uni (uni [] (L x)) (L m)), ⟨same_put (sm7.trans sC) hD0, setA ad7 x D2, (hR7.same sC).swap hxn hD2' nD2D nD2 (nd_uni (nd_uni List.nodup_nil)) fun y hy => ?_, fun z hz => ?_⟩, fun z hz y => ?_⟩
          · rcases (memU y).mp hy with q | q
            · exact hR7.sub x hxn y q
            · exact hR7.sub m hmn y q
          · unfold setA
            by_cases e : z = x
            · rw [if_pos e]
              exact none_back sm7 hD2
            · rw [if_neg e]
              exact hN7 z hz
          · unfold setL
            by_cases e : z = x
            · rw [if_pos e, memU, eLx, eLm, e, take_snoc hx0, List.mem_append]
              exact ⟨fun h => h.elim .inl fun h => .inr ⟨.inr List.mem_cons_self, (eLx m).mp hmx, h⟩, fun h => h.elim .inl fun h => .inr h.2.2⟩
            · rw [if_neg e, eL z hz, take_snoc hx0, List.mem_append, List.mem_singleton]
              exact ⟨fun h => h.elim .inl fun h => .inr ⟨.inl h.1, h.2⟩, fun h => h.elim .inl fun h => .inr ⟨h.1.elim id fun q => absurd q e, h.2⟩⟩
        · have hmx : m ∉ L x := fun h => e (decide_eq_true h)
          refine ⟨⟨_, rfl⟩, st7, L, ⟨sm7, ad7, hR7, hN7⟩, fun z hz y => ?_⟩
          rw [eL z hz, take_snoc hx0, List.mem_append, List.mem_singleton]
          exact ⟨fun h => h.elim .inl fun h => .inr ⟨.inl h.1, h.2⟩, fun h => h.elim .inl fun h => h.1.elim (fun q => .inr ⟨q, h.2⟩) fun q => absurd ((eLx m).mpr (q ▸ h.2.1)) hmx⟩
      · obtain ⟨⟨y4'', rfl⟩, st7, L, hSt7, eL⟩ := h
        rw [List.length_map, List.take_length] at eL
        have eL' : ∀ x ∈ ns, ∀ y, y ∈ L x ↔ y ∈ L0 x ∨ (m ∈ L0 x ∧ y ∈ L0 m) := fun x hx y => (eL x hx y).trans ⟨fun h => h.elim .inl fun h => .inr h.2, fun h => h.elim .inl fun h => .inr ⟨hx, h⟩⟩
        refine ⟨⟨_, _, _, _, rfl⟩, st5.trans ((Stay.same s6).trans st7), L, hSt7, fun x hx y hy => ?_, fun x hx y hu => (eL' x hx y).mpr (.inl (compl0 x hx y hu)), ?_⟩
        · rcases (eL' x hx y).mp hy with q | ⟨q1, q2⟩
          · exact snd0 x hx y q
          · exact (snd0 x hx m q1).trans (snd0 m hmn y q2)
        · rw [take_snoc hm]
          exact cl0.step (fun k hk => List.mem_of_mem_take hk) hmn eL'
    · obtain ⟨⟨y2', y3', y4', y5', rfl⟩, st5, L0, ⟨sm5, ad5, hR5, hN5⟩, snd0, compl0, cl0⟩ := h
      rw [List.length_map, List.take_length] at cl0
      exact ⟨.ref D, rfl, q H5 D ns ad5 L0 sm5 hR5 hns hmem fun x hx y => ⟨snd0 x hx y, fun h => lead_all cl0 hR5.sub compl0 h hx⟩⟩
end
end Rw
namespace Rw
open PySem PySem.Spec PyProof.Rows L2
/-! ### _next_layer -/
theorem sl_own {σ : L2.St} {o : Nat} {v : V} (ho : o < σ.length) : ((wipe σ [o]).set o (some v))[o]? = some (some v) := by
  show ((σ.set o none).set o (some v))[o]? = _
  rw [List.set_set, List.getElem?_set_self ho]
theorem sl_old {σ : L2.St} {i o : Nat} {u : Option (Option V)} {v : V} (ne : i ≠ o) (h : σ[i]? = u) : ((wipe σ [o]).set o (some v))[i]? = u := by
  show ((σ.set o none).set o (some v))[i]? = _
  rw [List.set_set, List.getElem?_set_ne (Ne.symm ne)]
  exact h
theorem sl_back {σ : L2.St} {o : Nat} {v : V} : wipe ((wipe σ [o]).set o (some v)) [o] = wipe σ [o] := by
  show ((σ.set o none).set o (some v)).set o none = σ.set o none
  rw [List.set_set, List.set_set]
theorem same_unlock {H H' : Hp} {d : Addr} {u : HO} {od : Obj} (hd : H d = some u) (s : Same (upd H d (.frz od u)) H') : H' d = some (.frz od u) ∧ Same H (upd H' d u) := by
  refine ⟨s _ _ upd_same, fun b v e => ?_⟩
  by_cases z : b = d
  · subst z
    rw [upd_same, ← hd, e]
  · rw [upd_ne z]
    exact s _ _ (by rw [upd_ne z]; exact e)
theorem paired_end {α β : Type} {F : α → β → Prop} {a : α} {b : β} (h : F a b) : ∀ {l : List α} {m : List β}, Paired F l m → Paired F (l ++ [a]) (m ++ [b])
  | [], [], _ => .cons h .nil
  | _ :: _, _ :: _, .cons p t => .cons p (paired_end h t)
section
variable {K : PySem.W.Frag} {σ : L2.St} {H : Hp} {Q : VK} {F : Addr} {ns : W} {ad : Str → Addr} {L : Str → W} {x : Str}
/-- [other for other in d[name] if name in d[other]] -/
theorem mut_lc (h0 : σ[0]? = some (some (.ref F))) (h3 : σ[3]? = some (some (.str x))) (ho : 6 < σ.length) (hR : RD H F ns ad L) (hx : x ∈ ns) (n40 : ns.length ≤ 40) (q : ∀ H' D, Same H H' → H' D = some (.lst (((L x).filter fun y => decide (x ∈ L y)).map V.str)) → Q (.ref D) H') :
    tLockE (tLc (iKeys (tDGet (tVar 0) (tVar 3))) (gName 6) (tB (tDIn (tVar 3) (tDGet (tVar 0) (tVar 6)))) (tVar 6) [6]) σ H Q := by
  refine ⟨ad x, _, hR.low x hx, True.intro, fun od => ?_⟩
  let HF : Hp := upd H (ad x) (.frz od (SD (L x)))
  have topF : HF F = some (ND ns fun z => .ref (ad z)) := by
    show upd _ _ _ F = _
    rw [upd_ne (Ne.symm (hR.nF x hx))]
    exact hR.top
  have rdF : ∀ {H1 : Hp}, Same HF H1 → ∀ y ∈ ns, Rd H1 (ad y) (.dK (SDl (L y))) := fun {H1} s y hy => by
    by_cases e : ad y = ad x
    · have ey := hR.inj y hy x hx e
      subst ey
      exact .inr ⟨od, s _ _ upd_same⟩
    · exact .inl (s _ _ (by show upd _ _ _ _ = _; rw [upd_ne e]; exact hR.low y hy))
  refine ⟨.ref F, h0, .str x, h3, F, _, rfl, .inl ⟨_, .inr x, .inl topF, rfl, (valV_nd (g := fun z => V.ref (ad z)) hx).symm⟩, ad x, od, rfl, .inl ⟨_, upd_same, fun D hD => ?_⟩⟩
  refine lc_it walk_keys (fun n H1 => Same HF H1 ∧ H1 D = some (.lst ((((L x).take n).filter fun y => decide (x ∈ L y)).map V.str))) ⟨same_new hD _, upd_same⟩ (fun n H1 _ h => h.1 _ _ upd_same) (fun n y0 H1 H1' hn h hy => ?_) (fun H1 h => ?_)
  · obtain ⟨rfl, k, v, hk, rfl⟩ := hy
    unfold SDl at hk
    rw [List.getElem?_map] at hk
    obtain ⟨y, hy, ey⟩ := Option.map_eq_some_iff.mp hk
    cases ey
    have hyL : y ∈ L x := List.mem_of_getElem? hy
    have hyn := hR.sub x hx y hyL
    have few := hR.few x hx
    have il : n < (L x).length := (List.getElem?_eq_some_iff.mp hy).1
    refine ⟨sl_back, .str x, sl_old (by decide) h3, .ref F, sl_old (by decide) h0, .str y, sl_own ho, F, _, rfl, .inl ⟨_, .inr y, .inl (h.1 _ _ topF), rfl, (valV_nd (g := fun z => V.ref (ad z)) hyn).symm⟩, ad y, _, rfl, .inl ⟨SDl (L y), .inr x, rdF h.1 y hyn, rfl, rfl⟩, _, rfl, ?_⟩
    rw [has_sd]
    refine ite2 (fun e => ?_) (fun e => ?_)
    · refine ⟨.str y, sl_own ho, _, h.2, small_line' ?_, same_put h.1 hD, ?_⟩
      · rw [List.length_map]
        have := List.length_filter_le (fun y => decide (x ∈ L y)) ((L x).take n)
        rw [List.length_take] at this
        omega
      · rw [upd_same, filt_t hy e, List.map_append]
        rfl
    · refine ⟨h.1, ?_⟩
      rw [filt_f hy ((Bool.not_eq_true _).mp e)]
      exact h.2
  · obtain ⟨e1, e2⟩ := same_unlock (hR.low x hx) h.1
    have hl : (SDl (L x)).length = (L x).length := by
      unfold SDl
      rw [List.length_map]
    rw [hl, List.take_length] at h
    have ne : D ≠ ad x := fun z => by
      rw [z, e1] at h
      cases h.2
    refine ⟨e1, q _ D e2 ?_⟩
    rw [upd_ne ne]
    exact h.2
/-- [other for other in left if other == name or other in mutual] -/
theorem lay_lc {t c : Addr} {lf mu : W} (h1 : σ[1]? = some (some (.ref t))) (h3 : σ[3]? = some (some (.str x))) (h4 : σ[4]? = some (some (.ref c))) (ho : 6 < σ.length) (ht : SqT K H t (lf.map V.str)) (hc : H c = some (.lst (mu.map V.str))) (n40 : lf.length ≤ 40) (q : ∀ H' D, Same H H' → H' D = some (.lst ((lf.filter fun y => decide (y = x) || decide (y ∈ mu)).map V.str)) → Q (.ref D) H') :
    tLc (iTup K (tVar 1)) (gName 6) (tOr (tTest (tOp rEq (tVar 6) (tVar 3))) (tTest (tOp (rIn K false) (tVar 6) (tVar 4)))) (tVar 6) [6] σ H Q := by
  refine ⟨.ref t, h1, t, rfl, ⟨_, ht⟩, fun D hD => ?_⟩
  refine lc_tup (xs := lf.map V.str) (fun n H1 => Same H H1 ∧ H1 D = some (.lst (((lf.take n).filter fun y => decide (y = x) || decide (y ∈ mu)).map V.str))) ⟨same_new hD _, upd_same⟩ (fun n H1 _ h => same_tup h.1 ht) (fun n y0 H1 hx h => ?_) (fun H1 h => ?_)
  · obtain ⟨y, hy, rfl⟩ := map_at hx
    have il : n < lf.length := (List.getElem?_eq_some_iff.mp hy).1
    have put : (decide (y = x) || decide (y ∈ mu)) = true → ∃ acc, H1 D = some (.lst acc) ∧ acc.length < sizeLine ∧ Same H (upd H1 D (.lst (acc ++ [.str y]))) ∧ (upd H1 D (.lst (acc ++ [.str y]))) D = some (.lst (((lf.take (n + 1)).filter fun y => decide (y = x) || decide (y ∈ mu)).map V.str)) := fun e => by
      refine ⟨_, h.2, small_line' ?_, same_put h.1 hD, ?_⟩
      · rw [List.length_map]
        have := List.length_filter_le (fun y => decide (y = x) || decide (y ∈ mu)) (lf.take n)
        rw [List.length_take] at this
        omega
      · rw [upd_same, filt_t hy e, List.map_append]
        rfl
    refine ⟨sl_back, .str y, sl_own ho, .str x, sl_old (by decide) h3, rfl, _, rfl, ?_⟩
    refine ite2 (fun e => ?_) (fun e => ?_)
    · have e' : y = x := V.str.inj (of_decide_eq_true e)
      exact ⟨.str y, sl_own ho, put (by rw [decide_eq_true e']; rfl)⟩
    · have e' : ¬ y = x := fun z => e (decide_eq_true (congrArg V.str z))
      refine ⟨.str y, sl_own ho, .ref c, sl_old (by decide) h4, c, _, rfl, .inl (SqL.of (h.1 _ _ hc)), rfl, flat_strs _, _, rfl, ?_⟩
      rw [inV_str]
      refine ite2 (fun e2 => ?_) (fun e2 => ?_)
      · exact ⟨.str y, sl_own ho, put (by rw [show decide (y ∈ mu) = true from e2, Bool.or_true])⟩
      · refine ⟨h.1, ?_⟩
        rw [filt_f hy (by rw [decide_eq_false e', show decide (y ∈ mu) = false from (Bool.not_eq_true _).mp e2]; rfl)]
        exact h.2
  · rw [List.length_map, List.take_length] at h
    exact q H1 D h.1 h.2
/-- [other in layer or other not in left for other in d[name]] -/
theorem all_lc {t c : Addr} {lf la : W} (h0 : σ[0]? = some (some (.ref F))) (h1 : σ[1]? = some (some (.ref t))) (h3 : σ[3]? = some (some (.str x))) (h5 : σ[5]? = some (some (.ref c))) (ho : 6 < σ.length) (hR : RD H F ns ad L) (hx : x ∈ ns) (n40 : ns.length ≤ 40) (ht : SqT K H t (lf.map V.str)) (hc : SqT K H c (la.map V.str))
    (q : ∀ H' D, Same H H' → H' D = some (.lst (((L x).map fun y => decide (y ∈ la) || !decide (y ∈ lf)).map V.bl)) → Q (.ref D) H') :
    tLockE (tLc (iKeys (tDGet (tVar 0) (tVar 3))) (gName 6) tYes (tOrV (tOp (rIn K false) (tVar 6) (tVar 5)) (tOp (rIn K true) (tVar 6) (tVar 1))) [6]) σ H Q := by
  refine ⟨ad x, _, hR.low x hx, True.intro, fun od => ?_⟩
  let HF : Hp := upd H (ad x) (.frz od (SD (L x)))
  have topF : HF F = some (ND ns fun z => .ref (ad z)) := by
    show upd _ _ _ F = _
    rw [upd_ne (Ne.symm (hR.nF x hx))]
    exact hR.top
  have stF : Stay H HF := Stay.put (by rw [hR.low x hx]; exact True.intro) _
  refine ⟨.ref F, h0, .str x, h3, F, _, rfl, .inl ⟨_, .inr x, .inl topF, rfl, (valV_nd (g := fun z => V.ref (ad z)) hx).symm⟩, ad x, od, rfl, .inl ⟨_, upd_same, fun D hD => ?_⟩⟩
  refine lc_it walk_keys (fun n H1 => Same HF H1 ∧ H1 D = some (.lst ((((L x).take n).map fun y => decide (y ∈ la) || !decide (y ∈ lf)).map V.bl))) ⟨same_new hD _, upd_same⟩ (fun n H1 _ h => h.1 _ _ upd_same) (fun n y0 H1 H1' hn h hy => ?_) (fun H1 h => ?_)
  · obtain ⟨rfl, k, v, hk, rfl⟩ := hy
    unfold SDl at hk
    rw [List.getElem?_map] at hk
    obtain ⟨y, hy, ey⟩ := Option.map_eq_some_iff.mp hk
    cases ey
    have few := hR.few x hx
    have il : n < (L x).length := (List.getElem?_eq_some_iff.mp hy).1
    have put : ∀ b, (decide (y ∈ la) || !decide (y ∈ lf)) = b → ∃ acc, H1' D = some (.lst acc) ∧ acc.length < sizeLine ∧ Same HF (upd H1' D (.lst (acc ++ [.bl b]))) ∧ (upd H1' D (.lst (acc ++ [.bl b]))) D = some (.lst ((((L x).take (n + 1)).map fun y => decide (y ∈ la) || !decide (y ∈ lf)).map V.bl)) := fun b e => by
      refine ⟨_, h.2, small_line' ?_, same_put h.1 hD, ?_⟩
      · rw [List.length_map, List.length_map, List.length_take]
        omega
      · rw [upd_same, take_snoc hy, List.map_append, List.map_append, ← e]
        rfl
    refine ⟨sl_back, .str y, sl_own ho, .ref c, sl_old (by decide) h5, c, _, rfl, .inr (same_tup h.1 (stF.seq hc)), rfl, flat_strs _, _, rfl, ?_⟩
    rw [inV_str]
    refine ite2 (fun e => ?_) (fun e => ?_)
    · exact put true (by rw [show decide (y ∈ la) = true from e]; rfl)
    · refine ⟨.str y, sl_own ho, .ref t, sl_old (by decide) h1, t, _, rfl, .inr (same_tup h.1 (stF.seq ht)), rfl, flat_strs _, ?_⟩
      rw [inV_str]
      exact put _ (by rw [show decide (y ∈ la) = false from (Bool.not_eq_true _).mp e]; rfl)
  · obtain ⟨e1, e2⟩ := same_unlock (hR.low x hx) h.1
    have hl : (SDl (L x)).length = (L x).length := by
      unfold SDl
      rw [List.length_map]
    rw [hl, List.take_length] at h
    have ne : D ≠ ad x := fun z => by
      rw [z, e1] at h
      cases h.2
    refine ⟨e1, q _ D e2 ?_⟩
    rw [upd_ne ne]
    exact h.2
end
/-- the layer of x within what is left; whether it may come next -/
def layF (lf : W) (L : Str → W) (x : Str) : W := lf.filter fun y => decide (y = x) || decide (y ∈ (L x).filter fun y => decide (x ∈ L y))
def rdyB (lf : W) (L : Str → W) (x : Str) : Bool := (L x).all fun y => decide (y ∈ layF lf L x) || !decide (y ∈ lf)
abbrev sNext : Stmt := topS 32
abbrev nNext : List Str := ["reached", "left", "ready", "name", "mutual", "layer", "other"]
theorem scNext : FnScope ["reached", "left", "ready", "name", "mutual", "layer", "other"] ["reached", "left"] (defScope sNext) := ⟨rfl, rfl, rfl, by decide +kernel, rfl, by decide +kernel, by decide +kernel⟩
section
variable {P : Program} {w : World} {K : PySem.W.Frag} {mg : Str → Option Value} {base : Heap} {f : Addr} {fd : FuncData} {k : Nat}
def spNext (K : PySem.W.Frag) : Sp := fun vs H Q _ => ∃ (F t : Addr) (ns lf : W) (ad : Str → Addr) (L : Str → W) (x : Str) (rest : W), vs = [.ref F, .ref t] ∧ RD H F ns ad L ∧ ns.length ≤ 40 ∧ SqT K H t (lf.map V.str) ∧ (∀ z ∈ lf, z ∈ ns) ∧ lf.length ≤ 40 ∧ lf.filter (rdyB lf L) = x :: rest ∧
  ∀ H' p, Same H H' → SqT K H' p ((layF lf L x).map V.str) → Q (.ref p) H'
theorem ok_next (F : Fun K "_next_layer" "_next_layer" sNext f fd) (T : Bl mg) : FnOk P w K mg base CX0 (k + 1) f fd ["reached", "left"] (spNext K) := by
  refine F.ok scNext (fun vs H Q E h => ?_) (fun cdv A outer s H vs Q E hr h => ?_)
  · obtain ⟨F, t, ns, lf, ad, L, x, rest, rfl, _⟩ := h
    rfl
  obtain ⟨F, t, ns, lf, ad, L, x0, rest, rfl, hR, n40, ht, hsub, l40, hrdy, q⟩ := h
  refine ⟨_, pss_cons (ps_set (i := 2) scNext.nd rfl (.inl rfl) (pe_lst pa_nil))
    (pss_cons (ps_for PassesOwn.never rfl (pi_tup (pv 1)) (pg_name (i := 3) scNext.nd rfl (.inr rfl))
      (pss_cons (ps_set (i := 4) scNext.nd rfl (.inr rfl) (pe_lock (pe_lc (own := [("other", 6)]) (g := gName 6) (tt := tB (tDIn (tVar 3) (tDGet (tVar 0) (tVar 6)))) (by rfl) scNext.nd (pi_keys (pe_dget (hu_of hr) (pv 0) (pv 3) (fun _ _ => rfl))) (blkOk_by (N := nNext) (sc := defScope sNext) (by decide +kernel))
          (fun _ _ _ _ _ => pg_name (i := 6) scNext.nd rfl (Or.inl rfl)) (fun _ _ _ _ _ => pts_one (pt_cmp (pc_din (hu_of hr) (pv 3) (pe_dget (hu_of hr) (pv 0) (pv 6) (fun _ _ => rfl))) (by rfl))) (fun _ _ _ _ _ => pv 6))))
      (pss_cons (ps_set (i := 5) scNext.nd rfl (.inr rfl) (pe_callTy call_tuple_of (by rfl) T.tuple (by decide +kernel) (pa_cons (pe_lc (own := [("other", 6)]) (g := gName 6) (tt := tOr (tTest (tOp rEq (tVar 6) (tVar 3))) (tTest (tOp (rIn K false) (tVar 6) (tVar 4)))) (by rfl) scNext.nd (pi_tup (pv 1)) (blkOk_by (N := nNext) (sc := defScope sNext) (by decide +kernel))
          (fun _ _ _ _ _ => pg_name (i := 6) scNext.nd rfl (Or.inl rfl)) (fun _ _ _ _ _ => pts_one (PW.pt (pw_or (pt_cmpR op_eq (pv 6) (pv 3) (nomark _)) (pw_or1 (pt_cmpR (r := rIn K false) op_in_seq (pv 6) (pv 4) (by rfl)))))) (fun _ _ _ _ _ => pv 6)) pa_nil)))
      (pss_one (ps_if (pt_val (pe_callB (cr_all rfl) (by rfl) T.all (by decide +kernel) (pa_cons (pe_lock (pe_lc (own := [("other", 6)]) (g := gName 6) (te := tOrV (tOp (rIn K false) (tVar 6) (tVar 5)) (tOp (rIn K true) (tVar 6) (tVar 1))) (by rfl) scNext.nd (pi_keys (pe_dget (hu_of hr) (pv 0) (pv 3) (fun _ _ => rfl))) (blkOk_by (N := nNext) (sc := defScope sNext) (by decide +kernel))
          (fun _ _ _ _ _ => pg_name (i := 6) scNext.nd rfl (Or.inl rfl)) (fun _ _ _ _ _ => pts_nil) (fun _ _ _ _ _ => pe_or (pe_cmpR (r := rIn K false) op_in_seq (pv 6) (pv 5) (by rfl)) (pe_one (pe_cmpR (r := rIn K true) op_notIn_seq (pv 6) (pv 1) (by rfl)))))) pa_nil)))
        (pss_one (ps_expr (pe_bm PySem.F.plainAttrs_list PySem.F.slot_list_append PySem.F.type_list_append mt_append (pv 2) (pa_cons (pv 5) pa_nil)))) pss_nil)))))
    (pss_one (ps_ret (pe_ix ix_list (pv 2) pe_int (fun _ _ => rfl))))), ?_⟩
  refine ⟨by show 0 ≤ sizeLine; decide, fun R hR0 => ?_⟩
  have s0 := same_new hR0 (.lst [])
  refine ⟨.ref t, rfl, t, rfl, ⟨_, same_tup s0 ht⟩, for_tup (xs := lf.map V.str) (fun i σ H1 => (∃ y3 y4 y5, σ = [some (.ref F), some (.ref t), some (.ref R), y3, y4, y5, none]) ∧ Same H H1 ∧ ∃ ps : List Addr, H1 R = some (.lst (ps.map V.ref)) ∧ Paired (fun p x => SqT K H1 p ((layF lf L x).map V.str)) ps ((lf.take i).filter (rdyB lf L))) ⟨⟨_, _, _, rfl⟩, s0, [], upd_same, .nil⟩ (fun i σ H1 _ h => same_tup h.2.1 ht) (fun i x σ H1 hx h => ?_) (fun σ H1 h => ?_)⟩
  · obtain ⟨⟨y3, y4, y5, rfl⟩, sm, ps, hps, hpa⟩ := h
    obtain ⟨x, hx0, rfl⟩ := map_at hx
    have il : i < lf.length := (List.getElem?_eq_some_iff.mp hx0).1
    have hxn := hsub x (List.mem_of_getElem? hx0)
    refine mut_lc (F := F) (x := x) rfl rfl (by show 6 < 7; decide) (hR.same sm) hxn n40 fun H2 D2 s2 hD2 => ?_
    dsimp only [gName, tSeq, tAsg, tCB, tCons, tNil, List.set, List.map]
    refine lay_lc (K := K) (x := x) (t := t) (c := D2) (lf := lf) rfl rfl rfl (by show 6 < 7; decide) (same_tup (sm.trans s2) ht) hD2 l40 fun H3 D3 s3 hD3 => ?_
    refine ⟨D3, _, rfl, .inl ⟨SqL.of hD3, fun p hp => ?_⟩⟩
    have s4 := same_new hp (.tup ((layF lf L x).map V.str))
    have s14 := s2.trans (s3.trans s4)
    dsimp only [tIfS, tB, tCB, tCons, tNil]
    refine all_lc (K := K) (F := F) (x := x) (t := t) (c := p) (lf := lf) (la := layF lf L x) rfl rfl rfl rfl (by show 6 < 7; decide) (hR.same (sm.trans s14)) hxn n40 (same_tup (sm.trans s14) ht) (SqT.of upd_same) fun H5 D5 s5 hD5 => ?_
    refine ⟨D5, _, rfl, SqL.of hD5, _, rfl, ?_⟩
    have eb : ((L x).map fun y => decide (y ∈ layF lf L x) || !decide (y ∈ lf)).all id = rdyB lf L x := by
      rw [List.all_map]
      rfl
    rw [eb]
    have s15 := s14.trans s5
    have hp5 : SqT K H5 p ((layF lf L x).map V.str) := same_tup s5 (SqT.of upd_same)
    have hR5 := s15 _ _ hps
    have lps : ps.length ≤ lf.length := by
      rw [hpa.length]
      refine Nat.le_trans (List.length_filter_le _ _) ?_
      rw [List.length_take]
      omega
    refine ite2 (fun e => ?_) (fun e => ?_)
    · have st : Stay H5 (upd H5 R (.lst (ps.map V.ref ++ [V.ref p]))) := Stay.put (by rw [hR5]; exact True.intro) _
      refine ⟨.ref R, rfl, .inl ⟨rfl, _, SqL.of hR5⟩, .ref p, rfl, R, _, _, rfl, rfl, hR5, small_line' (by rw [List.length_map]; omega), ?_⟩
      refine ⟨⟨_, _, _, rfl⟩, same_put (sm.trans s15) hR0, ps ++ [p], by rw [upd_same, List.map_append]; rfl, ?_⟩
      rw [filt_t hx0 e]
      exact paired_end (F := fun p x => SqT K _ p ((layF lf L x).map V.str)) (st.seq hp5) (Paired.mapP (F := fun p x => SqT K H1 p ((layF lf L x).map V.str)) hpa fun p x h => ((Stay.same s15).trans st).seq h)
    · refine ⟨⟨_, _, _, rfl⟩, sm.trans s15, ps, hR5, ?_⟩
      rw [filt_f hx0 ((Bool.not_eq_true _).mp e)]
      exact Paired.mapP (F := fun p x => SqT K H1 p ((layF lf L x).map V.str)) hpa fun p x h => same_tup s15 h
  · obtain ⟨⟨y3, y4, y5, rfl⟩, sm, ps, hps, hpa⟩ := h
    rw [List.length_map, List.take_length, hrdy] at hpa
    cases hpa with
    | @cons p _ pt _ hp _ => exact ⟨.ref R, rfl, R, _, 0, .ref p, rfl, rfl, SqL.of hps, atI_nat (j := 0) rfl, q H1 p sm hp⟩
end
end Rw
namespace Rw
open PySem PySem.Spec PyProof.Rows L2
/-! ### the layers, as they are told -/
def RdyP (S : List Rl) (lf : W) (x : Str) : Prop := ∀ y, Lead S x y → y ∈ lf → y = x ∨ Lead S y x
inductive LayO (S : List Rl) : W → List W → Prop
  | nil : LayO S [] []
  | cons {lf pre post l : W} {x : Str} {R : List W} : lf = pre ++ x :: post → (∀ y ∈ pre, ¬ RdyP S lf y) → RdyP S lf x → UpX l → (∀ y, y ∈ l ↔ y ∈ lf ∧ (y = x ∨ (Lead S x y ∧ Lead S y x))) → LayO S (minus lf l) R → LayO S lf (l :: R)
theorem first_one {α : Type} {P : α → Prop} : ∀ {a b c d : List α} {x y : α}, a ++ x :: b = c ++ y :: d → (∀ z ∈ a, ¬ P z) → P x → (∀ z ∈ c, ¬ P z) → P y → x = y
  | [], b, [], d, x, y, e, _, _, _, _ => by
    injection e
  | [], b, c :: cs, d, x, y, e, _, hx, hc, _ => by
    rw [List.nil_append, List.cons_append] at e
    injection e with e1 e2
    exact absurd (e1 ▸ hx) (hc c List.mem_cons_self)
  | a :: as, b, [], d, x, y, e, ha, _, _, hy => by
    rw [List.nil_append, List.cons_append] at e
    injection e with e1 e2
    exact absurd (e1.symm ▸ hy) (ha a List.mem_cons_self)
  | a :: as, b, c :: cs, d, x, y, e, ha, hx, hc, hy => by
    rw [List.cons_append, List.cons_append] at e
    injection e with e1 e2
    exact first_one e2 (fun z hz => ha z (List.mem_cons_of_mem _ hz)) hx (fun z hz => hc z (List.mem_cons_of_mem _ hz)) hy
theorem LayO.one {S : List Rl} {lf : W} {R : List W} (h : LayO S lf R) : ∀ {R'}, LayO S lf R' → R = R' := by
  induction h with
  | nil =>
    intro R' h'
    cases h' with
    | nil => rfl
    | cons e _ _ _ _ _ => exact absurd e.symm (by simp)
  | @cons lf pre post l x R e hp hx hu hm hr ih =>
    intro R' h'
    cases h' with
    | nil => exact absurd e.symm (by simp)
    | @cons _ pre' post' l' x' R' e' hp' hx' hu' hm' hr' =>
      have ex : x = x' := first_one (P := RdyP S lf) (e.symm.trans e') hp hx hp' hx'
      subst ex
      have el : l = l' := upX_one hu hu' fun y => (hm y).trans (hm' y).symm
      subst el
      rw [ih hr']
/-- some name is ready -/
theorem min_at {c : Str → Nat} : ∀ {lf : W}, lf ≠ [] → ∃ x ∈ lf, ∀ y ∈ lf, c x ≤ c y
  | [], h => absurd rfl h
  | [x], _ => ⟨x, List.mem_cons_self, fun y hy => by rw [List.mem_singleton.mp hy]; exact Nat.le_refl _⟩
  | x :: y :: r, _ => by
    obtain ⟨m, hm, h⟩ := min_at (c := c) (lf := y :: r) (by simp)
    by_cases e : c x ≤ c m
    · refine ⟨x, List.mem_cons_self, fun z hz => ?_⟩
      rcases List.mem_cons.mp hz with q | q
      · rw [q]
        exact Nat.le_refl _
      · exact Nat.le_trans e (h z q)
    · refine ⟨m, List.mem_cons_of_mem _ hm, fun z hz => ?_⟩
      rcases List.mem_cons.mp hz with q | q
      · rw [q]
        omega
      · exact h z q
theorem filt_le {p q : Str → Bool} : ∀ {l : W}, (∀ z ∈ l, p z = true → q z = true) → (l.filter p).length ≤ (l.filter q).length
  | [], _ => Nat.le_refl _
  | x :: l, h => by
    have e := filt_le (l := l) fun z hz => h z (List.mem_cons_of_mem _ hz)
    rw [List.filter_cons, List.filter_cons]
    by_cases a : p x = true
    · rw [if_pos a, if_pos (h x List.mem_cons_self a), List.length_cons, List.length_cons]
      omega
    · rw [if_neg a]
      by_cases b : q x = true
      · rw [if_pos b, List.length_cons]
        omega
      · rw [if_neg b]
        exact e
theorem filt_all {p q : Str → Bool} : ∀ {l : W}, (∀ z ∈ l, p z = true → q z = true) → (l.filter q).length ≤ (l.filter p).length → ∀ z ∈ l, q z = true → p z = true
  | [], _, _, z, hz, _ => nomatch hz
  | x :: l, h, le, z, hz, hq => by
    have h' : ∀ z ∈ l, p z = true → q z = true := fun z hz => h z (List.mem_cons_of_mem _ hz)
    have e := filt_le h'
    rw [List.filter_cons, List.filter_cons] at le
    by_cases a : p x = true
    · rw [if_pos a, if_pos (h x List.mem_cons_self a), List.length_cons, List.length_cons] at le
      rcases List.mem_cons.mp hz with k | k
      · rw [k]
        exact a
      · exact filt_all h' (by omega) z k hq
    · rw [if_neg a] at le
      by_cases b : q x = true
      · rw [if_pos b, List.length_cons] at le
        omega
      · rw [if_neg b] at le
        rcases List.mem_cons.mp hz with k | k
        · rw [k] at hq
          exact absurd hq b
        · exact filt_all h' le z k hq
theorem rdy_some {S : List Rl} {lf : W} (ne : lf ≠ []) : ∃ x ∈ lf, RdyP S lf x := by
  classical
  obtain ⟨x, hx, hmin⟩ := min_at (c := fun x => (lf.filter fun y => decide (Lead S x y)).length) ne
  by_cases r : RdyP S lf x
  · exact ⟨x, hx, r⟩
  · unfold RdyP at r
    obtain ⟨y, hr⟩ := Classical.not_forall.mp r
    obtain ⟨xy, hr⟩ := Classical.not_imp.mp hr
    obtain ⟨hy, hr⟩ := Classical.not_imp.mp hr
    have same : ∀ z ∈ lf, Lead S x z → ∀ u ∈ lf, Lead S x u → Lead S z u := fun z hz xz u hu xu => by
      have h1 := filt_all (l := lf) (p := fun u => decide (Lead S z u)) (q := fun u => decide (Lead S x u)) (fun u _ h => decide_eq_true (xz.trans (of_decide_eq_true h))) (hmin z hz) u hu (decide_eq_true xu)
      exact of_decide_eq_true h1
    refine ⟨y, hy, fun z yz hz => .inr ?_⟩
    exact same z hz (xy.trans yz) y hy xy
/-- each beginning is closed -/
theorem lay_begin {S : List Rl} {lf : W} {R : List W} (h : LayO S lf R) : ∀ {ns : W}, (∀ x ∈ ns, ∀ y, Lead S x y → y ∈ ns) → (∀ x ∈ ns, x ∉ lf → ∀ y, Lead S x y → y ∉ lf) → ∀ j x, x ∈ ns → (x ∉ lf ∨ x ∈ (R.take j).flatten) → ∀ y, Lead S x y → (y ∉ lf ∨ y ∈ (R.take j).flatten) := by
  induction h with
  | nil => exact fun _ _ j x _ _ y _ => .inl (fun z => nomatch z)
  | @cons lf pre post l x0 R e hp hx hu hm hr ih =>
    intro ns hns out j x hxn hx' y xy
    cases j with
    | zero =>
      rcases hx' with q | q
      · exact .inl (out x hxn q y xy)
      · exact absurd q (by simp)
    | succ j =>
      have out2 : ∀ x ∈ ns, x ∉ minus lf l → ∀ y, Lead S x y → y ∉ minus lf l := fun x hxn nx y xy hy => by
        unfold minus at nx hy
        rw [List.mem_filter] at nx hy
        have yn : y ∉ l := by simpa using hy.2
        by_cases xl : x ∈ lf
        · have xin : x ∈ l := Classical.byContradiction fun c => nx ⟨xl, by simpa using c⟩
          obtain ⟨_, hxx⟩ := (hm x).mp xin
          have l0 : Lead S x0 y := by
            rcases hxx with q | q
            · rw [← q]
              exact xy
            · exact q.1.trans xy
          refine yn ((hm y).mpr ⟨hy.1, ?_⟩)
          rcases hx y l0 hy.1 with q | q
          · exact .inl q
          · exact .inr ⟨l0, q⟩
        · exact out x hxn xl y xy hy.1
      have z := ih hns out2 j x hxn (by
        rcases hx' with q | q
        · left
          unfold minus
          rw [List.mem_filter]
          exact fun h => q h.1
        · rw [List.take_succ_cons, List.flatten_cons, List.mem_append] at q
          rcases q with q | q
          · left
            unfold minus
            rw [List.mem_filter]
            exact fun h => by simpa [q] using h.2
          · exact .inr q) y xy
      rw [List.take_succ_cons, List.flatten_cons, List.mem_append]
      rcases z with q | q
      · by_cases yl : y ∈ lf
        · refine .inr (.inl (Classical.byContradiction fun c => q ?_))
          unfold minus
          rw [List.mem_filter]
          exact ⟨yl, by simpa using c⟩
        · exact .inl yl
      · exact .inr (.inr q)
theorem LayO.sub {S : List Rl} {lf : W} {R : List W} (h : LayO S lf R) : ∀ l ∈ R, UpX l ∧ ∀ y ∈ l, y ∈ lf := by
  induction h with
  | nil => exact fun _ z => nomatch z
  | @cons lf pre post l x R e hp hx hu hm hr ih =>
    intro l2 hl2
    rcases List.mem_cons.mp hl2 with q | q
    · rw [q]
      exact ⟨hu, fun y hy => ((hm y).mp hy).1⟩
    · obtain ⟨a, b⟩ := ih l2 q
      exact ⟨a, fun y hy => (List.mem_filter.mp (b y hy)).1⟩
/-- what the program's next layer is -/
theorem lay_next {S : List Rl} {lf ns rest : W} {L : Str → W} {x : Str} {R : List W} (hL : ∀ x ∈ ns, ∀ y, y ∈ L x ↔ Lead S x y) (hs : ∀ z ∈ lf, z ∈ ns) (hu : UpX lf) (hf : lf.filter (rdyB lf L) = x :: rest) (h : LayO S (minus lf (layF lf L x)) R) : LayO S lf (layF lf L x :: R) := by
  have hmem : ∀ x ∈ lf, ∀ y, y ∈ layF lf L x ↔ y ∈ lf ∧ (y = x ∨ (Lead S x y ∧ Lead S y x)) := fun x hx y => by
    unfold layF
    rw [List.mem_filter]
    simp only [Bool.or_eq_true, decide_eq_true_eq, List.mem_filter]
    constructor
    · rintro ⟨a, b⟩
      exact ⟨a, b.elim .inl fun b => .inr ⟨(hL x (hs x hx) y).mp b.1, (hL y (hs y a) x).mp b.2⟩⟩
    · rintro ⟨a, b⟩
      exact ⟨a, b.elim .inl fun b => .inr ⟨(hL x (hs x hx) y).mpr b.1, (hL y (hs y a) x).mpr b.2⟩⟩
  have hrdy : ∀ x ∈ lf, rdyB lf L x = true ↔ RdyP S lf x := fun x hx => by
    unfold rdyB RdyP
    rw [List.all_eq_true]
    constructor
    · intro h y xy hy
      have z := h y ((hL x (hs x hx) y).mpr xy)
      rw [Bool.or_eq_true, decide_eq_true_eq, hmem x hx] at z
      rcases z with ⟨_, z⟩ | z
      · exact z.elim .inl fun z => .inr z.2
      · simp only [Bool.not_eq_true', decide_eq_false_iff_not] at z
        exact absurd hy z
    · intro h y hy
      have xy := (hL x (hs x hx) y).mp hy
      by_cases yl : y ∈ lf
      · rw [Bool.or_eq_true, decide_eq_true_eq, hmem x hx]
        exact .inl ⟨yl, (h y xy yl).elim .inl fun z => .inr ⟨xy, z⟩⟩
      · rw [decide_eq_false yl]
        simp
  obtain ⟨pre, post, e, hp, hx⟩ : ∃ pre post, lf = pre ++ x :: post ∧ (∀ y ∈ pre, rdyB lf L y = false) ∧ rdyB lf L x = true := by
    have key : ∀ (p : Str → Bool) (l : W) (x : Str) (rest : W), l.filter p = x :: rest → ∃ pre post, l = pre ++ x :: post ∧ (∀ y ∈ pre, p y = false) ∧ p x = true := by
      intro p l
      induction l with
      | nil => intro x rest h; exact absurd h (by simp)
      | cons a l ih =>
        intro x rest h
        rw [List.filter_cons] at h
        by_cases c : p a = true
        · rw [if_pos c] at h
          injection h with h1 h2
          exact ⟨[], l, by rw [h1]; rfl, (fun _ z => nomatch z), h1 ▸ c⟩
        · rw [if_neg c] at h
          obtain ⟨pre, post, e, hp, hx⟩ := ih x rest h
          refine ⟨a :: pre, post, by rw [e]; rfl, fun y hy => ?_, hx⟩
          rcases List.mem_cons.mp hy with q | q
          · rw [q]
            exact (Bool.not_eq_true _).mp c
          · exact hp y q
    exact key _ _ _ _ hf
  have hxl : x ∈ lf := by rw [e]; simp
  refine .cons e (fun y hy r => ?_) ((hrdy x hxl).mp hx) (hu.sublist List.filter_sublist) (hmem x hxl) h
  have yl : y ∈ lf := by rw [e]; simp [hy]
  have z := (hrdy y yl).mpr r
  rw [hp y hy] at z
  cases z
theorem rdy_first {S : List Rl} {lf ns : W} {L : Str → W} (hL : ∀ x ∈ ns, ∀ y, y ∈ L x ↔ Lead S x y) (hs : ∀ z ∈ lf, z ∈ ns) (ne : lf ≠ []) : ∃ x rest, lf.filter (rdyB lf L) = x :: rest := by
  obtain ⟨x, hx, hr⟩ := rdy_some (S := S) ne
  have z : x ∈ lf.filter (rdyB lf L) := by
    refine List.mem_filter.mpr ⟨hx, ?_⟩
    unfold rdyB
    rw [List.all_eq_true]
    intro y hy
    have xy := (hL x (hs x hx) y).mp hy
    by_cases yl : y ∈ lf
    · rw [Bool.or_eq_true, decide_eq_true_eq]
      left
      unfold layF
      rw [List.mem_filter]
      refine ⟨yl, ?_⟩
      simp only [Bool.or_eq_true, decide_eq_true_eq, List.mem_filter]
      exact (hr y xy yl).elim .inl fun q => .inr ⟨hy, (hL y (hs y yl) x).mpr q⟩
    · rw [decide_eq_false yl]
      simp
  match e : lf.filter (rdyB lf L), z with
  | x :: rest, _ => exact ⟨x, rest, rfl⟩
  | [], z => exact nomatch z
end Rw
namespace Rw
open PySem PySem.Spec PyProof.Rows L2
/-! ### layers -/
abbrev sLayers : Stmt := topS 29
theorem scLayers : FnScope ["program", "reached", "found", "left", "layer"] ["program"] (defScope sLayers) := ⟨rfl, rfl, rfl, by decide +kernel, rfl, by decide +kernel, by decide +kernel⟩
theorem minus_less {lf l : W} {x : Str} (h : x ∈ lf) (h2 : x ∈ l) : (minus lf l).length < lf.length := by
  unfold minus
  have e : (lf.filter fun z => !decide (z ∈ l)).length ≤ lf.length := List.length_filter_le _ _
  refine Nat.lt_of_le_of_ne e fun q => ?_
  have z := (List.length_filter_eq_length_iff.mp q) x h
  rw [decide_eq_true h2] at z
  cases z
section
variable {P : Program} {w : World} {K : PySem.W.Frag} {mg : Str → Option Value} {base : Heap} {f : Addr} {fd : FuncData} {k : Nat}
def spLayers (K : PySem.W.Frag) (C CE : Addr) : Sp := fun vs H Q E => ∃ v : V, vs = [v] ∧ ((∃ (S : List Rl) (bd : W), PgAt K C H v S ∧ (∀ r ∈ S, IsR r) ∧ S.length < 64 ∧ (∀ z ∈ namesL S, z ∈ bd) ∧ bd.length ≤ 40 ∧
  ∀ H' D ys ns R, Same H H' → H D = none → H' D = some (.lst ys) → DpAll K H' ys (R.map wd) → IsW ns → (∀ z, z ∈ ns ↔ z ∈ namesL S) → LayO S ns R → Q (.ref D) H') ∨
  (∃ d, Dp K H v d ∧ ∀ dx, H dx = none → E (.ref CE) (some dx) (upd H dx (.xd [(("thing" : Str), v)]))))
theorem ok_layers {C CE pN f1 f2 f3 f4 f5 : Addr} {fd1 fd2 fd3 fd4 fd5 : FuncData} (F : Fun K "layers" "layers" sLayers f fd) (c : Cls K C) (hpN : PropOf K C "names" pN f3)
    (G1 : FnOk P w K mg base (L2.CX P w) (k + 1) f1 fd1 ["thing"] (spCheckProgram K C CE)) (b1 : Binds K fd1 ["thing"] []) (k1 : PySem.W.keepIn K (.ref f1) = true) (m1 : mg "check_program" = some (.ref f1))
    (G2 : FnOk P w K mg base CX0 (k + 1) f2 fd2 ["program"] (spReached K C)) (b2 : Binds K fd2 ["program"] []) (k2 : PySem.W.keepIn K (.ref f2) = true) (m2 : mg "_reached" = some (.ref f2))
    (G3 : FnOk P w K mg base CX0 k f3 fd3 ["self"] (spNames K C)) (b3 : Binds K fd3 ["self"] [])
    (G4 : FnOk P w K mg base CX0 (k + 1) f4 fd4 ["reached", "left"] (spNext K)) (b4 : Binds K fd4 ["reached", "left"] []) (k4 : PySem.W.keepIn K (.ref f4) = true) (m4 : mg "_next_layer" = some (.ref f4))
    (G5 : FnOk P w K mg base CX0 (k + 1) f5 fd5 ["names", "left_out"] (spWithout K)) (b5 : Binds K fd5 ["names", "left_out"] []) (k5 : PySem.W.keepIn K (.ref f5) = true) (m5 : mg "without" = some (.ref f5)) :
    FnOk P w K mg base (L2.CX P w) (k + 2) f fd ["program"] (spLayers K C CE) := by
  refine F.okX scLayers (fun vs H Q E h => ?_) (fun cdv A outer s H vs Q E hr h => ?_)
  · obtain ⟨v, rfl, _⟩ := h
    rfl
  obtain ⟨v, rfl, h⟩ := h
  refine ⟨_, pss_cons (ps_expr (pe_call G1 hr (by rfl) m1 k1 b1 .nil (passes_call (takes_of rfl rfl rfl rfl) (fun _ _ _ _ h => h)) (pa_cons (pv 0) pa_nil)))
    (pss_cons (ps_set (i := 1) scLayers.nd rfl (.inl rfl) (pe_call G2 hr (by rfl) m2 k2 b2 .nil pass0 (pa_cons (pv 0) pa_nil)))
    (pss_cons (ps_set (i := 2) scLayers.nd rfl (.inl rfl) (pe_lst pa_nil))
    (pss_cons (ps_set (i := 3) scLayers.nd rfl (.inl rfl) (pe_prop (pv 0) c hpN G3 hr b3 .nil pass0 rfl))
    (pss_cons (ps_while (passes_of rfl) (pt_truth (pv 3) fun _ => rfl)
      (pss_cons (ps_set (i := 4) scLayers.nd rfl (.inl rfl) (pe_call G4 hr (by rfl) m4 k4 b4 .nil pass0 (pa_cons (pv 1) (pa_cons (pv 3) pa_nil))))
      (pss_cons (ps_expr (pe_bm PySem.F.plainAttrs_list PySem.F.slot_list_append PySem.F.type_list_append mt_append (pv 2) (pa_cons (pv 4) pa_nil)))
      (pss_one (ps_set (i := 3) scLayers.nd rfl (.inl rfl) (pe_call G5 hr (by rfl) m5 k5 b5 .nil pass0 (pa_cons (pv 3) (pa_cons (pv 4) pa_nil))))))))
    (pss_one (ps_ret (pv 2))))))), ?_⟩
  rcases h with ⟨S, bd, hS, hI, few, hbd, lbd, q⟩ | ⟨d, hd, q⟩
  · refine ⟨v, rfl, v, rfl, .inl ⟨S, hS, ?_⟩⟩
    refine ⟨v, rfl, v, S, bd, rfl, hS, hI, few, hbd, lbd, fun H3 Fd ns ad L s3 hR hns hmem hL => ?_⟩
    refine ⟨by show 0 ≤ sizeLine; decide, fun D hD => ?_⟩
    have s4 := same_new hD (.lst [])
    have hD0 : H D = none := none_back s3 hD
    obtain ⟨a, dx, t0, ys0, rfl, i1', i2', i3'⟩ := id hS
    refine ⟨.ref a, rfl, a, dx, _, rfl, (s3.trans s4) _ _ i1', .ref a, S, bd, rfl, hS.same (s3.trans s4), hI, hbd, lbd, fun H5 tn ns2 s5 htn hns2 hmem2 => ?_⟩
    obtain rfl : ns = ns2 := upX_one hns.up hns2.up fun z => (hmem z).trans (hmem2 z).symm
    have n40 := hns.few
    dsimp only [gName, tSeq, tAsg, tC, List.set]
    refine while_by (fun σ H' => ∃ (lf : W) (t : Addr) (ys : List V) (R : List W) (y4 : Option V), σ = [some (.ref a), some (.ref Fd), some (.ref D), some (.ref t), y4] ∧ Same H3 H' ∧ H' D = some (.lst ys) ∧ DpAll K H' ys (R.map wd) ∧ SqT K H' t (lf.map V.str) ∧ UpX lf ∧ (∀ z ∈ lf, z ∈ ns) ∧ R.length + lf.length ≤ ns.length ∧ ∀ R2, LayO S lf R2 → LayO S ns (R ++ R2))
      (fun σ H' => 41 - (match H' D with | some (.lst ys) => ys.length | _ => 0)) ⟨ns, tn, [], [], _, rfl, s4.trans s5, s5 _ _ upd_same, .nil, htn, hns.up, fun _ h => h, by show 0 + _ ≤ _; omega, fun R2 h => h⟩ (fun σ H6 hP => ?_) (fun σ H2 Q1 Q2 m h => by
      obtain ⟨x, e, k, hk, q⟩ := h
      exact ⟨x, e, k, hk, m _ _ q⟩)
    obtain ⟨lf, t, ys, R, y4, rfl, s6, hD6, hys, ht, hup, hsub, hlen, hlay⟩ := hP
    have lys : ys.length = R.length := by rw [dpAll_len hys, List.length_map]
    refine ⟨.ref t, rfl, _, .inr (.inl ⟨_, ht, rfl⟩), ?_⟩
    have eE : (!(lf.map V.str).isEmpty) = !lf.isEmpty := by rw [List.isEmpty_map]
    rw [eE]
    refine ite2 (fun e => ?_) (fun e => ?_)
    · have ne : lf ≠ [] := fun z => by
        rw [z] at e
        cases e
      obtain ⟨x, rest, hf⟩ := rdy_first (S := S) hL hsub ne
      refine ⟨.ref Fd, rfl, .ref t, rfl, Fd, t, ns, lf, ad, L, x, rest, rfl, hR.same s6, n40, ht, hsub, Nat.le_trans (len_le (upX_nodup hup) hsub) n40, hf, fun H7 p s7 hp => ?_⟩
      have hD7 := s7 _ _ hD6
      have hxl : x ∈ lf := (List.mem_filter.mp (show x ∈ lf.filter (rdyB lf L) by rw [hf]; exact List.mem_cons_self)).1
      have hxx : x ∈ layF lf L x := by
        unfold layF
        rw [List.mem_filter]
        exact ⟨hxl, by simp⟩
      have less := minus_less hxl hxx
      have pos : 0 < lf.length := List.length_pos_iff.mpr ne
      refine ⟨.ref D, rfl, .inl ⟨rfl, _, SqL.of hD7⟩, .ref p, rfl, D, _, _, rfl, rfl, hD7, small_line' (by omega), ?_⟩
      have st : Stay H7 (upd H7 D (.lst (ys ++ [V.ref p]))) := Stay.put (by rw [hD7]; exact True.intro) _
      refine ⟨.ref t, rfl, .ref p, rfl, .ref t, .ref p, lf, layF lf L x, rfl, to_wd (st.seq (same_tup s7 ht)), .wd (to_wd (st.seq hp)), Nat.le_trans (len_le (upX_nodup hup) hsub) (by omega), fun H8 v8 s8 h8 => ?_⟩
      obtain ⟨t8, rfl, ht8⟩ := of_wd h8
      have hD8 := s8 _ _ (upd_same : (upd H7 D (.lst (ys ++ [V.ref p]))) D = _)
      refine ⟨⟨minus lf (layF lf L x), t8, ys ++ [.ref p], R ++ [layF lf L x], _, rfl, (same_put (s6.trans s7) hD).trans s8, hD8, ?_, ht8, hup.sublist List.filter_sublist, fun z hz => hsub z (List.mem_filter.mp hz).1, by rw [List.length_append]; show R.length + 1 + _ ≤ _; omega, fun R2 h => ?_⟩, ?_⟩
      · rw [List.map_append]
        exact dpAll_app ((((Stay.same s7).trans st).trans (Stay.same s8)).dpAll _ _ (okDs_wd R) hys) (.cons (to_wd ((st.trans (Stay.same s8)).seq hp)) .nil)
      · rw [List.append_assoc]
        exact hlay _ (lay_next hL hsub hup hf h)
      · show 41 - (match H8 D with | some (.lst ys) => ys.length | _ => 0) < 41 - (match H6 D with | some (.lst ys) => ys.length | _ => 0)
        rw [hD8, hD6]
        show 41 - (ys ++ [V.ref p]).length < 41 - ys.length
        rw [List.length_append]
        show 41 - (ys.length + 1) < _
        omega
    · have e' : lf = [] := by
        cases lf with
        | nil => rfl
        | cons a b => exact absurd rfl e
      subst e'
      have z := hlay [] .nil
      rw [List.append_nil] at z
      exact ⟨.ref D, rfl, q H6 D ys ns R (s3.trans s6) hD0 hD6 hys hns hmem z⟩
  · exact ⟨v, rfl, v, rfl, .inr ⟨d, hd, q⟩⟩
end
end Rw
namespace Rw
open PySem PySem.Spec PyProof.Rows L2
/-! ### the law's own defs: numbers -/
abbrev sLawAt : Stmt := topS 34
abbrev sLawMixed : Stmt := topS 35
abbrev sLawPurse : Stmt := topS 36
abbrev sLawDraw : Stmt := topS 37
theorem scLawAt : FnScope ["script", "k"] ["script", "k"] (defScope sLawAt) := ⟨rfl, rfl, rfl, by decide +kernel, rfl, by decide +kernel, by decide +kernel⟩
theorem scLawMixed : FnScope ["cell", "k", "number"] ["cell", "k"] (defScope sLawMixed) := ⟨rfl, rfl, rfl, by decide +kernel, rfl, by decide +kernel, by decide +kernel⟩
theorem scLawPurse : FnScope ["script", "at", "cell"] ["script", "at"] (defScope sLawPurse) := ⟨rfl, rfl, rfl, by decide +kernel, rfl, by decide +kernel, by decide +kernel⟩
theorem scLawDraw : FnScope ["purse", "out_of", "drawn", "number", "k"] ["purse", "out_of"] (defScope sLawDraw) := ⟨rfl, rfl, rfl, by decide +kernel, rfl, by decide +kernel, by decide +kernel⟩
theorem bits_small {n : Int} (h0 : 1 ≤ n) (h1 : n ≤ 1000) : (Builtin.Int.intBits n : Nat) < 30 := by
  have h : Builtin.Int.intBits n ≤ 29 := PySem.intBits_le_iff.mpr (by omega)
  omega
section
variable {P : Program} {w : World} {K : PySem.W.Frag} {mg : Str → Option Value} {base : Heap} {f : Addr} {fd : FuncData} {k : Nat}
def spLawAt (K : PySem.W.Frag) : Sp := fun vs H Q _ => ∃ (a : Addr) (ns : List Int) (j : Nat), vs = [.ref a, .int j] ∧ SqL K H a (ns.map V.int) ∧ ns.length ≤ 63 ∧ ∀ r, Q (.int r) H
theorem ok_lawAt (F : Fun K "_law_at" "_law_at" sLawAt f fd) (T : Bl mg) : FnOk P w K mg base CX0 (k + 1) f fd ["script", "k"] (spLawAt K) := by
  refine F.ok scLawAt (fun vs H Q E h => ?_) (fun cdv A outer s H vs Q E hr h => ?_)
  · obtain ⟨a, ns, j, rfl, _⟩ := h
    rfl
  obtain ⟨a, ns, j, rfl, hS, hl, q⟩ := h
  refine ⟨_, pss_cons (ps_if (pt_cmpR op_lt (pv 1) (pe_callB call_len_seq (by rfl) T.len PySem.boot_len (pa_cons (pv 0) pa_nil)) (nomark _)) (pss_one (ps_ret (pe_ix ix_list (pv 0) (pv 1) (fun _ _ => rfl)))) pss_nil) (pss_one (ps_ret pe_int)), ?_⟩
  refine ⟨.int j, rfl, .ref a, rfl, a, _, rfl, .inl hS, j, _, rfl, rfl, _, rfl, ite2 (fun e => ?_) (fun _ => ?_)⟩
  · have hlt : j < (ns.map V.int).length := by
      have := of_decide_eq_true e
      omega
    have hlt' : j < ns.length := by rwa [List.length_map] at hlt
    refine ⟨.ref a, rfl, .int j, rfl, a, _, j, .int ns[j], rfl, rfl, hS, atI_nat (j := j) ?_, q _⟩
    rw [List.getElem?_map, List.getElem?_eq_getElem hlt']
    rfl
  · exact q _
def spLawMixed : Sp := fun vs H Q _ => ∃ c k : Int, vs = [.int c, .int k] ∧ 0 ≤ c ∧ c < 2147483647 ∧ 0 ≤ k ∧ k ≤ 2000000 ∧ ∀ r, 0 ≤ r → Q (.int r) H
theorem ok_lawMixed (F : Fun K "_law_mixed" "_law_mixed" sLawMixed f fd) (T : Bl mg) : FnOk P w K mg base CX0 (k + 1) f fd ["cell", "k"] spLawMixed := by
  refine F.ok scLawMixed (fun vs H Q E h => ?_) (fun cdv A outer s H vs Q E hr h => ?_)
  · obtain ⟨c, k, rfl, _⟩ := h
    rfl
  obtain ⟨c, k, rfl, c0, c1, k0, k1, q⟩ := h
  refine ⟨_, pss_cons (ps_set (i := 2) scLawMixed.nd rfl (.inl rfl) (pe_op op_mod (pe_callTy call_int1 (by rfl) T.int (by decide +kernel) (pa_cons (pe_op op_add (pe_op op_add (pe_op op_add (pe_op op_mul (pv 0) pe_int) (pe_op op_mul (pe_op op_mul pe_int (pv 1)) (pv 1))) (pv 1)) pe_int) pa_nil)) pe_int))
    (pss_cons (ps_set (i := 2) scLawMixed.nd rfl (.inl rfl) (pe_op op_mod (pe_callTy call_int1 (by rfl) T.int (by decide +kernel) (pa_cons (pe_op op_add (pe_op op_mul (pv 2) (pv 2)) pe_int) pa_nil)) pe_int))
    (pss_one (ps_ret (pe_op op_mod (pe_callTy call_int1 (by rfl) T.int (by decide +kernel) (pa_cons (pe_op op_mul (pv 2) pe_int) pa_nil)) pe_int)))), ?_⟩
  refine ⟨.int c, rfl, c, _, rfl, rfl, .inl ⟨by omega, by omega⟩, .int k, rfl, _, k, rfl, rfl, .inl ⟨by decide, by decide⟩, .int k, rfl, _, k, rfl, rfl, .inl ⟨by omega, by omega⟩, ?_⟩
  refine ⟨_, _, rfl, rfl, .int k, rfl, _, k, rfl, rfl, _, _, rfl, rfl, .inl ⟨_, rfl, _, _, rfl, rfl, by show (0 : Int) < 2147483647; decide, ?_⟩⟩
  refine ⟨_, rfl, _, rfl, _, _, rfl, rfl, .inl (b64 (Int.emod_nonneg _ (by decide)) (Int.emod_lt_of_pos _ (by decide))), _, _, rfl, rfl, .inl ⟨_, rfl, _, _, rfl, rfl, by show (0 : Int) < 2147483629; decide, ?_⟩⟩
  refine ⟨_, rfl, _, _, rfl, rfl, .inl (b64 (Int.emod_nonneg _ (by decide)) (Int.lt_trans (Int.emod_lt_of_pos _ (by decide)) (by decide))), .inl ⟨_, rfl, _, _, rfl, rfl, by show (0 : Int) < 2147483587; decide, q _ (Int.emod_nonneg _ (by decide))⟩⟩
def spLawPurse (K : PySem.W.Frag) : Sp := fun vs H Q _ => ∃ (a : Addr) (ns : List Int) (j : Nat), vs = [.ref a, .int j] ∧ SqL K H a (ns.map V.int) ∧ ns.length ≤ 63 ∧ j ≤ 100 ∧ ∀ H' p, Same H H' → H p = none → Pur H' p 100000 → Q (.ref p) H'
theorem ok_lawPurse {f1 : Addr} {fd1 : FuncData} (F : Fun K "_law_purse" "_law_purse" sLawPurse f fd) (T : Bl mg) (G1 : FnOk P w K mg base CX0 k f1 fd1 ["script", "k"] (spLawAt K)) (b1 : Binds K fd1 ["script", "k"] []) (k1 : PySem.W.keepIn K (.ref f1) = true) (m1 : mg "_law_at" = some (.ref f1)) :
    FnOk P w K mg base CX0 (k + 1) f fd ["script", "at"] (spLawPurse K) := by
  refine F.ok scLawPurse (fun vs H Q E h => ?_) (fun cdv A outer s H vs Q E hr h => ?_)
  · obtain ⟨a, ns, j, rfl, _⟩ := h
    rfl
  obtain ⟨a, ns, j, rfl, hS, hl, hj, q⟩ := h
  refine ⟨_, pss_cons (ps_set (i := 2) scLawPurse.nd rfl (.inl rfl) (pe_call G1 hr (by rfl) m1 k1 b1 .nil pass0 (pa_cons (pv 0) (pa_cons (pv 1) pa_nil))))
    (pss_one (ps_ret (pe_lst (pa_cons (pe_op op_mod (pe_callTy call_int1 (by rfl) T.int (by decide +kernel) (pa_cons (pe_callB (call_max2 rfl) (by rfl) T.max (by decide +kernel) (pa_cons (pe_op op_sub (pv 2) (pe_op op_pow pe_int pe_int)) (pa_cons pe_int pa_nil))) pa_nil)) (pe_op op_powB (pe_op op_pow pe_int pe_int) pe_int))
      (pa_cons (pe_op op_mod (pe_callTy call_int1 (by rfl) T.int (by decide +kernel) (pa_cons (pv 2) pa_nil)) pe_int) (pa_cons (pe_op op_mul pe_int (pv 1)) pa_nil)))))), ?_⟩
  refine ⟨.ref a, rfl, .int j, rfl, a, ns, j, rfl, hS, hl, fun c => ?_⟩
  refine ⟨.int c, rfl, _, _, rfl, rfl, ⟨by decide, by decide, by decide⟩, _, _, rfl, rfl, _, _, rfl, .inl ⟨_, rfl, _, _, rfl, rfl, ⟨by decide, by decide, by decide⟩, _, _, rfl, rfl, ⟨by decide, by decide +kernel⟩, _, _, rfl, rfl, by show (0 : Int) < (10 ^ Int.toNat 60) ^ Int.toNat 10; decide +kernel, ?_⟩⟩
  refine ⟨.int c, rfl, .inl ⟨_, rfl, _, _, rfl, rfl, by show (0 : Int) < 2147483647; decide, .int j, rfl, _, _, rfl, rfl, .inl ⟨by decide, by decide⟩, by show 3 ≤ sizeLine; decide, fun p hp => ?_⟩⟩
  refine q _ p (same_new hp _) hp ⟨_, _, _, upd_same, Int.emod_nonneg _ (by decide +kernel), Int.emod_nonneg _ (by decide), Int.emod_lt_of_pos _ (by decide), ?_, ?_⟩
  · show (0 : Int) ≤ 1000 * (j : Int)
    omega
  · show 1000 * (j : Int) ≤ 100000
    omega
def spLawDraw : Sp := fun vs H Q _ => ∃ (p : Addr) (n c : Int), vs = [.ref p, .int n] ∧ Pur H p c ∧ c ≤ 1000000 ∧ 1 ≤ n ∧ n ≤ 1000 ∧ ∀ r us, 0 ≤ r → r < n → Pur (upd H p (.lst us)) p (c + 1) → Q (.int r) (upd H p (.lst us))
theorem ok_lawDraw {f1 : Addr} {fd1 : FuncData} (F : Fun K "_law_draw" "_law_draw" sLawDraw f fd) (T : Bl mg) (G1 : FnOk P w K mg base CX0 k f1 fd1 ["cell", "k"] spLawMixed) (b1 : Binds K fd1 ["cell", "k"] []) (k1 : PySem.W.keepIn K (.ref f1) = true) (m1 : mg "_law_mixed" = some (.ref f1)) :
    FnOk P w K mg base CX0 (k + 1) f fd ["purse", "out_of"] spLawDraw := by
  refine F.ok scLawDraw (fun vs H Q E h => ?_) (fun cdv A outer s H vs Q E hr h => ?_)
  · obtain ⟨p, n, c, rfl, _⟩ := h
    rfl
  obtain ⟨p, n, c, rfl, ⟨a, b, e, hp, a0, b0, b1', e0, e1⟩, c1, n0, n1, q⟩ := h
  refine ⟨_, pss_cons (ps_if (pt_cmpR op_gt (pe_ix ix_list (pv 0) pe_int (fun _ _ => rfl)) pe_int (nomark _))
      (pss_cons (ps_set (i := 2) scLawDraw.nd rfl (.inl rfl) (pe_op op_mod (pe_callTy call_int1 (by rfl) T.int (by decide +kernel) (pa_cons (pe_ix ix_list (pv 0) pe_int (fun _ _ => rfl)) pa_nil)) (pv 1)))
      (pss_cons (ps_asg (pe_op op_fdiv (pe_ix ix_list (pv 0) pe_int (fun _ _ => rfl)) (pv 1)) (pg_sub (pv 0) pe_int set_list)) (pss_one (ps_ret (pv 2))))) pss_nil)
    (pss_cons (ps_set (i := 3) scLawDraw.nd rfl (.inl rfl) pe_int)
    (pss_cons (ps_for PassesOwn.never rfl (pi_range1 rfl T.range (pa_cons (pe_op op_add pe_int (pe_op op_fdiv (pe_bits (pv 1)) pe_int)) pa_nil)) (pg_name (i := 4) scLawDraw.nd rfl (.inl rfl))
      (pss_cons (ps_asg (pe_op op_add (pe_ix ix_list (pv 0) pe_int (fun _ _ => rfl)) pe_int) (pg_sub (pv 0) pe_int set_list))
      (pss_one (ps_set (i := 3) scLawDraw.nd rfl (.inl rfl) (pe_op op_add (pe_op op_mul (pv 3) pe_int) (pe_call G1 hr (by rfl) m1 k1 b1 .nil pass0 (pa_cons (pe_ix ix_list (pv 0) pe_int (fun _ _ => rfl)) (pa_cons (pe_ix ix_list (pv 0) pe_int (fun _ _ => rfl)) pa_nil))))))))
    (pss_one (ps_ret (pe_op op_mod (pe_callTy call_int1 (by rfl) T.int (by decide +kernel) (pa_cons (pv 3) pa_nil)) (pv 1)))))), ?_⟩
  have hS : SqL K H p [.int a, .int b, .int e] := SqL.of hp
  refine ⟨.ref p, rfl, p, _, 0, .int a, rfl, rfl, hS, atI_nat (j := 0) rfl, _, _, rfl, rfl, _, rfl, ite2 (fun g => ?_) (fun _ => ?_)⟩
  · refine ⟨.ref p, rfl, p, _, 0, .int a, rfl, rfl, hS, atI_nat (j := 0) rfl, .inl ⟨_, rfl, .int n, rfl, _, _, rfl, rfl, by show 0 < n; omega, ?_⟩⟩
    refine ⟨.ref p, rfl, p, _, 0, .int a, rfl, rfl, hS, atI_nat (j := 0) rfl, .int n, rfl, _, _, rfl, rfl, ⟨by omega, by omega⟩, .ref p, rfl, p, _, 0, 0, rfl, rfl, hp, rfl, ?_⟩
    refine ⟨.int (a % n), rfl, q _ _ (Int.emod_nonneg _ (by omega)) (Int.emod_lt_of_pos _ (by omega)) ⟨a / n, b, e, upd_same, Int.ediv_nonneg a0 (by omega), b0, b1', e0, by omega⟩⟩
  · have bs := bits_small n0 n1
    have one : (1 : Int) + ((Builtin.Int.intBits n : Nat) : Int) / 30 = 1 := by omega
    refine ⟨.int n, rfl, n, rfl, _, _, rfl, rfl, ⟨by decide, by decide⟩, _, _, rfl, rfl, ?_⟩
    refine ⟨1, congrArg (fun z => [V.int z]) one, by decide, by decide, for_range (n := 1) (fun i σ H1 => (i = 0 ∧ σ = [some (.ref p), some (.int n), none, some (.int 0), none] ∧ H1 = H) ∨ (i = 1 ∧ ∃ r, 0 ≤ r ∧ σ = [some (.ref p), some (.int n), none, some (.int r), some (.int 0)] ∧ H1 = upd H p (.lst [.int a, .int b, .int (e + 1)]))) (.inl ⟨rfl, rfl, rfl⟩) (fun i σ H1 il hI => ?_) (fun σ H1 hI => ?_)⟩
    · rcases hI with ⟨rfl, rfl, rfl⟩ | ⟨rfl, _⟩
      · refine ⟨.ref p, rfl, p, _, 2, .int e, rfl, rfl, hS, atI_nat (j := 2) rfl, _, _, rfl, rfl, .ref p, rfl, p, _, 2, 2, rfl, rfl, hp, rfl, ?_⟩
        have hS2 : SqL K (upd H1 p (.lst [.int a, .int b, .int (e + 1)])) p [.int a, .int b, .int (e + 1)] := SqL.of upd_same
        refine ⟨.int 0, rfl, _, _, rfl, rfl, .inl ⟨by decide, by decide⟩, .ref p, rfl, p, _, 1, .int b, rfl, rfl, hS2, atI_nat (j := 1) rfl, .ref p, rfl, p, _, 2, .int (e + 1), rfl, rfl, hS2, atI_nat (j := 2) rfl, b, e + 1, rfl, b0, b1', by omega, by omega, fun r r0 => ?_⟩
        exact ⟨_, _, rfl, rfl, .inr ⟨rfl, 0 * 2147483587 + r, by omega, rfl, rfl⟩⟩
      · omega
    · rcases hI with ⟨z, _⟩ | ⟨_, r, r0, rfl, rfl⟩
      · omega
      · refine ⟨.int r, rfl, .inl ⟨r, rfl, .int n, rfl, _, _, rfl, rfl, by show 0 < n; omega, ?_⟩⟩
        exact q _ _ (Int.emod_nonneg _ (by omega)) (Int.emod_lt_of_pos _ (by omega)) ⟨a, b, e + 1, upd_same, a0, b0, b1', by omega, by omega⟩
end
end Rw
namespace Rw
open PySem PySem.Spec PyProof.Rows L2
/-! ### _law_some -/
def rLenK (K : PySem.W.Frag) : List V → Hp → VK → Prop := fun xs H Q => ∃ p ys, xs = [V.ref p] ∧ (SqL K H p ys ∨ SqT K H p ys) ∧ Q (.int ys.length) H
abbrev sLawSome : Stmt := topS 38
theorem scLawSome : FnScope ["purse", "names", "most", "found", "name"] ["purse", "names", "most"] (defScope sLawSome) := ⟨rfl, rfl, rfl, by decide +kernel, rfl, by decide +kernel, by decide +kernel⟩
section
variable {P : Program} {w : World} {K : PySem.W.Frag} {mg : Str → Option Value} {base : Heap} {f : Addr} {fd : FuncData} {k : Nat}
def spLawSome (K : PySem.W.Frag) : Sp := fun vs H Q _ => ∃ (p l : Addr) (c m : Int) (ns : W), vs = [.ref p, .ref l, .int m] ∧ Pur H p c ∧ c ≤ 900000 ∧ l ≠ p ∧ H l = some (.lst (ns.map V.str)) ∧ 1 ≤ ns.length ∧ ns.length ≤ 40 ∧
  ∀ (H' : Hp) (t : Addr) (zs : W), Bar p H H' → Pur H' p (c + 40) → SqT K H' t (zs.map V.str) → zs.Sublist ns → Q (.ref t) H'
theorem ok_lawSome {f1 : Addr} {fd1 : FuncData} (F : Fun K "_law_some" "_law_some" sLawSome f fd) (T : Bl mg) (G1 : FnOk P w K mg base CX0 k f1 fd1 ["purse", "out_of"] spLawDraw) (b1 : Binds K fd1 ["purse", "out_of"] []) (k1 : PySem.W.keepIn K (.ref f1) = true) (m1 : mg "_law_draw" = some (.ref f1)) :
    FnOk P w K mg base CX0 (k + 1) f fd ["purse", "names", "most"] (spLawSome K) := by
  refine F.ok scLawSome (fun vs H Q E h => ?_) (fun cdv A outer s H vs Q E hr h => ?_)
  · obtain ⟨p, l, c, m, ns, rfl, _⟩ := h
    rfl
  obtain ⟨p, l, c, m, ns, rfl, hP, hc, nlp, hl, n1, n40, q⟩ := h
  refine ⟨_, pss_cons (ps_setLc (i := 3) (own := [("name", 4)]) (g := gName 4) (by rfl) scLawSome.nd rfl rfl (sw_true rfl rfl rfl (by decide +kernel)) (pi_list (pv 1)) (blkOk_by (N := ["purse", "names", "most", "found", "name"]) (sc := defScope sLawSome) (by decide +kernel))
        (fun _ _ _ _ _ => pg_name (i := 4) scLawSome.nd rfl (Or.inl rfl)) (fun _ _ _ _ _ => pts_one (pt_cmpR op_lt (pe_call G1 hr (by rfl) m1 k1 b1 .nil pass0 (pa_cons (pv 0) (pa_cons (pe_callB (r := rLenK K) call_len_seq (by rfl) T.len PySem.boot_len (pa_cons (pv 1) pa_nil)) pa_nil))) (pv 2) (nomark _))) (fun _ _ _ _ _ => pv 4))
    (pss_one (ps_ret (pe_callTy call_tuple_of (by rfl) T.tuple (by decide +kernel) (pa_cons (pv 3) pa_nil)))), ?_⟩
  refine ⟨.ref l, rfl, l, rfl, ⟨_, SqL.of hl⟩, fun D hD => ?_⟩
  have nDp := hP.some hD
  refine lc_list (xs := ns.map V.str) (fun i H1 => Bar p H H1 ∧ Pur H1 p (c + i) ∧ H1 l = some (.lst (ns.map V.str)) ∧ ∃ zs : W, H1 D = some (.lst (zs.map V.str)) ∧ zs.Sublist (ns.take i)) ⟨Bar.same (same_new hD _), (hP.same (same_new hD _)).le (by omega), (same_new hD _) _ _ hl, [], upd_same, List.nil_sublist _⟩ (fun i H1 _ hI => SqL.of hI.2.2.1) (fun i x H1 hxi hI => ?_) (fun H1 hI => ?_)
  · obtain ⟨bar, pu, hl1, zs, hd, hsub⟩ := hI
    obtain ⟨z, hz, rfl⟩ := map_at hxi
    have il : i < ns.length := (List.getElem?_eq_some_iff.mp hz).1
    have ln : ((ns.map V.str).length : Int) = ns.length := by rw [List.length_map]
    refine ⟨rfl, .ref p, rfl, .ref l, rfl, l, _, rfl, .inl (SqL.of hl1), p, _, c + i, rfl, pu, by omega, by rw [ln]; omega, by rw [ln]; omega, fun r us r0 r1 hP1 => ?_⟩
    have bar2 : Bar p H (upd H1 p (.lst us)) := bar.trans .draw
    have hl2 : (upd H1 p (.lst us)) l = some (.lst (ns.map V.str)) := by
      rw [upd_ne nlp]
      exact hl1
    have hd2 : (upd H1 p (.lst us)) D = some (.lst (zs.map V.str)) := by
      rw [upd_ne nDp]
      exact hd
    have pu2 : Pur (upd H1 p (.lst us)) p (c + ((i + 1 : Nat) : Int)) := hP1.le (by omega)
    have hDl : l ≠ D := fun e => by
      rw [e, hD] at hl
      cases hl
    refine ⟨.int m, rfl, r, m, rfl, rfl, _, rfl, ite2 (fun e => ?_) (fun e => ?_)⟩
    · refine ⟨.str z, rfl, _, hd2, small_line' ?_, bar2.put hD, pu2.put nDp, ?_, zs ++ [z], ?_, ?_⟩
      · rw [List.length_map]
        have := hsub.length_le
        rw [List.length_take] at this
        omega
      · rw [upd_ne hDl]
        exact hl2
      · rw [upd_same, List.map_append]
        rfl
      · rw [take_snoc hz]
        exact hsub.append (List.Sublist.refl _)
    · refine ⟨bar2, pu2, hl2, zs, hd2, ?_⟩
      rw [take_snoc hz]
      exact hsub.trans (List.sublist_append_left _ _)
  · obtain ⟨bar, pu, hl1, zs, hd, hsub⟩ := hI
    rw [List.length_map, List.take_length] at hsub
    rw [List.length_map] at pu
    refine ⟨.ref D, rfl, D, _, rfl, .inl ⟨SqL.of hd, fun t ht => ?_⟩⟩
    exact q _ t zs (bar.trans (.same (same_new ht _))) ((pu.same (same_new ht _)).le (by omega)) (SqT.of upd_same) hsub
end
end Rw
namespace Rw
open PySem PySem.Spec PyProof.Rows L2
def basicB (r : Rl) : Bool := decide (r.1.length = 1) && r.2.1.isEmpty
abbrev sLawRule : Stmt := topS 39
theorem scLawRule : FnScope ["purse", "names", "sort", "heads", "denied"] ["purse", "names", "sort"] (defScope sLawRule) := ⟨rfl, rfl, rfl, by decide +kernel, rfl, by decide +kernel, by decide +kernel⟩
theorem slA_w {K : PySem.W.Frag} {H : Hp} {a : Addr} {xs : List V} {lo hi : Option Int} {Q : VK} (hx : SqT K H a xs) (q : ∀ c H0, Same H H0 → SqT K H0 c (cutV xs lo hi) → Q (.ref c) H0) : rSlA K (.ref a) lo hi H Q := by
  refine ⟨a, xs, rfl, hx, fun ⟨e1, e2⟩ => q a H (fun _ _ e => e) ?_, fun _ p hp => q p _ (same_new hp _) (SqT.of upd_same)⟩
  unfold cutV
  rw [e1, e2, List.drop_zero, Nat.sub_zero, List.take_length]
  exact hx
theorem cut_map (zs : W) (j : Int) : ∃ m, cutV (zs.map V.str) none (some j) = (zs.take m).map V.str := by
  refine ⟨HT.sIx (zs.map V.str).length (zs.map V.str).length (some j), ?_⟩
  unfold cutV
  show ((zs.map V.str).drop 0).take (_ - 0) = _
  rw [List.drop_zero, Nat.sub_zero, List.map_take]
theorem isW_sub {ns zs : W} (h : IsW ns) (s : zs.Sublist ns) : IsW zs := ⟨fun x hx => h.names x (s.subset hx), List.Pairwise.sublist s h.up, Nat.le_trans s.length_le h.few⟩
theorem four_at {m : Nat} (h : m < 4) : ∃ j : Int, [V.int 2, V.int 2, V.int 2, V.int 4][m]? = some (.int j) := by
  rcases m with _ | _ | _ | _ | m
  · exact ⟨_, rfl⟩
  · exact ⟨_, rfl⟩
  · exact ⟨_, rfl⟩
  · exact ⟨_, rfl⟩
  · omega
section
variable {P : Program} {w : World} {K : PySem.W.Frag} {mg : Str → Option Value} {base : Heap} {f : Addr} {fd : FuncData} {k : Nat}
def spLawRule (K : PySem.W.Frag) : Sp := fun vs H Q _ => ∃ (p l : Addr) (c sort : Int) (ns : W), vs = [.ref p, .ref l, .int sort] ∧ (sort = 0 ∨ sort = 1 ∨ sort = 2) ∧ Pur H p c ∧ c ≤ 800000 ∧ l ≠ p ∧ H l = some (.lst (ns.map V.str)) ∧ 1 ≤ ns.length ∧ IsW ns ∧
  ∀ (H' : Hp) (v : V) (r : Rl), Bar p H H' → Pur H' p (c + 300) → Dp K H' v (rd r) → IsR r → (∀ t ∈ parts r, t.Sublist ns) → (sort = 0 → basicB r = true) → Q v H'
theorem ok_lawRule {f1 f2 : Addr} {fd1 fd2 : FuncData} (F : Fun K "_law_rule" "_law_rule" sLawRule f fd) (T : Bl mg) (G1 : FnOk P w K mg base CX0 k f1 fd1 ["purse", "out_of"] spLawDraw) (b1 : Binds K fd1 ["purse", "out_of"] []) (k1 : PySem.W.keepIn K (.ref f1) = true) (m1 : mg "_law_draw" = some (.ref f1))
    (G2 : FnOk P w K mg base CX0 k f2 fd2 ["purse", "names", "most"] (spLawSome K)) (b2 : Binds K fd2 ["purse", "names", "most"] []) (k2 : PySem.W.keepIn K (.ref f2) = true) (m2 : mg "_law_some" = some (.ref f2)) :
    FnOk P w K mg base CX0 (k + 1) f fd ["purse", "names", "sort"] (spLawRule K) := by
  refine F.ok scLawRule (fun vs H Q E h => ?_) (fun cdv A outer s H vs Q E hr h => ?_)
  · obtain ⟨p, l, c, sort, ns, rfl, _⟩ := h
    rfl
  obtain ⟨p, l, c, sort, ns, rfl, hsort, hP, hc, nlp, hl, n1, hn, q⟩ := h
  have n40 := hn.few
  refine ⟨_, pss_cons (ps_set (i := 3) scLawRule.nd rfl (.inl rfl) (pe_call G2 hr (by rfl) m2 k2 b2 .nil pass0 (pa_cons (pv 0) (pa_cons (pv 1) (pa_cons (pe_op op_add pe_int (pe_call G1 hr (by rfl) m1 k1 b1 .nil pass0 (pa_cons (pv 0) (pa_cons pe_int pa_nil)))) pa_nil)))))
    (pss_cons (ps_set (i := 3) scLawRule.nd rfl (.inl rfl) (pe_slice sl_tupA (pv 3) po_none (po_some (pe_ix ix_list (pe_lst (pa_cons pe_int (pa_cons pe_int (pa_cons pe_int (pa_cons pe_int pa_nil))))) (pe_call G1 hr (by rfl) m1 k1 b1 .nil pass0 (pa_cons (pv 0) (pa_cons pe_int pa_nil))) (fun _ _ => rfl)))))
    (pss_mid (ps_if (pt_cmpR op_eq (pv 2) pe_int (nomark _)) (pss_one (ps_set (i := 3) scLawRule.nd rfl (.inl rfl) (pe_tup (pa_cons (pe_ix ix_list (pv 1) (pe_call G1 hr (by rfl) m1 k1 b1 .nil pass0 (pa_cons (pv 0) (pa_cons (pe_callB call_len_seq (by rfl) T.len PySem.boot_len (pa_cons (pv 1) pa_nil)) pa_nil))) (fun _ _ => rfl)) pa_nil)))) pss_nil)
    (pss_cons (ps_set (i := 4) scLawRule.nd rfl (.inl rfl) (pe_tup pa_nil))
    (pss_mid (ps_if (PW.pt (pw_and (pt_cmpR op_eq (pv 2) pe_int (nomark _)) (pw_and1 (pt_cmpR op_eq (pe_call G1 hr (by rfl) m1 k1 b1 .nil pass0 (pa_cons (pv 0) (pa_cons pe_int pa_nil))) pe_int (nomark _))))) (pss_one (ps_set (i := 4) scLawRule.nd rfl (.inl rfl) (pe_call G2 hr (by rfl) m2 k2 b2 .nil pass0 (pa_cons (pv 0) (pa_cons (pv 1) (pa_cons pe_int pa_nil)))))) pss_nil)
    (pss_one (ps_ret (pe_tup (pa_cons (pv 3) (pa_cons (pv 4) (pa_cons (pe_call G2 hr (by rfl) m2 k2 b2 .nil pass0 (pa_cons (pv 0) (pa_cons (pv 1) (pa_cons pe_int pa_nil)))) (pa_cons (pe_call G2 hr (by rfl) m2 k2 b2 .nil pass0 (pa_cons (pv 0) (pa_cons (pv 1) (pa_cons pe_int pa_nil)))) pa_nil))))))))))), ?_⟩
  have lat : ∀ H', Bar p H H' → H' l = some (.lst (ns.map V.str)) := fun H' b => b _ _ nlp hl
  have sty : ∀ H', Bar p H H' → Stay H H' := fun H' b => b.stay hP.mut
  -- heads
  refine ⟨.ref p, rfl, .ref l, rfl, .ref p, rfl, p, 3, c, rfl, hP, by omega, by decide, by decide, fun r us r0 r1 hP1 => ?_⟩
  refine ⟨_, _, rfl, rfl, p, l, c + 1, _, ns, rfl, hP1, by omega, nlp, lat _ .draw, n1, n40, fun H2 t zs bar2 pu2 ht hs => ?_⟩
  have bar2' : Bar p H H2 := Bar.draw.trans bar2
  -- the slice
  refine ⟨.ref t, rfl, by show 4 ≤ sizeLine; decide, fun q4 hq4 => ?_⟩
  have s4 := same_new hq4 (.lst [.int 2, .int 2, .int 2, .int 4])
  have nq4 := pu2.some hq4
  refine ⟨.ref p, rfl, p, 4, _, rfl, pu2.same s4, by omega, by decide, by decide, fun r3 us3 r30 r31 hP3 => ?_⟩
  obtain ⟨m, rfl⟩ := Int.eq_ofNat_of_zero_le r30
  obtain ⟨j, hj⟩ := four_at (m := m) (by omega)
  refine ⟨q4, _, m, .int j, rfl, rfl, SqL.of (by rw [upd_ne nq4, upd_same]), atI_nat hj, ?_⟩
  have bar4 : Bar p H2 (upd (upd H2 q4 (.lst [.int 2, .int 2, .int 2, .int 4])) p (.lst us3)) := (Bar.same s4).trans .draw
  refine ⟨j, rfl, slA_w ((bar4.stay pu2.mut).seq ht) fun t5 H5 s5 ht5 => ?_⟩
  obtain ⟨mm, em⟩ := cut_map zs j
  rw [em] at ht5
  have bar5 : Bar p H H5 := (bar2'.trans bar4).trans (.same s5)
  have pu5 := hP3.same s5
  have hs5 : (zs.take mm).Sublist ns := (List.take_sublist _ _).trans hs
  have no : ∀ {i j : Int}, i ≠ j → V.bl (decide (V.int i = V.int j)) = V.bl false := fun n => congrArg V.bl (decide_eq_false fun e => n (by injection e))
  have yes : ∀ {i : Int}, V.bl (decide (V.int i = V.int i)) = V.bl true := congrArg V.bl (decide_eq_true rfl)
  have sortV : ∀ j : Int, ∃ b : Bool, V.bl (decide (V.int sort = V.int j)) = V.bl b ∧ (b = true ↔ sort = j) := fun j => by
    by_cases e : sort = j
    · exact ⟨true, by rw [e]; exact yes, by simp [e]⟩
    · exact ⟨false, no e, by simp [e]⟩
  refine ⟨fun σ H7 => ∃ (t7 : Addr) (hs7 : W), σ = [some (.ref p), some (.ref l), some (.int sort), some (.ref t7), none] ∧ Bar p H H7 ∧ Pur H7 p (c + 60) ∧ SqT K H7 t7 (hs7.map V.str) ∧ hs7.Sublist ns ∧ (sort = 0 → hs7.length = 1), ?_, ?_⟩
  · obtain ⟨b0, e0, hb0⟩ := sortV 0
    refine ⟨.int sort, rfl, rfl, b0, e0, ?_⟩
    cases b0 with
    | true =>
      refine iteT ⟨.ref l, rfl, .ref p, rfl, .ref l, rfl, l, _, rfl, .inl (SqL.of (lat _ bar5)), p, _, _, rfl, pu5, by omega, by rw [List.length_map]; omega, by rw [List.length_map]; omega, fun r us r0 r1 hP7 => ?_⟩
      obtain ⟨m7, rfl⟩ := Int.eq_ofNat_of_zero_le r0
      have lt : m7 < ns.length := by
        rw [List.length_map] at r1
        omega
      have hx : (ns.map V.str)[m7]? = some (.str ns[m7]) := by rw [List.getElem?_map, List.getElem?_eq_getElem lt]; rfl
      have bar7 : Bar p H (upd H5 p (.lst us)) := bar5.trans .draw
      refine ⟨l, _, m7, _, rfl, rfl, SqL.of (lat _ bar7), atI_nat hx, by show 1 ≤ sizeLine; decide, fun t7 ht7 => ?_⟩
      have s7 := same_new ht7 (.tup [.str ns[m7]])
      exact ⟨t7, [ns[m7]], rfl, bar7.trans (.same s7), (hP7.same s7).le (by omega), SqT.of upd_same, List.singleton_sublist.mpr (List.getElem_mem lt), fun _ => rfl⟩
    | false => exact iteF ⟨t5, zs.take mm, rfl, bar5, pu5.le (by omega), ht5, hs5, fun e => absurd (hb0.mpr e) (by decide)⟩
  rintro σ6 H6 ⟨t5', hs6, rfl, bar6', pu6', h56, hsub6, one6⟩
  refine ⟨by show 0 ≤ sizeLine; decide, fun t6 ht6 => ?_⟩
  have s6 := same_new ht6 (.tup [])
  have bar6 := bar6'.trans (.same s6)
  have pu6 := pu6'.same s6
  refine ⟨fun σ H7 => ∃ (t7 : Addr) (ds : W), σ = [some (.ref p), some (.ref l), some (.int sort), some (.ref t5'), some (.ref t7)] ∧ Bar p H H7 ∧ Pur H7 p (c + 200) ∧ SqT K H7 t5' (hs6.map V.str) ∧ SqT K H7 t7 (ds.map V.str) ∧ ds.Sublist ns ∧ (sort = 0 → ds = []), ?_, ?_⟩
  · obtain ⟨b2', e2, hb2⟩ := sortV 2
    refine ⟨.int sort, rfl, rfl, b2', e2, ?_⟩
    cases b2' with
    | false => exact iteF ⟨t6, [], rfl, bar6, pu6.le (by omega), same_tup s6 h56, SqT.of upd_same, List.nil_sublist _, fun _ => rfl⟩
    | true =>
      have s2 := hb2.mp rfl
      refine iteT ⟨.ref p, rfl, p, 3, _, rfl, pu6, by omega, by decide, by decide, fun r us r0 r1 hP7 => ?_⟩
      have bar7 := bar6.trans (Bar.draw (o := .lst us))
      have sty7 := (Bar.same s6).trans (Bar.draw (p := p) (o := .lst us))
      refine ⟨rfl, _, rfl, ite2 (fun e => ?_) (fun e => ?_)⟩
      · refine ⟨.ref p, rfl, .ref l, rfl, p, l, _, 1, ns, rfl, hP7, by omega, nlp, lat _ bar7, n1, n40, fun H8 t8 z8 bar8 pu8 h8 hs8 => ?_⟩
        exact ⟨t8, z8, rfl, bar7.trans bar8, pu8.le (by omega), (((sty7.trans bar8).stay pu6'.mut).seq h56), h8, hs8, fun e => by rw [e] at s2; exact absurd s2 (by decide)⟩
      · exact ⟨t6, [], rfl, bar7, hP7.le (by omega), (sty7.stay pu6'.mut).seq h56, ((Bar.draw (p := p)).stay pu6.mut).seq (SqT.of upd_same), List.nil_sublist _, fun _ => rfl⟩
  · rintro σ7 H7 ⟨t7, ds, rfl, bar7, pu7, h5, h7, hds, none7⟩
    refine ⟨.ref t5', rfl, .ref t7, rfl, .ref p, rfl, .ref l, rfl, p, l, _, 1, ns, rfl, pu7, by omega, nlp, lat _ bar7, n1, n40, fun H8 t8 z8 bar8 pu8 h8 hs8 => ?_⟩
    refine ⟨.ref p, rfl, .ref l, rfl, p, l, _, 1, ns, rfl, pu8, by omega, nlp, lat _ (bar7.trans bar8), n1, n40, fun H9 t9 z9 bar9 pu9 h9 hs9 => ?_⟩
    refine ⟨by show 4 ≤ sizeLine; decide, fun t10 ht10 => ?_⟩
    have s10 := same_new ht10 (.tup [.ref t5', .ref t7, .ref t8, .ref t9])
    have y9 := (bar9.stay pu8.mut).trans (.same s10)
    have y8 := (bar8.stay pu7.mut).trans y9
    refine q _ (.ref t10) (hs6, ds, z8, z9) (((bar7.trans bar8).trans bar9).trans (.same s10)) ((pu9.same s10).le (by omega)) ?_ ⟨isW_sub hn hsub6, isW_sub hn hds, isW_sub hn hs8, isW_sub hn hs9⟩ (fun t ht => ?_) (fun e => ?_)
    · exact .tup (SqT.of upd_same) (.cons (to_wd (y8.seq h5)) (.cons (to_wd (y8.seq h7)) (.cons (to_wd (y9.seq h8)) (.cons (to_wd ((Stay.same s10).seq h9)) .nil))))
    · unfold parts at ht
      simp only [List.mem_cons, List.mem_nil_iff, or_false] at ht
      rcases ht with e | e | e | e <;> subst e
      · exact hsub6
      · exact hds
      · exact hs8
      · exact hs9
    · unfold basicB
      rw [decide_eq_true (one6 e), none7 e]
      rfl
end
end Rw
namespace Rw
open PySem PySem.Spec PyProof.Rows L2
/-! ### _law_rules -/
abbrev sLawRules : Stmt := topS 40
theorem scLawRules : FnScope ["purse", "names", "sort", "most", "k"] ["purse", "names", "sort", "most"] (defScope sLawRules) := ⟨rfl, rfl, rfl, by decide +kernel, rfl, by decide +kernel, by decide +kernel⟩
theorem none_same {H H' : Hp} {l : Addr} (s : Same H H') (n : H' l = none) : H l = none := by
  cases e : H l with
  | none => rfl
  | some u =>
    rw [s _ _ e] at n
    cases n
section
variable {P : Program} {w : World} {K : PySem.W.Frag} {mg : Str → Option Value} {base : Heap} {f : Addr} {fd : FuncData} {k : Nat}
/-- a rule whose names are of ns -/
def RIn (ns : W) (r : Rl) : Prop := IsR r ∧ ∀ t ∈ parts r, t.Sublist ns
def spLawRules (K : PySem.W.Frag) : Sp := fun vs H Q _ => ∃ (p l : Addr) (c sort most : Int) (ns : W), vs = [.ref p, .ref l, .int sort, .int most] ∧ (sort = 0 ∨ sort = 1 ∨ sort = 2) ∧ 0 ≤ most ∧ most ≤ 40 ∧ Pur H p c ∧ c ≤ 700000 ∧ l ≠ p ∧ H l = some (.lst (ns.map V.str)) ∧ 1 ≤ ns.length ∧ IsW ns ∧
  ∀ (H' : Hp) (a : Addr) (ys : List V) (S L : List Rl), Bar p H H' → Pur H' p (c + 15000) → H a = none → H' a = some (.lst ys) → DpAll K H' ys (S.map rd) → Srt S L → S.length < 64 → (S.length : Int) ≤ most → (∀ r ∈ S, RIn ns r) → (sort = 0 → ∀ r ∈ S, basicB r = true) → Q (.ref a) H'
theorem ok_lawRules {f1 f2 : Addr} {fd1 fd2 : FuncData} (F : Fun K "_law_rules" "_law_rules" sLawRules f fd) (T : Bl mg) (G1 : FnOk P w K mg base CX0 k f1 fd1 ["purse", "out_of"] spLawDraw) (b1 : Binds K fd1 ["purse", "out_of"] []) (k1 : PySem.W.keepIn K (.ref f1) = true) (m1 : mg "_law_draw" = some (.ref f1))
    (G2 : FnOk P w K mg base CX0 k f2 fd2 ["purse", "names", "sort"] (spLawRule K)) (b2 : Binds K fd2 ["purse", "names", "sort"] []) (k2 : PySem.W.keepIn K (.ref f2) = true) (m2 : mg "_law_rule" = some (.ref f2)) :
    FnOk P w K mg base CX0 (k + 1) f fd ["purse", "names", "sort", "most"] (spLawRules K) := by
  refine F.ok scLawRules (fun vs H Q E h => ?_) (fun cdv A outer s H vs Q E hr h => ?_)
  · obtain ⟨p, l, c, sort, most, ns, rfl, _⟩ := h
    rfl
  obtain ⟨p, l, c, sort, most, ns, rfl, hsort, m0, m40, hP, hc, nlp, hl, n1, hn, q⟩ := h
  refine ⟨_, pss_one (ps_ret (pe_callB (cr_sortR rfl hr.units) (by rfl) T.sorted (by decide +kernel) (pa_cons (pe_callTy (cr_setR rfl hr.units) (by rfl) T.set (by decide +kernel) (pa_cons
      (pe_lc (own := [("k", 4)]) (g := gName 4) (by rfl) scLawRules.nd (pi_range1 rfl T.range (pa_cons (pe_call G1 hr (by rfl) m1 k1 b1 .nil pass0 (pa_cons (pv 0) (pa_cons (pe_op op_add (pv 3) pe_int) pa_nil))) pa_nil)) (blkOk_by (N := ["purse", "names", "sort", "most", "k"]) (sc := defScope sLawRules) (by decide +kernel))
        (fun _ _ _ _ _ => pg_name (i := 4) scLawRules.nd rfl (Or.inl rfl)) (fun _ _ _ _ _ => pts_nil) (fun _ _ _ _ _ => pe_call G2 hr (by rfl) m2 k2 b2 .nil pass0 (pa_cons (pv 0) (pa_cons (pv 1) (pa_cons (pv 2) pa_nil))))) pa_nil)) pa_nil))), ?_⟩
  refine ⟨.ref p, rfl, .int most, rfl, _, _, rfl, rfl, p, _, c, rfl, hP, by omega, by omega, by omega, fun r us r0 r1 hP1 => ?_⟩
  have barA : Bar p H (upd H p (.lst us)) := .draw
  have r1' : r < most + 1 := r1
  refine ⟨r, rfl, by omega, by omega, fun D hD => ?_⟩
  have nDp := hP1.some hD
  have hD0 := none_bar barA hP1 hD
  have sD := same_new hD (.lst [])
  refine lc_range (fun i H1 => Bar p H H1 ∧ Pur H1 p (c + 1 + 300 * i) ∧ ∃ (zs : List V) (L : List Rl), H1 D = some (.lst zs) ∧ DpAll K H1 zs (L.map rd) ∧ L.length = i ∧ (∀ r ∈ L, RIn ns r) ∧ (sort = 0 → ∀ r ∈ L, basicB r = true)) ⟨barA.trans (.same sD), (hP1.same sD).le (by omega), [], [], upd_same, .nil, rfl, (fun _ z => nomatch z), fun _ _ z => nomatch z⟩ (fun i H1 il hI => ?_) (fun H1 hI => ?_)
  · obtain ⟨bar, pu, zs, L, hd, hzs, hL, hR, hBs⟩ := hI
    refine ⟨rfl, .ref p, rfl, .ref l, rfl, .int sort, rfl, p, l, _, sort, ns, rfl, hsort, pu, by omega, nlp, bar _ _ nlp hl, n1, hn, fun H2 v r2 bar2 pu2 hv hr2 hsub hbas => ?_⟩
    have hd2 := bar2 _ _ nDp hd
    have st : Stay H2 (upd H2 D (.lst (zs ++ [v]))) := .put (by rw [hd2]; exact True.intro) _
    refine ⟨zs, hd2, small_line' ?_, (bar.trans bar2).put hD0, (pu2.put nDp).le (by omega), zs ++ [v], L ++ [r2], upd_same, ?_, by rw [List.length_append, hL]; rfl, fun r hr => ?_, fun e r hr => ?_⟩
    · rw [dpAll_len hzs, List.length_map]
      omega
    · rw [List.map_append]
      exact dpAll_app (((bar2.stay pu.mut).trans st).dpAll _ _ (okDs_rd L) hzs) (.cons (st.dp _ _ (ok_rd r2) hv) .nil)
    · rcases List.mem_append.mp hr with h | h
      · exact hR r h
      · rw [List.mem_singleton.mp h]
        exact ⟨hr2, hsub⟩
    · rcases List.mem_append.mp hr with h | h
      · exact hBs e r h
      · rw [List.mem_singleton.mp h]
        exact hbas e
  · obtain ⟨bar, pu, zs, L, hd, hzs, hL, hR, hBs⟩ := hI
    refine ⟨D, zs, L, rfl, .inl (SqL.of hd), hzs, by omega, fun a M ha hM isP hall => ?_⟩
    have sa := same_new ha (TSetO w a M)
    refine ⟨a, M, L, rfl, upd_same, (fun e he => ⟨(hM e he).1, (Stay.same sa).dp _ _ (hM e he).1.ok (hM e he).2⟩), isP, hall, fun ys S l2 hS hSl hys hl2 => ?_⟩
    have sl := same_new hl2 (.lst ys)
    have n0 : H1 l2 = none := none_same sa hl2
    refine q _ l2 ys S L (bar.trans (.same (sa.trans sl))) ((pu.same (sa.trans sl)).le (by omega)) (none_bar bar pu n0) upd_same ((Stay.same sl).dpAll _ _ (okDs_rd S) hys) hS hSl (by have e := len_le hS.nd fun z hz => (hS.mem z).mp hz; omega) (fun r hr => hR r ((hS.mem r).mp hr)) fun e r hr => hBs e r ((hS.mem r).mp hr)
end
end Rw
namespace Rw
open PySem PySem.Spec PyProof.Rows L2
/-! ### _law_names_in -/
/-- a list of rules -/
def RL (K : PySem.W.Frag) (H : Hp) (l : Addr) (R : List Rl) : Prop := ∃ ys, H l = some (.lst ys) ∧ DpAll K H ys (R.map rd)
theorem RL.same {K : PySem.W.Frag} {H H' : Hp} {l : Addr} {R : List Rl} (h : RL K H l R) (e : Same H H') : RL K H' l R := by
  obtain ⟨ys, h1, h2⟩ := h
  exact ⟨ys, e _ _ h1, dpAll_same e _ _ h2⟩
abbrev sLawNames : Stmt := topS 41
theorem scLawNames : FnScope ["rules", "found", "row", "part"] ["rules"] (defScope sLawNames) := ⟨rfl, rfl, rfl, by decide +kernel, rfl, by decide +kernel, by decide +kernel⟩
def rListOf (K : PySem.W.Frag) : List V → Hp → VK → Prop := fun xs H Q => ∃ p ys, xs = [V.ref p] ∧ (SqL K H p ys ∨ SqT K H p ys) ∧ ∀ (l : Addr), H l = none → Q (V.ref l) (upd H l (HO.lst ys))
theorem namesL_take {S : List Rl} {i : Nat} {r : Rl} (h : S[i]? = some r) : namesL (S.take (i + 1)) = namesL (S.take i) ++ ownN r := by
  unfold namesL
  rw [take_snoc h, List.flatMap_append, List.flatMap_cons, List.flatMap_nil, List.append_nil]
theorem namesL_le {S : List Rl} {i : Nat} {r : Rl} (h : S[i]? = some r) : (namesL (S.take i)).length + (ownN r).length ≤ (namesL S).length := by
  have e : S = S.take (i + 1) ++ S.drop (i + 1) := (List.take_append_drop ..).symm
  have : (namesL S).length = (namesL (S.take (i + 1))).length + (namesL (S.drop (i + 1))).length := by
    conv => lhs; rw [e]
    unfold namesL
    rw [List.flatMap_append, List.length_append]
  rw [this, namesL_take h, List.length_append]
  omega
section
variable {P : Program} {w : World} {K : PySem.W.Frag} {mg : Str → Option Value} {base : Heap} {f : Addr} {fd : FuncData} {k : Nat}
def spLawNames (K : PySem.W.Frag) : Sp := fun vs H Q _ => ∃ (l : Addr) (S : List Rl), vs = [.ref l] ∧ RL K H l S ∧ (namesL S).length < 1000 ∧
  ∀ (H' : Hp) (p : Addr) (zs : W), Same H H' → H p = none → H' p = some (.lst (zs.map V.str)) → zs.Nodup → RisingX zs → (∀ z, z ∈ zs ↔ z ∈ namesL S) → Q (.ref p) H'
theorem ok_lawNames (F : Fun K "_law_names_in" "_law_names_in" sLawNames f fd) (T : Bl mg) : FnOk P w K mg base CX0 (k + 1) f fd ["rules"] (spLawNames K) := by
  refine F.ok scLawNames (fun vs H Q E h => ?_) (fun cdv A outer s H vs Q E hr h => ?_)
  · obtain ⟨l, S, rfl, _⟩ := h
    rfl
  obtain ⟨l, S, rfl, ⟨ys, hl, hys⟩, few, q⟩ := h
  refine ⟨_, pss_cons (ps_set (i := 1) scLawNames.nd rfl (.inl rfl) (pe_lst pa_nil))
    (pss_cons (ps_for PassesOwn.never rfl (pi_list (pv 0)) (pg_name (i := 2) scLawNames.nd rfl (.inl rfl))
      (pss_one (ps_for PassesOwn.never rfl (pi_tup (pv 2)) (pg_name (i := 3) scLawNames.nd rfl (.inl rfl))
        (pss_one (ps_set (i := 1) scLawNames.nd rfl (.inl rfl) (pe_op op_cat (pv 1) (pe_callTy (T := "list") (r := rListOf K) call_list_of (by rfl) T.list (by decide +kernel) (pa_cons (pv 3) pa_nil))))))))
    (pss_one (ps_ret (pe_callB (cr_sortX rfl hr.units) (by rfl) T.sorted (by decide +kernel) (pa_cons (pe_callTy (cr_setX rfl hr.units) (by rfl) T.set (by decide +kernel) (pa_cons (pv 1) pa_nil)) pa_nil))))), ?_⟩
  have yl : ys.length = S.length := by rw [dpAll_len hys, List.length_map]
  refine ⟨by show 0 ≤ sizeLine; decide, fun l0 hl0 => ?_⟩
  have s0 := same_new hl0 (.lst [])
  refine ⟨.ref l, rfl, l, rfl, ⟨_, SqL.of (s0 _ _ hl)⟩, for_list (xs := ys) (fun i σ H1 => (∃ l1 y2 y3, σ = [some (.ref l), some (.ref l1), y2, y3] ∧ H1 l1 = some (.lst ((namesL (S.take i)).map V.str))) ∧ Same H H1) ⟨⟨l0, _, _, rfl, upd_same⟩, s0⟩ (fun i σ H1 _ hI => SqL.of (hI.2 _ _ hl)) (fun i x σ H1 hx hI => ?_) (fun σ H1 hI => ?_)⟩
  · obtain ⟨⟨l1, y2, y3, rfl, h1⟩, sm⟩ := hI
    obtain ⟨dd, hdd, hxd⟩ := dpAll_at' hys hx
    obtain ⟨r, hr0, rfl⟩ := map_at hdd
    have lim := namesL_le hr0
    have hxd2 := dp_same sm _ _ hxd
    unfold rd at hxd2
    cases hxd2 with
    | @tup b xs _ hT hxs =>
      have xl : xs.length = (parts r).length := by rw [dpAll_len hxs, List.length_map]
      refine ⟨.ref b, rfl, b, rfl, ⟨_, hT⟩, for_tup (xs := xs) (fun j σ H2 => (∃ l2 y3, σ = [some (.ref l), some (.ref l2), some (.ref b), y3] ∧ H2 l2 = some (.lst ((namesL (S.take i) ++ ((parts r).take j).flatMap id).map V.str))) ∧ Same H1 H2) ⟨⟨l1, _, rfl, by rw [h1, List.take_zero, List.flatMap_nil, List.append_nil]⟩, fun _ _ e => e⟩ (fun j σ H2 _ h => same_tup h.2 hT) (fun j y σ H2 hy h => ?_) (fun σ H2 h => ?_)⟩
      · obtain ⟨⟨l2, y3', rfl, h2⟩, s2⟩ := h
        obtain ⟨de, hde, hyd⟩ := dpAll_at' hxs hy
        obtain ⟨t, ht, rfl⟩ := map_at hde
        obtain ⟨a, rfl, hA⟩ := of_wd ((Stay.same s2).wd hyd)
        have lt : (((parts r).take j).flatMap id).length + t.length ≤ (ownN r).length := by
          have e : parts r = (parts r).take (j + 1) ++ (parts r).drop (j + 1) := (List.take_append_drop ..).symm
          unfold ownN
          conv => rhs; rw [e]
          rw [List.flatMap_append, List.length_append, take_snoc ht, List.flatMap_append, List.length_append, List.flatMap_cons, List.flatMap_nil, List.append_nil]
          show _ ≤ _ + (id t).length + _
          exact Nat.le_add_right _ _
        refine ⟨.ref l2, rfl, .ref a, rfl, a, _, rfl, .inr hA, fun l3 hl3 => ?_⟩
        have s3 := same_new hl3 (.lst (t.map V.str))
        refine ⟨l2, l3, _, _, rfl, rfl, s3 _ _ h2, upd_same, small_line (by rw [List.length_map, List.length_map, List.length_append]; omega), fun p hp => ?_⟩
        refine ⟨⟨p, _, rfl, ?_⟩, s2.trans (s3.trans (same_new hp _))⟩
        rw [upd_same, take_snoc ht, List.flatMap_append, List.flatMap_cons, List.flatMap_nil, List.append_nil, ← List.append_assoc, List.map_append (l₂ := id t)]
        rfl
      · obtain ⟨⟨l2, y3', rfl, h2⟩, s2⟩ := h
        rw [xl, List.take_length] at h2
        exact ⟨⟨l2, _, _, rfl, by rw [h2, namesL_take hr0]; rfl⟩, sm.trans s2⟩
  · obtain ⟨⟨l1, y2, y3, rfl, h1⟩, sm⟩ := hI
    rw [yl, List.take_length] at h1
    refine ⟨.ref l1, rfl, l1, namesL S, rfl, .inl (SqL.of h1), few, fun b ms hb nd hm hl' => ?_⟩
    refine ⟨b, ms, rfl, upd_same, by omega, fun zs p hz nz hlz rz hp => ?_⟩
    have s4 := same_new hb (XSetO P w b ms)
    exact q _ p zs (sm.trans (s4.trans (same_new hp _))) (none_same (sm.trans s4) hp) upd_same nz rz fun z => (hz z).trans (hm z)
end
end Rw
namespace Rw
open PySem PySem.Spec PyProof.Rows L2
/-! ### _law_uses -/
theorem catA_w {K : PySem.W.Frag} {H : Hp} {a b : Addr} {xs ys : List V} {Q : VK} (ha : SqT K H a xs) (hb : SqT K H b ys) (hz : xs.length + ys.length ≤ sizeLine) (q : ∀ c H0, Same H H0 → SqT K H0 c (xs ++ ys) → Q (.ref c) H0) : rCatA K (.ref a) (.ref b) H Q := by
  refine ⟨a, b, xs, ys, rfl, rfl, ha, hb, hz, fun e => ?_, fun _ e => ?_, fun _ _ p hp => ?_⟩
  · subst e
    exact q b H (fun _ _ e => e) hb
  · subst e
    exact q a H (fun _ _ e => e) (by rw [List.append_nil]; exact ha)
  · exact q p _ (same_new hp _) (SqT.of upd_same)
abbrev sLawUses : Stmt := topS 42
theorem scLawUses : FnScope ["rules", "name", "found", "heads", "denied", "needs", "bars"] ["rules", "name"] (defScope sLawUses) := ⟨rfl, rfl, rfl, by decide +kernel, rfl, by decide +kernel, by decide +kernel⟩
/-- what x uses by the first rules -/
def usesL (S : List Rl) (x : Str) : W := S.flatMap fun r => if x ∈ r.1 then own r else []
theorem mem_uses {S : List Rl} {x y : Str} : y ∈ usesL S x ↔ Use S x y := by
  unfold usesL Use
  rw [List.mem_flatMap]
  constructor
  · rintro ⟨r, hr, hy⟩
    by_cases c : x ∈ r.1
    · rw [if_pos c] at hy
      exact ⟨r, hr, c, hy⟩
    · rw [if_neg c] at hy
      exact nomatch hy
  · rintro ⟨r, hr, c, hy⟩
    exact ⟨r, hr, by rw [if_pos c]; exact hy⟩
theorem uses_snoc {S : List Rl} {i : Nat} {r : Rl} {x : Str} (h : S[i]? = some r) : usesL (S.take (i + 1)) x = usesL (S.take i) x ++ (if x ∈ r.1 then own r else []) := by
  unfold usesL
  rw [take_snoc h, List.flatMap_append, List.flatMap_cons, List.flatMap_nil, List.append_nil]
theorem uses_le {S : List Rl} {x : Str} : (usesL S x).length ≤ (namesL S).length := by
  induction S with
  | nil => exact Nat.le_refl _
  | cons r S ih =>
    unfold usesL namesL at ih ⊢
    rw [List.flatMap_cons, List.flatMap_cons, List.length_append, List.length_append]
    have e : (if x ∈ r.1 then own r else []).length ≤ (ownN r).length := by
      by_cases c : x ∈ r.1
      · rw [if_pos c]
        exact Nat.le_refl _
      · rw [if_neg c]
        exact Nat.zero_le _
    omega
theorem own_app (r : Rl) : own r = r.1 ++ r.2.1 ++ r.2.2.1 ++ r.2.2.2 := by
  unfold own parts
  simp [List.append_assoc]
section
variable {P : Program} {w : World} {K : PySem.W.Frag} {mg : Str → Option Value} {base : Heap} {f : Addr} {fd : FuncData} {k : Nat}
def spLawUses (K : PySem.W.Frag) : Sp := fun vs H Q _ => ∃ (l : Addr) (S : List Rl) (x : Str), vs = [.ref l, .str x] ∧ RL K H l S ∧ (∀ r ∈ S, IsR r) ∧ (namesL S).length < 1000 ∧
  ∀ (H' : Hp) (p : Addr) (zs : W), Same H H' → H p = none → H' p = some (.lst (zs.map V.str)) → UpX zs → (∀ z, z ∈ zs ↔ Use S x z) → Q (.ref p) H'
theorem ok_lawUses (F : Fun K "_law_uses" "_law_uses" sLawUses f fd) (T : Bl mg) : FnOk P w K mg base CX0 (k + 1) f fd ["rules", "name"] (spLawUses K) := by
  refine F.ok scLawUses (fun vs H Q E h => ?_) (fun cdv A outer s H vs Q E hr h => ?_)
  · obtain ⟨l, S, x, rfl, _⟩ := h
    rfl
  obtain ⟨l, S, x, rfl, ⟨ys, hl, hys⟩, hI, few, q⟩ := h
  refine ⟨_, pss_cons (ps_set (i := 2) scLawUses.nd rfl (.inl rfl) (pe_lst pa_nil))
    (pss_cons (ps_for PassesOwn.never rfl (pi_list (pv 0)) (pg_tup (by rfl) (pgs_cons (pg_name (i := 3) scLawUses.nd rfl (.inl rfl)) (pgs_cons (pg_name (i := 4) scLawUses.nd rfl (.inl rfl)) (pgs_cons (pg_name (i := 5) scLawUses.nd rfl (.inl rfl)) (pgs_cons (pg_name (i := 6) scLawUses.nd rfl (.inl rfl)) pgs_nil)))))
      (pss_one (ps_if (pt_cmpR (r := rIn K false) op_in_seq (pv 1) (pv 3) (by rfl))
        (pss_one (ps_set (i := 2) scLawUses.nd rfl (.inl rfl) (pe_op op_cat (pv 2) (pe_callTy (T := "list") (r := rListOf K) call_list_of (by rfl) T.list (by decide +kernel) (pa_cons (pe_op op_catA (pe_op op_catA (pe_op op_catA (pv 3) (pv 4)) (pv 5)) (pv 6)) pa_nil))))) pss_nil)))
    (pss_one (ps_ret (pe_callB (cr_sortX rfl hr.units) (by rfl) T.sorted (by decide +kernel) (pa_cons (pe_callTy (cr_setX rfl hr.units) (by rfl) T.set (by decide +kernel) (pa_cons (pv 2) pa_nil)) pa_nil))))), ?_⟩
  have yl : ys.length = S.length := by rw [dpAll_len hys, List.length_map]
  refine ⟨by show 0 ≤ sizeLine; decide, fun l0 hl0 => ?_⟩
  have s0 := same_new hl0 (.lst [])
  refine ⟨.ref l, rfl, l, rfl, ⟨_, SqL.of (s0 _ _ hl)⟩, for_list (xs := ys) (fun i σ H1 => (∃ l1 y3 y4 y5 y6, σ = [some (.ref l), some (.str x), some (.ref l1), y3, y4, y5, y6] ∧ H1 l1 = some (.lst ((usesL (S.take i) x).map V.str))) ∧ Same H H1) ⟨⟨l0, _, _, _, _, rfl, upd_same⟩, s0⟩ (fun i σ H1 _ hI => SqL.of (hI.2 _ _ hl)) (fun i y σ H1 hx hI' => ?_) (fun σ H1 hI' => ?_)⟩
  · obtain ⟨⟨l1, y3, y4, y5, y6, rfl, h1⟩, sm⟩ := hI'
    obtain ⟨dd, hdd, hxd⟩ := dpAll_at' hys hx
    obtain ⟨r, hr0, rfl⟩ := map_at hdd
    have hr' := hI r (List.mem_of_getElem? hr0)
    have hxd2 := dp_same sm _ _ hxd
    obtain ⟨b0, v1, v2, v3, v4, rfl, hT, g1, g2, g3, g4⟩ := of_rd hxd2
    obtain ⟨c1, rfl, t1⟩ := of_wd g1
    obtain ⟨c2, rfl, t2⟩ := of_wd g2
    obtain ⟨c3, rfl, t3⟩ := of_wd g3
    obtain ⟨c4, rfl, t4⟩ := of_wd g4
    have f1 := hr'.h.few
    have f2 := hr'.d.few
    have f3 := hr'.n.few
    have f4 := hr'.b.few
    have lu : (usesL (S.take i) x).length ≤ (namesL S).length := by
      refine Nat.le_trans uses_le ?_
      have e := namesL_le hr0
      omega
    refine ⟨b0, _, rfl, hT, rfl, _, _, rfl, _, _, rfl, _, _, rfl, _, [], rfl, rfl, ?_⟩
    refine ⟨.str x, rfl, .ref c1, rfl, c1, _, rfl, .inr t1, rfl, flat_strs _, _, rfl, ?_⟩
    rw [inV_str]
    refine ite2 (fun e => ?_) (fun e => ?_)
    · have hx1 : x ∈ r.1 := of_decide_eq_true e
      refine ⟨.ref l1, rfl, .ref c1, rfl, .ref c2, rfl, ?_⟩
      refine catA_w t1 t2 (small_line (by rw [List.length_map, List.length_map]; omega)) fun d1 H2 s2 u1 => ?_
      refine ⟨.ref c3, rfl, catA_w u1 (same_tup s2 t3) (small_line (by rw [List.length_append, List.length_map, List.length_map, List.length_map]; omega)) fun d2 H3 s3 u2 => ?_⟩
      refine ⟨.ref c4, rfl, catA_w u2 (same_tup (s2.trans s3) t4) (small_line (by rw [List.length_append, List.length_append, List.length_map, List.length_map, List.length_map, List.length_map]; omega)) fun d3 H4 s4 u3 => ?_⟩
      have s24 := s2.trans (s3.trans s4)
      have eo : r.1.map V.str ++ r.2.1.map V.str ++ r.2.2.1.map V.str ++ r.2.2.2.map V.str = (own r).map V.str := by
        rw [own_app, List.map_append, List.map_append, List.map_append]
      rw [eo] at u3
      refine ⟨d3, _, rfl, .inr u3, fun l3 hl3 => ?_⟩
      have s5 := same_new hl3 (.lst ((own r).map V.str))
      have lo := own_len hr'
      refine ⟨l1, l3, _, _, rfl, rfl, (s24.trans s5) _ _ h1, upd_same, small_line (by rw [List.length_map, List.length_map]; omega), fun p hp => ?_⟩
      refine ⟨⟨p, _, _, _, _, rfl, ?_⟩, sm.trans (s24.trans (s5.trans (same_new hp _)))⟩
      rw [upd_same, uses_snoc hr0, if_pos hx1, List.map_append]
    · have hx1 : x ∉ r.1 := fun h => e (decide_eq_true h)
      refine ⟨⟨l1, _, _, _, _, rfl, ?_⟩, sm⟩
      rw [uses_snoc hr0, if_neg hx1, List.append_nil]
      exact h1
  · obtain ⟨⟨l1, y3, y4, y5, y6, rfl, h1⟩, sm⟩ := hI'
    rw [yl, List.take_length] at h1
    have lu : (usesL S x).length ≤ (namesL S).length := uses_le
    refine ⟨.ref l1, rfl, l1, usesL S x, rfl, .inl (SqL.of h1), by omega, fun b ms hb nd hm hl' => ?_⟩
    refine ⟨b, ms, rfl, upd_same, by omega, fun zs p hz nz hlz rz hp => ?_⟩
    have s4 := same_new hb (XSetO P w b ms)
    exact q _ p zs (sm.trans (s4.trans (same_new hp _))) (none_same (sm.trans s4) hp) upd_same (upX_of rz nz) fun z => (hz z).trans ((hm z).trans mem_uses)
end
end Rw
namespace Rw
open PySem PySem.Spec PyProof.Rows L2
/-! ### _law_led -/
abbrev sLawLed : Stmt := topS 43
theorem scLawLed : FnScope ["rules", "name", "found", "many", "other"] ["rules", "name"] (defScope sLawLed) := ⟨rfl, rfl, rfl, by decide +kernel, rfl, by decide +kernel, by decide +kernel⟩
theorem full_mem {a b : W} (n : a.Nodup) (s : ∀ z ∈ a, z ∈ b) (e : b.length = a.length) : ∀ y ∈ b, y ∈ a := fun y hy => Classical.byContradiction fun c => by
  have z := len_le (l := y :: a) (m := b) (List.nodup_cons.mpr ⟨c, n⟩) fun z hz => by
    rcases List.mem_cons.mp hz with q | q
    · rw [q]
      exact hy
    · exact s z q
  rw [List.length_cons] at z
  omega
theorem lead_nm {S : List Rl} {x y : Str} (h : Lead S x y) : y ∈ namesL S := by
  induction h with
  | one u =>
    obtain ⟨r, hr, _, h2⟩ := u
    exact List.mem_flatMap.mpr ⟨r, hr, h2⟩
  | cons _ _ ih => exact ih
theorem lead_closed {S : List Rl} {zs : W} {x : Str} (h0 : ∀ z, Use S x z → z ∈ zs) (hc : ∀ z ∈ zs, ∀ y, Use S z y → y ∈ zs) {y : Str} (h : Lead S x y) : y ∈ zs := by
  have from' : ∀ {z y}, Lead S z y → z ∈ zs → y ∈ zs := fun {z y} h => by
    induction h with
    | one u => exact fun hz => hc _ hz _ u
    | cons u _ ih => exact fun hz => ih (hc _ hz _ u)
  cases h with
  | one u => exact h0 _ u
  | cons u g => exact from' g (h0 _ u)
section
variable {P : Program} {w : World} {K : PySem.W.Frag} {mg : Str → Option Value} {base : Heap} {f : Addr} {fd : FuncData} {k : Nat}
def spLawLed (K : PySem.W.Frag) : Sp := fun vs H Q _ => ∃ (l : Addr) (S : List Rl) (x : Str) (bd : W), vs = [.ref l, .str x] ∧ RL K H l S ∧ (∀ r ∈ S, IsR r) ∧ (namesL S).length < 1000 ∧ (∀ z ∈ namesL S, z ∈ bd) ∧ bd.length ≤ 40 ∧
  ∀ (H' : Hp) (p : Addr) (zs : W), Same H H' → H p = none → H' p = some (.lst (zs.map V.str)) → UpX zs → (∀ z, z ∈ zs ↔ Lead S x z) → Q (.ref p) H'
theorem ok_lawLed {f1 : Addr} {fd1 : FuncData} (F : Fun K "_law_led" "_law_led" sLawLed f fd) (T : Bl mg) (G1 : FnOk P w K mg base CX0 k f1 fd1 ["rules", "name"] (spLawUses K)) (b1 : Binds K fd1 ["rules", "name"] []) (k1 : PySem.W.keepIn K (.ref f1) = true) (m1 : mg "_law_uses" = some (.ref f1)) :
    FnOk P w K mg base CX0 (k + 1) f fd ["rules", "name"] (spLawLed K) := by
  refine F.ok scLawLed (fun vs H Q E h => ?_) (fun cdv A outer s H vs Q E hr h => ?_)
  · obtain ⟨l, S, x, bd, rfl, _⟩ := h
    rfl
  obtain ⟨l, S, x, bd, rfl, hRL, hI, few, hbd, lbd, q⟩ := h
  refine ⟨_, pss_cons (ps_set (i := 2) scLawLed.nd rfl (.inl rfl) (pe_call G1 hr (by rfl) m1 k1 b1 .nil pass0 (pa_cons (pv 0) (pa_cons (pv 1) pa_nil))))
    (pss_cons (ps_set (i := 3) scLawLed.nd rfl (.inl rfl) (pe_un un_neg pe_int))
    (pss_cons (ps_while PassesOwn.never (pt_cmpR op_lt (pv 3) (pe_callB call_len_seq (by rfl) T.len PySem.boot_len (pa_cons (pv 2) pa_nil)) (nomark _))
      (pss_cons (ps_set (i := 3) scLawLed.nd rfl (.inl rfl) (pe_callB call_len_seq (by rfl) T.len PySem.boot_len (pa_cons (pv 2) pa_nil)))
      (pss_one (ps_for PassesOwn.never rfl (pi_list (pe_callTy (T := "list") (r := rListOf K) call_list_of (by rfl) T.list (by decide +kernel) (pa_cons (pv 2) pa_nil))) (pg_name (i := 4) scLawLed.nd rfl (.inl rfl))
        (pss_one (ps_set (i := 2) scLawLed.nd rfl (.inl rfl) (pe_callB (cr_sortX rfl hr.units) (by rfl) T.sorted (by decide +kernel) (pa_cons (pe_callTy (cr_setX rfl hr.units) (by rfl) T.set (by decide +kernel) (pa_cons
          (pe_op op_cat (pv 2) (pe_call G1 hr (by rfl) m1 k1 b1 .nil pass0 (pa_cons (pv 0) (pa_cons (pv 4) pa_nil)))) pa_nil)) pa_nil))))))))
    (pss_one (ps_ret (pv 2))))), ?_⟩
  have lz : ∀ {zs : W}, UpX zs → (∀ z ∈ zs, Lead S x z) → zs.length ≤ 40 := fun h1 h2 => Nat.le_trans (len_le (upX_nodup h1) fun z hz => hbd z (lead_nm (h2 z hz))) lbd
  refine ⟨.ref l, rfl, .str x, rfl, l, S, x, rfl, hRL, hI, few, fun H1 p1 u1 s1 np1 hp1 up1 hu1 => ?_⟩
  dsimp only [gName, tSeq, tAsg]
  refine ⟨1, rfl, ?_⟩
  refine while_by (fun σ H' => ∃ (p : Addr) (zs : W) (m : Int) (y4 : Option V), σ = [some (.ref l), some (.str x), some (.ref p), some (.int m), y4] ∧ Same H H' ∧ H p = none ∧ H' p = some (.lst (zs.map V.str)) ∧ UpX zs ∧ (∀ z ∈ zs, Lead S x z) ∧ (∀ z, Use S x z → z ∈ zs) ∧ -1 ≤ m ∧ m ≤ zs.length ∧ (m = zs.length → ∀ z ∈ zs, ∀ y, Use S z y → y ∈ zs))
    (fun σ _ => match σ[3]? with | some (some (V.int m)) => ((41 : Int) - m).toNat | _ => 0) ⟨p1, u1, -1, _, rfl, s1, np1, hp1, up1, fun z hz => .one ((hu1 z).mp hz), fun z h => (hu1 z).mpr h, by decide, by omega, fun e => by omega⟩ (fun σ H2 hP => ?_) (fun σ H2 Q1 Q2 m h => ?_)
  · obtain ⟨p, zs, m, y4, rfl, s2, np, hp, up, hld, hus, m0, mz, hcl⟩ := hP
    have l40 := lz up hld
    have ln : (zs.map V.str).length = zs.length := List.length_map ..
    refine ⟨.int m, rfl, .ref p, rfl, p, _, rfl, .inl (SqL.of hp), m, _, rfl, rfl, _, rfl, ite2 (fun e => ?_) (fun e => ?_)⟩
    · have lt : m < ((zs.map V.str).length : Int) := of_decide_eq_true e
      refine ⟨.ref p, rfl, p, _, rfl, .inl (SqL.of hp), ?_⟩
      refine ⟨.ref p, rfl, p, _, rfl, .inl (SqL.of hp), fun D hD => ?_⟩
      have sD := same_new hD (.lst (zs.map V.str))
      refine ⟨D, rfl, ⟨_, SqL.of upd_same⟩, for_list (xs := zs.map V.str) (fun j σ H3 => (∃ y4, ∃ (p3 : Addr) (zs' : W), σ = [some (.ref l), some (.str x), some (.ref p3), some (.int (zs.map V.str).length), y4] ∧ H p3 = none ∧ H3 p3 = some (.lst (zs'.map V.str)) ∧ UpX zs' ∧ (∀ z ∈ zs, z ∈ zs') ∧ (∀ z ∈ zs', Lead S x z) ∧ ∀ o ∈ zs.take j, ∀ y, Use S o y → y ∈ zs') ∧ Same (upd H2 D (.lst (zs.map V.str))) H3) ⟨⟨_, p, zs, rfl, np, sD _ _ hp, up, fun _ h => h, hld, fun o ho => absurd ho (by simp)⟩, fun _ _ e => e⟩ (fun j σ H3 _ h => SqL.of (h.2 _ _ upd_same)) (fun j y σ H3 hx h => ?_) (fun σ H3 h => ?_)⟩
      · obtain ⟨⟨y4', p3, zs', rfl, np3, hp3, up3, sub3, ld3, pr3⟩, s3⟩ := h
        obtain ⟨o, ho, rfl⟩ := map_at hx
        have hoz : o ∈ zs := List.mem_of_getElem? ho
        have s23 := s2.trans (sD.trans s3)
        refine ⟨.ref p3, rfl, .ref l, rfl, .str o, rfl, l, S, o, rfl, hRL.same s23, hI, few, fun H4 p4 u4 s4 np4 hp4 up4 hu4 => ?_⟩
        have l3 := lz up3 ld3
        have ld4 : ∀ z ∈ u4, Lead S x z := fun z hz => (hld o hoz).trans (.one ((hu4 z).mp hz))
        have l4 := lz up4 ld4
        refine ⟨p3, p4, _, _, rfl, rfl, s4 _ _ hp3, hp4, small_line (by rw [List.length_map, List.length_map]; omega), fun p5 hp5 => ?_⟩
        have s5 := same_new hp5 (.lst (zs'.map V.str ++ u4.map V.str))
        refine ⟨p5, zs' ++ u4, rfl, .inl (SqL.of (by rw [upd_same, List.map_append])), by rw [List.length_append]; omega, fun b ms hb nd hm hl' => ?_⟩
        have s6 := same_new hb (XSetO P w b ms)
        refine ⟨b, ms, rfl, upd_same, by rw [List.length_append] at hl'; omega, fun zs6 p6 hz6 nz6 hlz6 rz6 hp6 => ?_⟩
        have mem6 : ∀ z, z ∈ zs6 ↔ z ∈ zs' ∨ z ∈ u4 := fun z => (hz6 z).trans ((hm z).trans List.mem_append)
        have s46 := s4.trans (s5.trans s6)
        refine ⟨⟨_, p6, zs6, rfl, none_back (s23.trans s46) hp6, upd_same, upX_of rz6 nz6, fun z hz => (mem6 z).mpr (.inl (sub3 z hz)), fun z hz => ((mem6 z).mp hz).elim (ld3 z) (ld4 z), fun o2 ho2 y hu => ?_⟩, s3.trans (s46.trans (same_new hp6 _))⟩
        rw [take_snoc ho] at ho2
        rcases List.mem_append.mp ho2 with q | q
        · exact (mem6 y).mpr (.inl (pr3 o2 q y hu))
        · rw [List.mem_singleton.mp q] at hu
          exact (mem6 y).mpr (.inr ((hu4 y).mpr hu))
      · obtain ⟨⟨y4', p3, zs', rfl, np3, hp3, up3, sub3, ld3, pr3⟩, s3⟩ := h
        rw [ln, List.take_length] at pr3
        have le3 := len_le (upX_nodup up) sub3
        refine ⟨⟨p3, zs', _, _, rfl, s2.trans (sD.trans s3), np3, hp3, up3, ld3, fun z hz => sub3 z (hus z hz), by rw [ln]; omega, by rw [ln]; omega, fun e z hz y hu => ?_⟩, ?_⟩
        · rw [ln] at e
          exact pr3 z (full_mem (upX_nodup up) sub3 (by omega) z hz) y hu
        · show ((41 : Int) - ((zs.map V.str).length : Int)).toNat < ((41 : Int) - m).toNat
          omega
    · have eq : m = zs.length := by
        have : ¬ m < ((zs.map V.str).length : Int) := fun h => e (decide_eq_true h)
        omega
      exact ⟨.ref p, rfl, q H2 p zs s2 np hp up fun z => ⟨hld z, fun h => lead_closed hus (hcl eq) h⟩⟩
  · obtain ⟨a1, b1, a2, b2, p, ys, e, sq, i, j, e1, e2, k, ek, q⟩ := h
    exact ⟨a1, b1, a2, b2, p, ys, e, sq, i, j, e1, e2, k, ek, m _ _ q⟩
end
end Rw
namespace Rw
open PySem PySem.Spec PyProof.Rows L2
/-! ### _law_layers -/
theorem mergeK_new : ∀ {more kvs : List (Key × V)}, ((kvs ++ more).map Prod.fst).Nodup → mergeK kvs more = kvs ++ more
  | [], kvs, _ => by
    rw [List.append_nil]
    rfl
  | p :: more, kvs, h => by
    have e : kvs.any (fun kv => decide (kv.1 = p.1)) = false := by
      rw [List.any_eq_false]
      intro q hq
      simp only [decide_eq_true_eq]
      intro e
      rw [List.map_append, List.nodup_append] at h
      exact h.2.2 q.1 (List.mem_map.mpr ⟨q, hq, rfl⟩) p.1 (List.mem_map.mpr ⟨p, List.mem_cons_self, rfl⟩) e
    show mergeK (putK kvs p.1 p.2) more = _
    have e2 : putK kvs p.1 p.2 = kvs ++ [p] := by
      unfold putK
      rw [if_neg (by rw [e]; exact Bool.false_ne_true)]
    rw [e2, mergeK_new (by rw [List.append_assoc]; exact h), List.append_assoc]
    rfl
theorem nd_merge {ns : W} {g : Str → V} (h : ns.Nodup) : mergeK [] (ns.map fun z => ((.inr z : Key), g z)) = ns.map fun z => ((.inr z : Key), g z) := by
  have e := mergeK_new (kvs := []) (more := ns.map fun z => ((.inr z : Key), g z)) (by
    rw [List.nil_append, List.map_map]
    exact List.Pairwise.map _ (fun a b hab e => hab (Sum.inr.inj e)) h)
  rw [e, List.nil_append]
theorem eqv_nil (zs : W) : PyData.eqv (.list (zs.map .str)) (.list []) = decide (zs = []) := by
  cases zs with
  | nil => decide +kernel
  | cons z zs => rfl
theorem minus_app {ns a b : W} : minus ns (a ++ b) = minus (minus ns a) b := by
  unfold minus
  rw [List.filter_filter]
  congr 1
  funext z
  by_cases h1 : z ∈ a <;> by_cases h2 : z ∈ b <;> simp [h1, h2]
theorem minus_nil {ns : W} : minus ns [] = ns := by
  unfold minus
  rw [List.filter_eq_self]
  simp
theorem mem_minus {ns l : W} {z : Str} : z ∈ minus ns l ↔ z ∈ ns ∧ z ∉ l := by
  unfold minus
  rw [List.mem_filter]
  simp
/-- a dict of lists of names -/
structure LD (H : Hp) (F : Addr) (ns : W) (la : Str → Addr) (L : Str → W) : Prop where
  top : H F = some (ND ns fun z => .ref (la z))
  low : ∀ z ∈ ns, H (la z) = some (.lst ((L z).map V.str))
theorem LD.same {H H' : Hp} {F : Addr} {ns : W} {la : Str → Addr} {L : Str → W} (h : LD H F ns la L) (e : Same H H') : LD H' F ns la L := ⟨e _ _ h.top, fun z hz => e _ _ (h.low z hz)⟩
section
variable {K : PySem.W.Frag} {σ : L2.St} {H : Hp} {Q : VK} {F : Addr} {ns : W} {la : Str → Addr} {L : Str → W} {x : Str}
/-- [other for other in leads[name] if name in leads[other]] -/
theorem near_lc (h2 : σ[2]? = some (some (.ref F))) (h5 : σ[5]? = some (some (.str x))) (ho : 8 < σ.length) (hR : LD H F ns la L) (hx : x ∈ ns) (hL : ∀ y ∈ L x, y ∈ ns) (few : (L x).length ≤ 40) (q : ∀ H' D, Same H H' → H' D = some (.lst (((L x).filter fun y => decide (x ∈ L y)).map V.str)) → Q (.ref D) H') :
    tLc (iList K (tDGet (tVar 2) (tVar 5))) (gName 8) (tTest (tOp (rIn K false) (tVar 5) (tDGet (tVar 2) (tVar 8)))) (tVar 8) [8] σ H Q := by
  refine ⟨.ref F, h2, .str x, h5, F, _, rfl, .inl ⟨_, .inr x, .inl hR.top, rfl, (valV_nd (g := fun z => V.ref (la z)) hx).symm⟩, la x, rfl, ⟨_, SqL.of (hR.low x hx)⟩, fun D hD => ?_⟩
  refine lc_list (xs := (L x).map V.str) (fun n H1 => Same H H1 ∧ H1 D = some (.lst ((((L x).take n).filter fun y => decide (x ∈ L y)).map V.str))) ⟨same_new hD _, upd_same⟩ (fun n H1 _ h => SqL.of (h.1 _ _ (hR.low x hx))) (fun n y0 H1 hy0 h => ?_) (fun H1 h => ?_)
  · obtain ⟨y, hy, rfl⟩ := map_at hy0
    have hyn := hL y (List.mem_of_getElem? hy)
    have il : n < (L x).length := (List.getElem?_eq_some_iff.mp hy).1
    refine ⟨sl_back, .str x, sl_old (by decide) h5, .ref F, sl_old (by decide) h2, .str y, sl_own ho, F, _, rfl, .inl ⟨_, .inr y, .inl (h.1 _ _ hR.top), rfl, (valV_nd (g := fun z => V.ref (la z)) hyn).symm⟩, la y, _, rfl, .inl (SqL.of (h.1 _ _ (hR.low y hyn))), rfl, flat_strs _, _, rfl, ?_⟩
    rw [inV_str]
    refine ite2 (fun e => ?_) (fun e => ?_)
    · refine ⟨.str y, sl_own ho, _, h.2, small_line' ?_, same_put h.1 hD, ?_⟩
      · rw [List.length_map]
        have := List.length_filter_le (fun y => decide (x ∈ L y)) ((L x).take n)
        rw [List.length_take] at this
        omega
      · rw [upd_same, filt_t hy (show decide (x ∈ L y) = true from e), List.map_append]
        rfl
    · refine ⟨h.1, ?_⟩
      rw [filt_f hy (show decide (x ∈ L y) = false from (Bool.not_eq_true _).mp e)]
      exact h.2
  · rw [List.length_map, List.take_length] at h
    exact q H1 D h.1 h.2
/-- [other for other in leads[name] if other not in done and other not in lot] -/
theorem out_lc {c4 c7 : Addr} {dn lot : W} (h2 : σ[2]? = some (some (.ref F))) (h4 : σ[4]? = some (some (.ref c4))) (h5 : σ[5]? = some (some (.str x))) (h7 : σ[7]? = some (some (.ref c7))) (ho : 8 < σ.length) (hR : LD H F ns la L) (hx : x ∈ ns) (few : (L x).length ≤ 40) (hc4 : H c4 = some (.lst (dn.map V.str))) (hc7 : H c7 = some (.lst (lot.map V.str)))
    (q : ∀ H' D, Same H H' → H' D = some (.lst (((L x).filter fun y => !decide (y ∈ dn) && !decide (y ∈ lot)).map V.str)) → Q (.ref D) H') :
    tLc (iList K (tDGet (tVar 2) (tVar 5))) (gName 8) (tAnd (tTest (tOp (rIn K true) (tVar 8) (tVar 4))) (tTest (tOp (rIn K true) (tVar 8) (tVar 7)))) (tVar 8) [8] σ H Q := by
  refine ⟨.ref F, h2, .str x, h5, F, _, rfl, .inl ⟨_, .inr x, .inl hR.top, rfl, (valV_nd (g := fun z => V.ref (la z)) hx).symm⟩, la x, rfl, ⟨_, SqL.of (hR.low x hx)⟩, fun D hD => ?_⟩
  refine lc_list (xs := (L x).map V.str) (fun n H1 => Same H H1 ∧ H1 D = some (.lst ((((L x).take n).filter fun y => !decide (y ∈ dn) && !decide (y ∈ lot)).map V.str))) ⟨same_new hD _, upd_same⟩ (fun n H1 _ h => SqL.of (h.1 _ _ (hR.low x hx))) (fun n y0 H1 hy0 h => ?_) (fun H1 h => ?_)
  · obtain ⟨y, hy, rfl⟩ := map_at hy0
    have il : n < (L x).length := (List.getElem?_eq_some_iff.mp hy).1
    have skip : (!decide (y ∈ dn) && !decide (y ∈ lot)) = false → Same H H1 ∧ H1 D = some (.lst ((((L x).take (n + 1)).filter fun y => !decide (y ∈ dn) && !decide (y ∈ lot)).map V.str)) := fun e => ⟨h.1, by rw [filt_f hy e]; exact h.2⟩
    refine ⟨sl_back, .str y, sl_own ho, .ref c4, sl_old (by decide) h4, c4, _, rfl, .inl (SqL.of (h.1 _ _ hc4)), rfl, flat_strs _, _, rfl, ?_⟩
    rw [inV_str]
    refine ite2 (fun e => ?_) (fun e => ?_)
    · refine ⟨.str y, sl_own ho, .ref c7, sl_old (by decide) h7, c7, _, rfl, .inl (SqL.of (h.1 _ _ hc7)), rfl, flat_strs _, _, rfl, ?_⟩
      rw [inV_str]
      refine ite2 (fun e2 => ?_) (fun e2 => ?_)
      · refine ⟨.str y, sl_own ho, _, h.2, small_line' ?_, same_put h.1 hD, ?_⟩
        · rw [List.length_map]
          have := List.length_filter_le (fun y => !decide (y ∈ dn) && !decide (y ∈ lot)) ((L x).take n)
          rw [List.length_take] at this
          omega
        · rw [upd_same, filt_t hy (show (!decide (y ∈ dn) && !decide (y ∈ lot)) = true by rw [show (!decide (y ∈ dn)) = true from e, show (!decide (y ∈ lot)) = true from e2]; rfl), List.map_append]
          rfl
      · exact skip (by rw [show (!decide (y ∈ lot)) = false from (Bool.not_eq_true _).mp e2, Bool.and_false])
    · exact skip (by rw [show (!decide (y ∈ dn)) = false from (Bool.not_eq_true _).mp e]; rfl)
  · rw [List.length_map, List.take_length] at h
    exact q H1 D h.1 h.2
end
theorem paired_end2 {α β : Type} {F : α → β → Prop} {a : α} {b : β} (h : F a b) : ∀ {l : List α} {m : List β}, Paired F l m → Paired F (l ++ [a]) (m ++ [b])
  | [], [], _ => .cons h .nil
  | _ :: _, _ :: _, .cons p t => .cons p (paired_end2 h t)
theorem mutL {H : Hp} {D : Addr} {xs : List V} (h : H D = some (.lst xs)) : Mut (H D) := by
  rw [h]
  exact True.intro
theorem nm_ok {S : List Rl} (hI : ∀ r ∈ S, IsR r) {z : Str} (h : z ∈ namesL S) : nameB z = true := by
  obtain ⟨r, hr, h⟩ := List.mem_flatMap.mp h
  obtain ⟨t, ht, h⟩ := List.mem_flatMap.mp h
  exact ((hI r hr).all t ht).names z h
abbrev sLawLayers : Stmt := topS 44
abbrev nLawLayers : List Str := ["rules", "names", "leads", "found", "done", "name", "near", "lot", "other"]
theorem scLawLayers : FnScope ["rules", "names", "leads", "found", "done", "name", "near", "lot", "other"] ["rules"] (defScope sLawLayers) := ⟨rfl, rfl, rfl, by decide +kernel, rfl, by decide +kernel, by decide +kernel⟩
section
variable {P : Program} {w : World} {K : PySem.W.Frag} {mg : Str → Option Value} {base : Heap} {f : Addr} {fd : FuncData} {k : Nat}
def spLawLayers (K : PySem.W.Frag) : Sp := fun vs H Q _ => ∃ (l : Addr) (S : List Rl) (bd : W), vs = [.ref l] ∧ RL K H l S ∧ (∀ r ∈ S, IsR r) ∧ (namesL S).length < 1000 ∧ (∀ z ∈ namesL S, z ∈ bd) ∧ bd.length ≤ 40 ∧
  ∀ H' D ys ns R, Same H H' → H D = none → H' D = some (.lst ys) → DpAll K H' ys (R.map wd) → UpX ns → (∀ z, z ∈ ns ↔ z ∈ namesL S) → LayO S ns R → Q (.ref D) H'
theorem ok_lawLayers {f1 f2 : Addr} {fd1 fd2 : FuncData} (F : Fun K "_law_layers" "_law_layers" sLawLayers f fd) (T : Bl mg) (Td : mg "dict" = none)
    (G1 : FnOk P w K mg base CX0 k f1 fd1 ["rules"] (spLawNames K)) (b1 : Binds K fd1 ["rules"] []) (k1 : PySem.W.keepIn K (.ref f1) = true) (m1 : mg "_law_names_in" = some (.ref f1))
    (G2 : FnOk P w K mg base CX0 k f2 fd2 ["rules", "name"] (spLawLed K)) (b2 : Binds K fd2 ["rules", "name"] []) (k2 : PySem.W.keepIn K (.ref f2) = true) (m2 : mg "_law_led" = some (.ref f2)) :
    FnOk P w K mg base CX0 (k + 1) f fd ["rules"] (spLawLayers K) := by
  refine F.ok scLawLayers (fun vs H Q E h => ?_) (fun cdv A outer s H vs Q E hr h => ?_)
  · obtain ⟨l, S, bd, rfl, _⟩ := h
    rfl
  obtain ⟨l, S, bd, rfl, hRL, hI, few, hbd, lbd, q⟩ := h
  refine ⟨_, pss_cons (ps_set (i := 1) scLawLayers.nd rfl (.inl rfl) (pe_call G1 hr (by rfl) m1 k1 b1 .nil pass0 (pa_cons (pv 0) pa_nil)))
    (pss_cons (ps_set (i := 2) scLawLayers.nd rfl (.inr rfl) (pe_callTy (call_dictP rfl) (by rfl) Td (by decide +kernel) (pa_cons
        (pe_lc (own := [("name", 5)]) (g := gName 5) (te := tTup (tCons (tVar 5) (tCons (tCall (spLawLed K) [] (fun _ _ _ => False) (tCons (tVar 0) (tCons (tVar 5) tNil))) tNil))) (by rfl) scLawLayers.nd (pi_list (pv 1)) (blkOk_by (N := nLawLayers) (sc := defScope sLawLayers) (by decide +kernel)) (fun _ _ _ _ _ => pg_name (i := 5) scLawLayers.nd rfl (Or.inl rfl)) (fun _ _ _ _ _ => pts_nil)
          (fun _ _ _ _ _ => pe_tup (pa_cons (pv 5) (pa_cons (pe_call G2 hr (by rfl) m2 k2 b2 .nil pass0 (pa_cons (pv 0) (pa_cons (pv 5) pa_nil))) pa_nil)))) pa_nil)))
    (pss_cons (ps_set (i := 3) scLawLayers.nd rfl (.inl rfl) (pe_lst pa_nil))
    (pss_cons (ps_set (i := 4) scLawLayers.nd rfl (.inr rfl) (pe_lst pa_nil))
    (pss_cons (ps_while PassesOwn.never (pt_cmpR op_lt (pe_callB call_len_seq (by rfl) T.len PySem.boot_len (pa_cons (pv 4) pa_nil)) (pe_callB call_len_seq (by rfl) T.len PySem.boot_len (pa_cons (pv 1) pa_nil)) (nomark _))
      (pss_one (ps_for PassesOwn.never rfl (pi_list (pe_lc (own := [("name", 5)]) (g := gName 5) (by rfl) scLawLayers.nd (pi_list (pv 1)) (blkOk_by (N := nLawLayers) (sc := defScope sLawLayers) (by decide +kernel)) (fun _ _ _ _ _ => pg_name (i := 5) scLawLayers.nd rfl (Or.inl rfl)) (fun _ _ _ _ _ => pts_one (pt_cmpR (r := rIn K true) op_notIn_seq (pv 5) (pv 4) (by rfl))) (fun _ _ _ _ _ => pv 5))) (pg_name (i := 5) scLawLayers.nd rfl (.inr rfl))
        (pss_cons (ps_setLc (i := 6) (own := [("other", 8)]) (g := gName 8) (tt := tTest (tOp (rIn K false) (tVar 5) (tDGet (tVar 2) (tVar 8)))) (by rfl) scLawLayers.nd rfl rfl (sw_true rfl rfl rfl (by decide +kernel)) (pi_list (pe_dget (hu_of hr) (pv 2) (pv 5) (fun _ _ => rfl))) (blkOk_by (N := nLawLayers) (sc := defScope sLawLayers) (by decide +kernel)) (fun _ _ _ _ _ => pg_name (i := 8) scLawLayers.nd rfl (Or.inl rfl)) (fun _ _ _ _ _ => pts_one (pt_cmpR (r := rIn K false) op_in_seq (pv 5) (pe_dget (hu_of hr) (pv 2) (pv 8) (fun _ _ => rfl)) (by rfl))) (fun _ _ _ _ _ => pv 8))
        (pss_cons (ps_set (i := 7) scLawLayers.nd rfl (.inr rfl) (pe_callB (cr_sortX rfl hr.units) (by rfl) T.sorted (by decide +kernel) (pa_cons (pe_callTy (cr_setX rfl hr.units) (by rfl) T.set (by decide +kernel) (pa_cons (pe_op op_cat (pv 6) (pe_lst (pa_cons (pv 5) pa_nil))) pa_nil)) pa_nil)))
        (pss_one (ps_if (pt_cmpR (op_eqD hr.units) (pe_lc (own := [("other", 8)]) (g := gName 8) (tt := tAnd (tTest (tOp (rIn K true) (tVar 8) (tVar 4))) (tTest (tOp (rIn K true) (tVar 8) (tVar 7)))) (by rfl) scLawLayers.nd (pi_list (pe_dget (hu_of hr) (pv 2) (pv 5) (fun _ _ => rfl))) (blkOk_by (N := nLawLayers) (sc := defScope sLawLayers) (by decide +kernel)) (fun _ _ _ _ _ => pg_name (i := 8) scLawLayers.nd rfl (Or.inl rfl)) (fun _ _ _ _ _ => pts_one (PW.pt (pw_and (pt_cmpR (r := rIn K true) op_notIn_seq (pv 8) (pv 4) (by rfl)) (pw_and1 (pt_cmpR (r := rIn K true) op_notIn_seq (pv 8) (pv 7) (by rfl)))))) (fun _ _ _ _ _ => pv 8)) (pe_lst pa_nil) (nomark _))
          (pss_cons (ps_expr (pe_bm PySem.F.plainAttrs_list PySem.F.slot_list_append PySem.F.type_list_append mt_append (pv 3) (pa_cons (pe_callTy call_tuple_of (by rfl) T.tuple (by decide +kernel) (pa_cons (pv 7) pa_nil)) pa_nil)))
          (pss_cons (ps_set (i := 4) scLawLayers.nd rfl (.inr rfl) (pe_op op_cat (pv 4) (pv 7))) (pss_one ps_break))) pss_nil)))))))
    (pss_one (ps_ret (pv 3))))))), ?_⟩
  refine ⟨.ref l, rfl, l, S, rfl, hRL, few, fun H1 pn ns s1 npn hpn nz rz hmem => ?_⟩
  have hup : UpX ns := upX_of rz nz
  have n40 : ns.length ≤ 40 := Nat.le_trans (len_le nz fun z hz => hbd z ((hmem z).mp hz)) lbd
  have inN : ∀ {x y}, Lead S x y → y ∈ ns := fun h => (hmem _).mpr (lead_nm h)
  -- the leads
  refine ⟨.ref pn, rfl, pn, rfl, ⟨_, SqL.of hpn⟩, fun D hD => ?_⟩
  refine lc_list (xs := ns.map V.str) (fun i H2 => Same H1 H2 ∧ ∃ (ps : List Addr) (la : Str → Addr) (L : Str → W), H2 D = some (.lst (ps.map V.ref)) ∧ Paired (fun p (kv : Key × V) => SqT K H2 p [kV kv.1, kv.2]) ps ((ns.take i).map fun z => (.inr z, .ref (la z))) ∧ ∀ z ∈ ns.take i, la z ≠ D ∧ H2 (la z) = some (.lst ((L z).map V.str)) ∧ UpX (L z) ∧ ∀ y, y ∈ L z ↔ Lead S z y) ⟨same_new hD _, [], fun _ => D, fun _ => [], upd_same, .nil, fun _ z => nomatch z⟩ (fun i H2 _ h => SqL.of (h.1 _ _ hpn)) (fun i x H2 hx h => ?_) (fun H2 h => ?_)
  · obtain ⟨sm, ps, la, L, hd2, hps, hla⟩ := h
    obtain ⟨z, hz, rfl⟩ := map_at hx
    have il : i < ns.length := (List.getElem?_eq_some_iff.mp hz).1
    have new : z ∉ ns.take i := idx_new' nz hz
    have lps : ps.length ≤ ns.length := by
      rw [hps.length, List.length_map, List.length_take]
      omega
    refine ⟨rfl, .str z, rfl, .ref l, rfl, .str z, rfl, l, S, z, bd, rfl, hRL.same (s1.trans sm), hI, few, hbd, lbd, fun H3 p u s3 np hp up hu => ?_⟩
    refine ⟨by show 2 ≤ sizeLine; decide, fun t ht => ?_⟩
    have s4 := same_new ht (.tup [.str z, .ref p])
    have s34 := s3.trans s4
    have npD : p ≠ D := fun e => by
      rw [e, hd2] at np
      cases np
    have st : Stay _ (upd _ D (.lst (ps.map V.ref ++ [V.ref t]))) := .put (by rw [s34 _ _ hd2]; exact True.intro : Mut ((upd H3 t (.tup [.str z, .ref p])) D)) _
    refine ⟨_, s34 _ _ hd2, small_line' (by rw [List.length_map]; omega), same_put (sm.trans s34) hD, ps ++ [t], setA la z p, setL L z u, by rw [upd_same, List.map_append]; rfl, ?_, fun y hy => ?_⟩
    · have e : ((ns.take i).map fun z => ((.inr z : Key), V.ref (la z))) = (ns.take i).map fun y => ((.inr y : Key), V.ref (setA la z p y)) := List.map_congr_left fun y hy => by
        unfold setA
        rw [if_neg (fun q => new (by rw [← q]; exact hy))]
      rw [take_snoc hz, List.map_append, ← e]
      refine paired_end2 (F := fun p (kv : Key × V) => SqT K _ p [kV kv.1, kv.2]) ?_ (Paired.mapP (F := fun p (kv : Key × V) => SqT K H2 p [kV kv.1, kv.2]) hps fun p kv h => ((Stay.same s34).trans st).seq h)
      have ez : setA la z p z = p := by
        unfold setA
        rw [if_pos rfl]
      show SqT K _ t [V.str z, V.ref (setA la z p z)]
      rw [ez]
      exact st.seq (SqT.of upd_same)
    · rw [take_snoc hz] at hy
      unfold setA setL
      by_cases e : y = z
      · rw [if_pos e, if_pos e, upd_ne npD]
        refine ⟨npD, s4 _ _ hp, up, fun v => ?_⟩
        rw [e]
        exact hu v
      · rw [if_neg e, if_neg e]
        rcases List.mem_append.mp hy with q | q
        · obtain ⟨a1, a2, a3, a4⟩ := hla y q
          exact ⟨a1, by rw [upd_ne a1]; exact s34 _ _ a2, a3, a4⟩
        · exact absurd (List.mem_singleton.mp q) e
  obtain ⟨sm, ps, la, L, hd2, hps, hla⟩ := h
  rw [List.length_map, List.take_length] at hps hla
  refine ⟨D, ps, _, rfl, SqL.of hd2, hps, fun DL hDL => ?_⟩
  rw [nd_merge nz]
  have s3 := same_new hDL (.dK (ns.map fun z => ((.inr z : Key), V.ref (la z))))
  let HL : Hp := upd H2 DL (.dK (ns.map fun z => ((.inr z : Key), V.ref (la z))))
  have hLD : LD HL DL ns la L := ⟨upd_same, fun z hz => s3 _ _ (hla z hz).2.1⟩
  have hLm : ∀ z ∈ ns, ∀ y, y ∈ L z ↔ Lead S z y := fun z hz => (hla z hz).2.2.2
  have hL40 : ∀ z ∈ ns, (L z).length ≤ 40 := fun z hz => Nat.le_trans (len_le (upX_nodup (hla z hz).2.2.1) fun y hy => inN ((hLm z hz y).mp hy)) n40
  have sHL : Same H HL := s1.trans (sm.trans s3)
  have hpnL : HL pn = some (.lst (ns.map V.str)) := (sm.trans s3) _ _ hpn
  refine ⟨by show 0 ≤ sizeLine; decide, fun Df hDf => ⟨by show 0 ≤ sizeLine; decide, fun d0 hd0 => ?_⟩⟩
  have s4 := same_new hDf (.lst [])
  have s5 := same_new hd0 (.lst [])
  have n0f : d0 ≠ Df := fun e => by
    rw [e, upd_same] at hd0
    cases hd0
  have hDfH : H Df = none := none_back sHL hDf
  let Clo : W → Prop := fun lf => ∀ x ∈ lf, ∀ y, Lead S x y → Lead S y x → y ∈ lf
  let Pv : L2.St → Hp → Prop := fun σ H' => ∃ (dn : Addr) (dl : W) (ys : List V) (R : List W) (y5 y6 y7 : Option V), σ = [some (.ref l), some (.ref pn), some (.ref DL), some (.ref Df), some (.ref dn), y5, y6, y7, none] ∧ Same HL H' ∧ H' Df = some (.lst ys) ∧ DpAll K H' ys (R.map wd) ∧ H' dn = some (.lst (dl.map V.str)) ∧ dn ≠ Df ∧ dl.Nodup ∧ (∀ z ∈ dl, z ∈ ns) ∧ Clo (minus ns dl) ∧ R.length ≤ dl.length ∧ ∀ R2, LayO S (minus ns dl) R2 → LayO S ns (R ++ R2)
  let μ : L2.St → Hp → Nat := fun σ H' => match σ[4]? with | some (some (V.ref b)) => 41 - (match H' b with | some (.lst ys) => ys.length | _ => 0) | _ => 0
  dsimp only [gName, tSeq, tAsg, tC, List.set]
  refine while_by Pv μ ⟨d0, [], [], [], _, _, _, rfl, s4.trans s5, s5 _ _ upd_same, .nil, upd_same, n0f, List.nodup_nil, (fun _ z => nomatch z), (by rw [minus_nil]; exact fun x _ y h _ => inN h), Nat.le_refl _, by rw [minus_nil]; exact fun R2 h => h⟩ (fun σ H3 hP => ?_) (fun σ H2 Q1 Q2 m h => ?_)
  · obtain ⟨dn, dl, ys, R, y5, y6, y7, rfl, s6, hDf3, hys, hdn, ndf, ndl, hds, hclo, hRl, hlay⟩ := hP
    have l40 : dl.length ≤ ns.length := len_le ndl hds
    have lnd : (dl.map V.str).length = dl.length := List.length_map ..
    have lnn : (ns.map V.str).length = ns.length := List.length_map ..
    have lys : ys.length = R.length := by rw [dpAll_len hys, List.length_map]
    have hμ : μ [some (.ref l), some (.ref pn), some (.ref DL), some (.ref Df), some (.ref dn), y5, y6, y7, none] H3 = 41 - dl.length := by
      show 41 - (match H3 dn with | some (.lst ys) => ys.length | _ => 0) = _
      rw [hdn]
      show 41 - (dl.map V.str).length = _
      rw [lnd]
    refine ⟨.ref dn, rfl, dn, _, rfl, .inl (SqL.of hdn), .ref pn, rfl, pn, _, rfl, .inl (SqL.of (s6 _ _ hpnL)), _, _, rfl, rfl, _, rfl, ite2 (fun e => ?_) (fun e => ?_)⟩
    · have lt : dl.length < ns.length := by
        have := of_decide_eq_true e
        rw [lnd, lnn] at this
        omega
      let lf : W := minus ns dl
      have lfn : ∀ z ∈ lf, z ∈ ns := fun z hz => (mem_minus.mp hz).1
      have lfne : lf ≠ [] := fun z => by
        have : ns.length ≤ dl.length := len_le nz fun y hy => Classical.byContradiction fun c => by
          have q : y ∈ lf := mem_minus.mpr ⟨hy, c⟩
          rw [z] at q
          exact nomatch q
        omega
      have lfup : UpX lf := hup.sublist List.filter_sublist
      have lf40 : lf.length ≤ 40 := Nat.le_trans (List.length_filter_le _ _) n40
      refine ⟨.ref pn, rfl, pn, rfl, ⟨_, SqL.of (s6 _ _ hpnL)⟩, fun Dl hDl => ?_⟩
      refine lc_list (xs := ns.map V.str) (fun n H4 => Same H3 H4 ∧ H4 Dl = some (.lst (((ns.take n).filter fun z => !decide (z ∈ dl)).map V.str))) ⟨same_new hDl _, upd_same⟩ (fun n H4 _ h => SqL.of (h.1 _ _ (s6 _ _ hpnL))) (fun n y0 H4 hx h => ?_) (fun H4 h => ?_)
      · obtain ⟨z, hz, rfl⟩ := map_at hx
        have il : n < ns.length := (List.getElem?_eq_some_iff.mp hz).1
        refine ⟨rfl, .str z, rfl, .ref dn, rfl, dn, _, rfl, .inl (SqL.of (h.1 _ _ hdn)), rfl, flat_strs _, _, rfl, ?_⟩
        rw [inV_str]
        refine ite2 (fun e => ?_) (fun e => ?_)
        · refine ⟨.str z, rfl, _, h.2, small_line' ?_, same_put h.1 hDl, ?_⟩
          · rw [List.length_map]
            have := List.length_filter_le (fun z => !decide (z ∈ dl)) (ns.take n)
            rw [List.length_take] at this
            omega
          · rw [upd_same, filt_t hz (show (!decide (z ∈ dl)) = true from e), List.map_append]
            rfl
        · refine ⟨h.1, ?_⟩
          rw [filt_f hz (show (!decide (z ∈ dl)) = false from (Bool.not_eq_true _).mp e)]
          exact h.2
      obtain ⟨s7, hDl4⟩ := h
      rw [List.length_map, List.take_length] at hDl4
      have ndl4 : Dl ≠ Df := fun e => by
        rw [e, hDf3] at hDl
        cases hDl
      refine ⟨Dl, rfl, ⟨_, SqL.of hDl4⟩, for_list (xs := lf.map V.str) (fun i σ H5 => ∃ y5 y6 y7, σ = [some (.ref l), some (.ref pn), some (.ref DL), some (.ref Df), some (.ref dn), y5, y6, y7, none] ∧ Same H4 H5 ∧ ∀ z ∈ lf.take i, ¬ RdyP S lf z) ⟨_, _, _, rfl, fun _ _ e => e, fun z hz => absurd hz (by simp)⟩ (fun i σ H5 _ h => ?_) (fun i x σ H5 hx h => ?_) (fun σ H5 h => ?_)⟩
      · obtain ⟨_, _, _, _, s8, _⟩ := h
        exact SqL.of (s8 _ _ hDl4)
      · obtain ⟨y5', y6', y7', rfl, s8, no⟩ := h
        obtain ⟨x, hx0, rfl⟩ := map_at hx
        have hxl : x ∈ lf := List.mem_of_getElem? hx0
        have hxn := lfn x hxl
        have s78 := s7.trans s8
        have s68 := s6.trans s78
        have hLD5 := hLD.same s68
        dsimp only [gName, tSeq, tAsg, List.set]
        refine near_lc (F := DL) (x := x) rfl rfl (by show 8 < 9; decide) hLD5 hxn (fun y hy => inN ((hLm x hxn y).mp hy)) (hL40 x hxn) fun H6 D6 s9 hD6 => ?_
        let near : W := (L x).filter fun y => decide (x ∈ L y)
        have lnear : near.length ≤ 40 := Nat.le_trans (List.length_filter_le _ _) (hL40 x hxn)
        refine ⟨.ref D6, rfl, .str x, rfl, by show 1 ≤ sizeLine; decide, fun e1 he1 => ?_⟩
        have s10 := same_new he1 (.lst [.str x])
        refine ⟨D6, e1, _, _, rfl, rfl, s10 _ _ hD6, upd_same, small_line (by rw [List.length_map]; show near.length + 1 ≤ _; omega), fun p hp => ?_⟩
        have s11 := same_new hp (.lst (near.map V.str ++ [V.str x]))
        refine ⟨p, near ++ [x], rfl, .inl (SqL.of (by rw [upd_same, List.map_append]; rfl)), by rw [List.length_append]; show _ + 1 < _; omega, fun b ms hb nd hm hl' => ?_⟩
        have s12 := same_new hb (XSetO P w b ms)
        refine ⟨b, ms, rfl, upd_same, by rw [List.length_append] at hl'; have : ms.length ≤ near.length + 1 := hl'; omega, fun lot pl hz6 nz6 hlz6 rz6 hpl => ?_⟩
        have s13 := same_new hpl (.lst (lot.map V.str))
        have s913 := s9.trans (s10.trans (s11.trans (s12.trans s13)))
        have upl : UpX lot := upX_of rz6 nz6
        have meml : ∀ y, y ∈ lot ↔ y = x ∨ (Lead S x y ∧ Lead S y x) := fun y => by
          rw [hz6, hm, List.mem_append, List.mem_singleton, List.mem_filter, decide_eq_true_eq, or_comm]
          refine or_congr Iff.rfl ⟨fun h => ?_, fun h => ?_⟩
          · have xy := (hLm x hxn y).mp h.1
            exact ⟨xy, (hLm y (inN xy) x).mp h.2⟩
          · exact ⟨(hLm x hxn y).mpr h.1, (hLm y (inN h.1) x).mpr h.2⟩
        have memlf : ∀ y, y ∈ lot ↔ y ∈ lf ∧ (y = x ∨ (Lead S x y ∧ Lead S y x)) := fun y => (meml y).trans ⟨fun h => ⟨h.elim (fun q => q ▸ hxl) fun q => hclo x hxl y q.1 q.2, h⟩, fun h => h.2⟩
        have l40' : lot.length ≤ 40 := Nat.le_trans (len_le nz6 fun y hy => lfn y ((memlf y).mp hy).1) n40
        dsimp only [gName, tIfS, tTest, tOp, List.set]
        refine out_lc (K := K) (F := DL) (x := x) (c4 := dn) (c7 := pl) (dn := dl) (lot := lot) rfl rfl rfl rfl (by show 8 < 9; decide) (hLD5.same s913) hxn (hL40 x hxn) ((s78.trans s913) _ _ hdn) upd_same fun H8 D8 s14 hD8 => ?_
        refine ⟨by show 0 ≤ sizeLine; decide, fun e0 he0 => ?_⟩
        have s15 := same_new he0 (.lst [])
        let out : W := (L x).filter fun y => !decide (y ∈ dl) && !decide (y ∈ lot)
        have nmo : ∀ y ∈ out, nameB y = true := fun y hy => nm_ok hI (lead_nm ((hLm x hxn y).mp (List.mem_filter.mp hy).1))
        refine ⟨.list (out.map .str), .list [], .lst (SqL.of (s15 _ _ hD8)) (dps_strs _), .lst (SqL.of upd_same) .nil, shaped_strs nmo, by decide, _, rfl, ?_⟩
        rw [eqv_nil]
        have s915 := s913.trans (s14.trans s15)
        have rdy : out = [] ↔ RdyP S lf x := by
          unfold RdyP
          rw [List.filter_eq_nil_iff]
          constructor
          · intro h y xy hy
            have z := h y ((hLm x hxn y).mpr xy)
            have ny := (mem_minus.mp hy).2
            have yl : y ∈ lot := Classical.byContradiction fun c => z (by simp [ny, c])
            exact ((meml y).mp yl).elim .inl fun q => .inr q.2
          · intro h y hy z
            rw [Bool.and_eq_true] at z
            have z1 : y ∉ dl := by simpa using z.1
            have z2 : y ∉ lot := by simpa using z.2
            have xy := (hLm x hxn y).mp hy
            exact z2 ((meml y).mpr ((h y xy (mem_minus.mpr ⟨inN xy, z1⟩)).elim .inl fun q => .inr ⟨xy, q⟩))
        refine ite2 (fun e1 => ?_) (fun e1 => ?_)
        · have hr : RdyP S lf x := rdy.mp (of_decide_eq_true e1)
          have sA := s78.trans s915
          have hDfA := sA _ _ hDf3
          have hplA := (s14.trans s15) _ _ (upd_same : (upd _ pl (.lst (lot.map V.str))) pl = _)
          have hpos : 0 < lot.length := List.length_pos_iff.mpr fun q => by
            have := (meml x).mpr (.inl rfl)
            rw [q] at this
            exact nomatch this
          refine ⟨.ref Df, rfl, .inl ⟨rfl, _, SqL.of hDfA⟩, .ref pl, rfl, pl, _, rfl, .inl ⟨SqL.of hplA, fun t ht => ?_⟩⟩
          have s16 := same_new ht (.tup (lot.map V.str))
          refine ⟨Df, _, _, rfl, rfl, s16 _ _ hDfA, small_line' (by omega), ?_⟩
          have hDfB := s16 _ _ hDfA
          have st : Stay _ (upd _ Df (.lst (ys ++ [V.ref t]))) := Stay.put (mutL hDfB) _
          have hdnB := (sA.trans s16) _ _ hdn
          have nplf : pl ≠ Df := fun q => by
            have z := (s78.trans (s9.trans (s10.trans (s11.trans s12)))) _ _ hDf3
            rw [← q] at z
            exact nomatch (hpl.symm.trans z)
          refine ⟨.ref dn, rfl, .ref pl, rfl, dn, pl, _, _, rfl, rfl, by rw [upd_ne ndf]; exact hdnB, by rw [upd_ne nplf]; exact s16 _ _ hplA, small_line (by rw [List.length_map, List.length_map]; omega), fun p9 hp9 => ?_⟩
          have s17 := same_new hp9 (.lst (dl.map V.str ++ lot.map V.str))
          have n9f : p9 ≠ Df := fun q => by
            rw [q, upd_same] at hp9
            cases hp9
          have ndl2 : (dl ++ lot).Nodup := List.nodup_append.mpr ⟨ndl, nz6, fun u hu v hv q => by
            subst q
            exact (mem_minus.mp ((memlf u).mp hv).1).2 hu⟩
          have em : minus ns (dl ++ lot) = minus lf lot := minus_app
          refine ⟨⟨p9, dl ++ lot, ys ++ [.ref t], R ++ [lot], _, _, _, rfl, (same_put ((s6.trans sA).trans s16) hDf).trans s17, s17 _ _ upd_same, ?_, by rw [upd_same, List.map_append], n9f, ndl2, fun z hz => ?_, ?_, by rw [List.length_append, List.length_append]; show R.length + 1 ≤ _; omega, fun R2 h => ?_⟩, ?_⟩
          · rw [List.map_append]
            exact dpAll_app ((((Stay.same (sA.trans s16)).trans st).trans (Stay.same s17)).dpAll _ _ (okDs_wd R) hys) (.cons (to_wd ((st.trans (Stay.same s17)).seq (SqT.of upd_same))) .nil)
          · rcases List.mem_append.mp hz with q | q
            · exact hds z q
            · exact lfn z ((memlf z).mp q).1
          · rw [em]
            intro u hu v uv vu
            obtain ⟨h1, h2⟩ := mem_minus.mp hu
            refine mem_minus.mpr ⟨hclo u h1 v uv vu, fun hv => h2 ((memlf u).mpr ⟨h1, ?_⟩)⟩
            rcases (meml v).mp hv with q | q
            · rw [q] at uv vu
              exact .inr ⟨vu, uv⟩
            · exact .inr ⟨q.1.trans vu, uv.trans q.2⟩
          · rw [List.append_assoc]
            rw [em] at h
            have ei : lf = lf.take i ++ x :: lf.drop (i + 1) := by
              have z := take_snoc hx0
              conv => lhs; rw [← List.take_append_drop (i + 1) lf, z]
              rw [List.append_assoc]
              rfl
            exact hlay _ (.cons ei no hr upl memlf h)
          · rw [hμ]
            show 41 - (match (upd _ p9 (.lst (dl.map V.str ++ lot.map V.str))) p9 with | some (.lst ys) => ys.length | _ => 0) < _
            rw [upd_same]
            show 41 - (dl.map V.str ++ lot.map V.str).length < _
            rw [List.length_append, List.length_map, List.length_map]
            omega
        · have hr : ¬ RdyP S lf x := fun h => e1 (decide_eq_true (rdy.mpr h))
          refine ⟨_, _, _, rfl, s8.trans s915, fun z hz => ?_⟩
          rw [take_snoc hx0] at hz
          rcases List.mem_append.mp hz with q | q
          · exact no z q
          · rw [List.mem_singleton.mp q]
            exact hr
      · obtain ⟨_, _, _, _, _, no⟩ := h
        rw [List.length_map, List.take_length] at no
        obtain ⟨z, hz, hr⟩ := rdy_some (S := S) lfne
        exact absurd hr (no z hz)
    · have full : ns.length ≤ dl.length := by
        have : ¬ ((dl.map V.str).length : Int) < ((ns.map V.str).length : Int) := fun h => e (decide_eq_true h)
        rw [lnd, lnn] at this
        omega
      have e0 : minus ns dl = [] := by
        refine List.eq_nil_iff_forall_not_mem.mpr fun z hz => ?_
        obtain ⟨h1, h2⟩ := mem_minus.mp hz
        exact h2 (full_mem ndl hds (by omega) z h1)
      have z := hlay [] (by rw [e0]; exact .nil)
      rw [List.append_nil] at z
      exact ⟨.ref Df, rfl, q H3 Df ys ns R (sHL.trans s6) hDfH hDf3 hys hup hmem z⟩
  · obtain ⟨a1, b1, p, ys, e, sq, a3, b3, p3, ys3, e3, sq3, i, j, e1, e2, k, ek, q⟩ := h
    exact ⟨a1, b1, p, ys, e, sq, a3, b3, p3, ys3, e3, sq3, i, j, e1, e2, k, ek, m _ _ q⟩
end
end Rw
namespace Rw
open PySem PySem.Spec PyProof.Rows L2
/-! ### _law_is_refused -/
structure ErrK (K : PySem.W.Frag) (mg : Str → Option Value) (CE CR : Addr) : Prop where
  mE : mg "NotAProgram" = some (.ref CE)
  mR : mg "RuleError" = some (.ref CR)
  eE : PySem.W.exmOne K (.ref CE) (.ref CR) = some true
  cE : ExcC K CE
  nE : PySem.W.findIn K (.ref CE) "thing" = some none
  iEE : PySem.W.kitOne K (.ref CE) (.ref CE) = some true
theorem xf_of {K : PySem.W.Frag} {C : Addr} (h : ExcC K C) : XfC K C := ⟨h.hg, h.hk, h.hs, h.hd⟩
abbrev sLawRefused : Stmt := topS 45
theorem scLawRefused : FnScope ["thing", "caught", "error"] ["thing"] (defScope sLawRefused) := ⟨rfl, rfl, rfl, by decide +kernel, rfl, by decide +kernel, by decide +kernel⟩
section
variable {P : Program} {w : World} {K : PySem.W.Frag} {mg : Str → Option Value} {base : Heap} {f : Addr} {fd : FuncData} {k : Nat}
def spLawRefused (K : PySem.W.Frag) : Sp := fun vs H Q _ => ∃ (x : V) (d : PyData), vs = [x] ∧ Dp K H x d ∧ SeqAt.shaped d = true ∧ ∀ H', Same H H' → Q (.bl true) H'
theorem ok_lawRefused {C CE CR f1 : Addr} {fd1 : FuncData} (F : Fun K "_law_is_refused" "_law_is_refused" sLawRefused f fd) (T : Bl mg) (E : ErrK K mg CE CR)
    (G1 : FnOk P w K mg base (L2.CX P w) k f1 fd1 ["program"] (spLayers K C CE)) (b1 : Binds K fd1 ["program"] []) (k1 : PySem.W.keepIn K (.ref f1) = true) (m1 : mg "layers" = some (.ref f1)) :
    FnOk P w K mg base CX0 (k + 1) f fd ["thing"] (spLawRefused K) := by
  refine F.ok scLawRefused (fun vs H Q E h => ?_) (fun cdv A outer s H vs Q E' hr h => ?_)
  · obtain ⟨x, d, rfl, h⟩ := h
    rfl
  obtain ⟨x, d, rfl, hx, shp, q⟩ := h
  refine ⟨_, pss_cons (ps_set (i := 1) scLawRefused.nd rfl (.inl rfl) pe_non)
    (pss_mid (ps_try_keep (i := 2) (j := 1) rfl rfl scLawRefused.nd rfl rfl ⟨rfl, by decide, .inl E.mR⟩ rfl rfl rfl rfl (by decide) (by decide) (by rfl) (fun W pn xe tk po =>
        pss_one (ps_expr (pe_callS G1 hr (by rfl) m1 k1 b1 (fun σ => passAt tk σ) (pa_cons (pv 0) pa_nil)))))
    (pss_one (ps_ret (pe_and (pe_callB call_isH (by rfl) T.isi PyProof.Rows.boot_isinstance (pa_cons (pv 1) (pa_cons (pe_glob (v := .ref CE) (by rfl) E.mE rfl) pa_nil))) (pe_one (pe_cmpR (op_eqD hr.units) (pe_fldH (xf_of E.cE) E.nE (pv 1)) (pv 0) (nomark _))))))), ?_⟩
  let I : L2.St → Hp → Prop := fun σ H' => ∃ (a dd : Addr), σ = [some x, some (.ref a), none] ∧ H' a = some (ExH (.ref CE) (some dd) a) ∧ H' dd = some (.xd [("thing", x)]) ∧ Same H H'
  refine ⟨I, ?_, fun σ' H' hI => ?_⟩
  · refine ⟨x, rfl, ?_⟩
    dsimp only [tNil]
    refine ⟨x, rfl, .inr ⟨d, hx, fun dx hdx => ⟨E.eE, fun a ha => ⟨a, dx, rfl, upd_same, (same_new ha _) _ _ upd_same, (same_new hdx _).trans (same_new ha _)⟩⟩⟩⟩
  · obtain ⟨a, dd, rfl, ha, hd, sm⟩ := hI
    have fld : ([(("thing" : Str), x)] : List (Str × V)).lookup ("thing" : Str) = some x := by
      rw [List.lookup_cons, beq_self_eq_true]
    refine ⟨.ref a, rfl, .ref a, .ref _, .ref _, rfl, fun v r => r, .inr ⟨a, _, dd, _, true, rfl, ha, hd, E.cE, E.iEE, true, rfl, iteT ?_⟩⟩
    refine ⟨.ref a, rfl, a, dd, _, x, rfl, ha, hd, fld, x, rfl, d, d, dp_same sm _ _ hx, dp_same sm _ _ hx, shp, shp, ?_⟩
    rw [eqv_self shp]
    exact q _ sm
end
end Rw
namespace Rw
open PySem PySem.Spec PyProof.Rows L2
/-! ### == and != of instances by their class's own __eq__ -/
section
variable {X : Cx}
def rEqP (C : Addr) (sp : Sp) (E : XK) : R2 := fun x y H Q => ∃ a dx fs b dy gs, x = .ref a ∧ y = .ref b ∧ H a = some (.ins C dx fs) ∧ H b = some (.ins C dy gs) ∧ sp [x, y] H Q E
theorem op_eqP {CX : CXT} {C g : Addr} {n : Nat} {sp : Sp} {E : XK} (hs : PySem.W.findIn X.K (.ref C) "__eq__" = some (some (.ref g))) (hf : PySem.W.isFn X.K (.ref g) = true) (F : FnR X.prog X.w X.K X.mg X.base CX n g sp) (hr : Room n X.A) (hx : Passes CX X E) : OpR X (compareOp .Eq) (rEqP C sp E) := by
  intro pins s σ H x y v u Q I rx ry h
  obtain ⟨a, dx, fs, b, dy, gs, rfl, rfl, ha, hb, q⟩ := h
  obtain rfl : v = Value.ref a := rx
  obtain rfl : u = Value.ref b := ry
  obtain ⟨mA, J, _⟩ := ins_get I.hok ha
  obtain ⟨mB, J', _⟩ := ins_get I.hok hb
  obtain ⟨od, J, _⟩ := J.look
  obtain ⟨od', J', _⟩ := J'.look
  obtain ⟨m, hF⟩ := I.fr
  show wpAny _ _ (richCompare .Eq (.ref a) (.ref b)) _ _ _
  refine PySem.W.cmp_K hr.units0 hF I.ok.mod.kin J J'.type (by simp [PySem.W.notFirst]) hs hf ?_
  refine wpAny_mono (wpAny_call (run_fnR F hr hx I (vs := [.ref a, .ref b]) (.cons rfl (.cons rfl .nil)) q)) (fun r s' h => ?_) fun e s' h => h
  obtain ⟨z, H', I', r, q⟩ := h
  exact SlX.cmpback r ⟨z, H', I', r, q⟩
/-- what the class is, for != -/
structure NeC (K : PySem.W.Frag) (C g : Addr) : Prop where
  cls : ∃ nm q N bs hd sn sub ab col dd k0 k1 k2 k3 k5 nid oN es ep, K.lookup C = some (excClassObj nm q C N bs [.type "object"] hd sn sub ab col dd k0 k1 k2 k3 k5 nid) ∧ K.lookup N = some oN ∧ oN.data = .dict es ep ∧ StrKeys es ∧ nsFind es "__eq__" = some (.ref g) ∧ nsFind es "__ne__" = none
  fn : ∃ og, K.lookup g = some og ∧ og.cls = .type "function"
def rNeP (C : Addr) (sp : Sp) (E : XK) : R2 := fun x y H Q => ∃ a dx fs b dy gs, x = .ref a ∧ y = .ref b ∧ H a = some (.ins C dx fs) ∧ H b = some (.ins C dy gs) ∧ sp [x, y] H (fun v H' => ∃ t, v = .bl t ∧ Q (.bl (!t)) H') E
theorem op_neP {CX : CXT} {C g : Addr} {n : Nat} {sp : Sp} {E : XK} (N : NeC X.K C g) (F : FnR X.prog X.w X.K X.mg X.base CX n g sp) (hr : Room (n + 1) X.A) (hx : Passes CX X E) : OpR X (compareOp .NotEq) (rNeP C sp E) := by
  intro pins s σ H x y v u Q I rx ry h
  obtain ⟨a, dx, fs, b, dy, gs, rfl, rfl, ha, hb, q⟩ := h
  obtain rfl : v = Value.ref a := rx
  obtain rfl : u = Value.ref b := ry
  obtain ⟨mA, J, _⟩ := ins_get I.hok ha
  obtain ⟨mB, J', _⟩ := ins_get I.hok hb
  obtain ⟨od, J, _⟩ := J.look
  obtain ⟨od', J', _⟩ := J'.look
  obtain ⟨nm, q1, NN, bs, hd, sn, sub, ab, col, dd, k0, k1, k2, k3, k5, nid, oN, es, ep, c1, c2, c3, c4, c5, c6⟩ := N.cls
  obtain ⟨og, g1, g2⟩ := N.fn
  have kin := I.kIn
  have own : s.heap.OwnEqNoNe a C g "object" [.type "object"] := ⟨_, og, nm, q1, NN, bs, hd, sn, sub, ab, col, dd, k0, k1, k2, k3, k5, nid, _, _, J.at_, J.cls, kin _ _ c1, ⟨oN, es, ep, kin _ _ c2, c3, c4, fun _ => rfl⟩, c5, kin _ _ g1, g2, PySem.F.cmp_object.mro, PySem.F.cmp_object.eq.lookup, c6⟩
  have un := hr.un
  refine compareOp_ne_ownEq PySem.F.cmp_object own J'.at_ J'.cls (by omega) ?_
  have e0 := I.env0
  have e1 : Env0 X.prog X.w X.K X.mg X.base X.A.in1 X.stack s H := ⟨e0.frames, e0.mod, e0.bs, e0.bsz, e0.funs, e0.frf, e0.hok, e0.bare⟩
  refine wpAny_call (codeAny_mono (F X.A.in1 X.stack s H [.ref a, .ref b] [.ref a, .ref b] _ E hr.in1 e1 (.cons rfl (.cons rfl .nil)) q) fun r s' h => ?_)
  cases r with
  | error e => exact hx pins σ H s e s' I h
  | ok f =>
    cases f with
    | ret v =>
      obtain ⟨z, H', I', r, t, rfl, q⟩ := I.after h
      obtain rfl : v = Value.bool t := r
      exact ⟨t, rfl, .bl (!t), H', I', rfl, q⟩
    | _ => exact h.elim
end
end Rw
namespace Rw
open PySem PySem.Spec PyProof.Rows L2
/-! ### a def without defaults, called by names; C() of a class whose __init__ takes *args -/
theorem kbn_fun {K : PySem.W.Frag} {x qual : Str} {st : Stmt} {f : Addr} {fd : FuncData} {ps : List Str} (F : Fun K x qual st f fd) (n : Nat) (ks : List Str) (g : List Value → List Value → List Value) (gV : List V → List V → List V)
    (h : ∀ (kV doc pm : Value) (an : Option Addr) (cdv ct : Value) (us ws : List Value), us.length = n → ws.length = ks.length → bindArgs (PySem.W.fnOf x qual (defArgs st) (defBody st) (defScope st) .none kV doc pm an cdv ct) { pos := us, kw := ks.zip ws } = pure (ps.zip (g us ws)))
    (rel : ∀ {vs : List V} {us : List Value} {zs : List V} {ws : List Value}, Vals vs us → Vals zs ws → Vals (gV vs zs) (g us ws)) : KBn K fd ps n ks g gV := by
  obtain ⟨oc, od, kV, doc, pm, an, cdv, ct, osl, rfl, lk, hcd⟩ := F.ex
  refine ⟨fun s us ws X l1 l2 => ?_, fun a b => rel a b⟩
  intro M A E Q q
  rw [h kV doc pm an cdv ct us ws l1 l2]
  exact wpAny_pure q
theorem pe_makeR0 {X : Cx} {CX : CXT} {k : Nat} {f C : Addr} {sp : Sp} {E : XK} {x : Str} {p pos : Pos} (M : Mk X.K C f) (F : FnR X.prog X.w X.K X.mg X.base CX k f sp) (hr : Room (k + 1) X.A) (hg : Gl X x) (hm : X.mg x = some (.ref C)) (hx : Passes CX X E)
    (hd : (x == ("__debug__" : Str)) = false := by rfl) : PE X (.Call (.Name x p) [] [] pos) (StX.tMakeR C sp E tNil) :=
  ⟨fun pins s σ H Q I h => wpAny_Call_Name_kw (ld_glob I hg hm (PySem.W.callWith_K0 I.kIn M.kp (StX.run_makeR M F hr hx I Paired.nil h)) hd)⟩
theorem passNo {P : Program} {w : World} {X : Cx} : Passes (L2.CX P w) X (fun _ _ _ => False) := fun pins σ H s e s' _ h => by
  obtain ⟨_, _, _, _, _, _, _, _, _, _, _, _, z⟩ := h
  exact z.elim
end Rw
namespace Rw
open PySem PySem.Spec PyProof.Rows L2 ClX
/-! ### law -/
abbrev sLaw : Stmt := topS 46
abbrev nLaw : List Str := ["script", "pool", "at", "purse", "names", "turn", "rules", "order", "sheet", "told", "below", "lot", "name", "one", "other"]
theorem scLaw : FnScope ["script", "pool", "at", "purse", "names", "turn", "rules", "order", "sheet", "told", "below", "lot", "name", "one", "other"] ["script"] (defScope sLaw) := ⟨rfl, rfl, rfl, by decide +kernel, rfl, by decide +kernel, by decide +kernel⟩
def poolW : W := ["a", "b", "c", "d", "e", "f", "m", "momentum", "z"]
def rowA : Rl := (["a"], [], [], [])
def oddD : List PyData := [.none, wd [], .str "a.", .int 7, .list [], .bool true, rd rowA]
theorem oddD_ok : ∀ d ∈ oddD, SeqAt.shaped d = true := fun d hd => by
  unfold oddD at hd
  simp only [List.mem_cons, List.mem_nil_iff, or_false] at hd
  rcases hd with rfl | rfl | rfl | rfl | rfl | rfl | rfl <;> decide +kernel
theorem isW_pool : IsW poolW := ⟨by decide +kernel, by decide +kernel, by decide⟩
theorem cut_pool (m : Nat) : cutV (poolW.map V.str) none (some ((2 + m : Nat) : Int)) = (poolW.take (min (2 + m) 9)).map V.str := by
  unfold cutV
  rw [HT.sIx_nat]
  show ((poolW.map V.str).drop 0).take (_ - 0) = _
  rw [List.drop_zero, Nat.sub_zero, List.map_take]
  rfl
/-! ### comparisons of the very same -/
/-- a thing that can be laid, not too deep -/
structure Lay (d : PyData) : Prop where
  lay : d.canLay0 = true
  dep : d.depth ≤ 20
theorem Lay.shaped {d : PyData} (h : Lay d) : SeqAt.shaped d = true := shaped_of h.lay (Nat.le_trans h.dep (by decide))
theorem Lay.list {ds : List PyData} (h : ∀ d ∈ ds, d.canLay0 = true ∧ d.depth ≤ 19) : Lay (.list ds) := by
  have e1 : ∀ ds : List PyData, (∀ d ∈ ds, d.canLay0 = true ∧ d.depth ≤ 19) → PyData.canLayAll0 ds = true ∧ PyData.depthAll ds ≤ 19 := by
    intro ds
    induction ds with
    | nil => exact fun _ => ⟨by simp [PyData.canLayAll0], by simp [PyData.depthAll]⟩
    | cons d t ih =>
      intro h
      obtain ⟨i1, i2⟩ := ih fun y hy => h y (List.mem_cons_of_mem _ hy)
      obtain ⟨j1, j2⟩ := h d List.mem_cons_self
      refine ⟨?_, ?_⟩
      · rw [PyData.canLayAll0, i1, j1]
        rfl
      · rw [PyData.depthAll]
        omega
  obtain ⟨i1, i2⟩ := e1 ds h
  refine ⟨?_, ?_⟩
  · rw [PyData.canLay0]
    exact i1
  · rw [PyData.depth]
    omega
theorem lay_worlds {R : List W} (h : ∀ l ∈ R, ∀ x ∈ l, nameB x = true) : Lay (.list (R.map wd)) := Lay.list fun d hd => by
  obtain ⟨l, hl, rfl⟩ := List.mem_map.mp hd
  exact ⟨lay_wd (h l hl), by rw [depth_wd]; decide⟩
section
variable {K : PySem.W.Frag} {H : Hp} {Q : VK} {d : PyData}
theorem ne_same {x y : V} (hx : Dp K H x d) (hy : Dp K H y d) (l : Lay d) (q : Q (.bl false) H) : rNeD K x y H Q := ⟨d, d, hx, hy, l.shaped, l.shaped, by rw [eqv_self l.shaped]; exact q⟩
theorem eq_same {x y : V} (hx : Dp K H x d) (hy : Dp K H y d) (l : Lay d) (q : Q (.bl true) H) : rEqD K x y H Q := ⟨d, d, hx, hy, l.shaped, l.shaped, by rw [eqv_self l.shaped]; exact q⟩
end
theorem ris_of : ∀ (l : List Str) (p : Str), risingS p l = true → (∀ y ∈ l, p.cps.toList ≤ y.cps.toList) ∧ RisingX l
  | [], p, _ => ⟨(fun _ z => nomatch z), List.Pairwise.nil⟩
  | x :: r, p, h => by
    rw [risingS, Bool.and_eq_true] at h
    obtain ⟨h1, h2⟩ := h
    have le : p.cps.toList ≤ x.cps.toList := List.not_lt.mp fun c => by
      rw [ltCps_eq, decide_eq_true c] at h1
      cases h1
    obtain ⟨a, b⟩ := ris_of r x h2
    refine ⟨fun y hy => ?_, List.pairwise_cons.mpr ⟨fun y hy => decide_eq_true (a y hy), b⟩⟩
    rcases List.mem_cons.mp hy with e | e
    · rw [e]
      exact le
    · exact List.le_trans le (a y e)
theorem ris_sorted : ∀ {l : List Str}, sortedS l = true → RisingX l
  | [], _ => List.Pairwise.nil
  | x :: r, h => by
    obtain ⟨a, b⟩ := ris_of r x h
    exact List.pairwise_cons.mpr ⟨fun y hy => decide_eq_true (a y hy), b⟩
theorem names_few {S : List Rl} {b : Nat} (h : ∀ r ∈ S, ∀ t ∈ parts r, t.length ≤ b) : (namesL S).length ≤ S.length * (4 * b) := by
  induction S with
  | nil => exact Nat.zero_le _
  | cons r S ih =>
    have e := ih fun r hr => h r (List.mem_cons_of_mem _ hr)
    have h1 := h r List.mem_cons_self
    unfold parts at h1
    have p1 := h1 r.1 (by simp)
    have p2 := h1 r.2.1 (by simp)
    have p3 := h1 r.2.2.1 (by simp)
    have p4 := h1 r.2.2.2 (by simp)
    have o : (ownN r).length ≤ 4 * b := by
      unfold ownN parts
      simp only [List.flatMap_cons, List.flatMap_nil, List.length_append, List.length_nil, id]
      omega
    unfold namesL at e ⊢
    rw [List.flatMap_cons, List.length_append, List.length_cons, Nat.succ_mul]
    omega
theorem srt_nil {S : List Rl} (h : Srt S []) : S = [] := List.eq_nil_iff_forall_not_mem.mpr fun p hp => nomatch (h.mem p).mp hp
section
variable {K : PySem.W.Frag} {C : Addr} {σ : L2.St} {H : Hp} {Q : VK} {E : XK}
theorem make0_ok (q : ∀ H' v S, Same H H' → Srt S [] → S.length < 64 → PgAt K C H' v S → Q v H') : StX.tMakeR C (spInit K C) E tNil σ H Q :=
  made_ok (C := C) (L := []) (Q := Q) .nil (fun _ z => nomatch z) (by decide) q
end
theorem PgAt.put {K : PySem.W.Frag} {C D : Addr} {H : Hp} {v : V} {S : List Rl} {o : HO} (h : PgAt K C H v S) (hD : Mut (H D)) (ne : ∀ a, v = .ref a → a ≠ D) : PgAt K C (upd H D o) v S := by
  obtain ⟨a, dx, t, ys, rfl, h1, h2, h3⟩ := h
  have st : Stay H (upd H D o) := Stay.put hD o
  exact ⟨a, dx, t, ys, rfl, by rw [upd_ne (ne a rfl)]; exact h1, st.seq h2, st.dpAll _ _ (okDs_rd S) h3⟩
section
variable {K : PySem.W.Frag} {C : Addr} {σ : L2.St} {H : Hp} {Q : VK} {E : XK}
theorem makeRow_ok {e : TE} (r : Rl) (hr : IsR r) (he : ∀ Q2 : VK, (∀ H' y, Same H H' → Dp K H' y (rd r) → Q2 y H') → e σ H Q2) (q : ∀ H' v S, Same H H' → Srt S [r] → S.length < 64 → PgAt K C H' v S → Q v H') : StX.tMakeR C (spInit K C) E (tCons e tNil) σ H Q :=
  he _ fun H' y s hy => made_ok (C := C) (L := [r]) (Q := Q) (.cons hy .nil) (fun x hx => by rw [List.mem_singleton.mp hx]; exact hr) (by show 1 < 64; decide) fun H2 v S s2 => q H2 v S (s.trans s2)
end
def pn2 (i : Int) (z : Str) : PyData := .tuple [.int i, .str z]
theorem good_pn2 (i : Int) (z : Str) : Good (pn2 i z) := ⟨rfl, by unfold pn2; rw [PyData.depth, PyData.depthAll, PyData.depthAll, PyData.depthAll, PyData.depth, PyData.depth]; decide, ⟨_, rfl⟩⟩
theorem alike_pn2 (i j : Int) (y z : Str) : PySem.W.alike (pn2 i y) (pn2 j z) = true := by
  unfold pn2
  simp [PySem.W.alike, PySem.W.alikeAll]
theorem of_pn2 {K : PySem.W.Frag} {H : Hp} {x : V} {i : Int} {z : Str} (h : Dp K H x (pn2 i z)) : ∃ t, x = .ref t ∧ SqT K H t [.int i, .str z] := by
  unfold pn2 at h
  cases h with
  | tup h1 h2 =>
    cases h2 with
    | cons a b =>
      cases a
      cases b with
      | cons c d =>
        cases c
        cases d
        exact ⟨_, rfl, h1⟩
theorem isW_one {z : Str} {ns : W} (h : IsW ns) (hz : z ∈ ns) : IsW [z] ∧ [z].Sublist ns := ⟨isW_sub h (List.singleton_sublist.mpr hz), List.singleton_sublist.mpr hz⟩
theorem isW_nil : IsW [] := ⟨(fun _ z => nomatch z), List.Pairwise.nil, by decide⟩
theorem LayO.flat {S : List Rl} {lf : W} {R : List W} (h : LayO S lf R) : R.flatten.Nodup ∧ ∀ y ∈ R.flatten, y ∈ lf := by
  induction h with
  | nil => exact ⟨List.nodup_nil, fun _ z => nomatch z⟩
  | @cons lf pre post l x R e hp hx hu hm hr ih =>
    obtain ⟨h1, h2⟩ := ih
    rw [List.flatten_cons]
    refine ⟨List.nodup_append.mpr ⟨upX_nodup hu, h1, fun a ha b hb q => ?_⟩, fun y hy => ?_⟩
    · subst q
      exact (mem_minus.mp (h2 a hb)).2 ha
    · rcases List.mem_append.mp hy with q | q
      · exact ((hm y).mp q).1
      · exact (mem_minus.mp (h2 y q)).1
theorem LayO.len {S : List Rl} {lf : W} {R : List W} (h : LayO S lf R) : R.length ≤ lf.length := by
  induction h with
  | nil => exact Nat.le_refl _
  | @cons lf pre post l x R e hp hx hu hm hr ih =>
    have hxl : x ∈ lf := by rw [e]; simp
    have z := minus_less hxl ((hm x).mpr ⟨hxl, .inl rfl⟩)
    rw [List.length_cons]
    omega
theorem LayO.empty {S : List Rl} {R : List W} (h : LayO S [] R) : R = [] := by
  cases h with
  | nil => rfl
  | cons e _ _ _ _ _ => exact absurd e.symm (by simp)
/-- the names of the first layers split the rules -/
theorem lay_splits {S : List Rl} {ns below : W} {R : List W} {j : Nat} (h : LayO S ns R) (hm : ∀ z, z ∈ ns ↔ z ∈ namesL S) (hb : ∀ z, z ∈ below ↔ z ∈ (R.take j).flatten) : splitsB S below = true := by
  unfold splitsB
  rw [List.all_eq_true]
  intro r hr
  unfold splitR
  by_cases c : meets r.1 below = true
  · rw [c]
    show sub (own r) below = true
    obtain ⟨x, hx, hxb⟩ := List.any_eq_true.mp c
    have hxb' : x ∈ below := of_decide_eq_true hxb
    refine sub_of fun y hy => ?_
    have us : Lead S x y := .one ⟨r, hr, hx, hy⟩
    have inn : ∀ {u v}, Lead S u v → v ∈ ns := fun h => (hm _).mpr (lead_nm h)
    have xn : x ∈ ns := (hm x).mpr (List.mem_flatMap.mpr ⟨r, hr, List.mem_flatMap.mpr ⟨r.1, by unfold parts; simp, hx⟩⟩)
    rcases lay_begin h (ns := ns) (fun _ _ _ h => inn h) (fun x hx nx => absurd hx nx) j x xn (.inr ((hb x).mp hxb')) y us with q | q
    · exact absurd (inn us) q
    · exact (hb y).mpr q
  · rw [(Bool.not_eq_true _).mp c]
    rfl
section
variable {P : Program} {w : World} {K : PySem.W.Frag} {mg : Str → Option Value} {base : Heap} {f : Addr} {fd : FuncData} {k : Nat}
def spLaw (K : PySem.W.Frag) : Sp := fun vs H Q _ => ∃ (a : Addr) (ns : List Int), vs = [.ref a] ∧ SqL K H a (ns.map V.int) ∧ ns.length ≤ 63 ∧ ∀ H', Q (.bl true) H'
def kwOnly {α : Type} (_ zs : List α) : List α := zs
theorem ok_law {C CE CW pO fO fI f1 f2 f3 f4 f5 f6 f7 : Addr} {mc : Value} {fd1 fd2 fd3 fd4 fd5 fd6 fd7 : FuncData} (F : Fun K "law" "law" sLaw f fd) (T : Bl mg) (Tz : mg "zip" = none) (mC : mg "Program" = some (.ref C)) (cr : CRead K C mc) (cm : CMet K C mc "of" pO fO) (GO : FnR P w K mg base CX0 (k + 1) fO (spOf K C))
    (M : Mk K C fI) (GI : FnR P w K mg base CX0 k fI (spInit K C))
    (G1 : FnOk P w K mg base CX0 (k + 1) f1 fd1 ["script", "at"] (spLawPurse K)) (b1 : Binds K fd1 ["script", "at"] []) (k1 : PySem.W.keepIn K (.ref f1) = true) (m1 : mg "_law_purse" = some (.ref f1))
    (G2 : FnOk P w K mg base CX0 (k + 1) f2 fd2 ["purse", "out_of"] spLawDraw) (b2 : Binds K fd2 ["purse", "out_of"] []) (k2 : PySem.W.keepIn K (.ref f2) = true) (m2 : mg "_law_draw" = some (.ref f2))
    (G3 : FnOk P w K mg base CX0 (k + 1) f3 fd3 ["purse", "names", "sort", "most"] (spLawRules K)) (b3 : Binds K fd3 ["purse", "names", "sort", "most"] []) (k3 : PySem.W.keepIn K (.ref f3) = true) (m3 : mg "_law_rules" = some (.ref f3))
    (G4 : FnOk P w K mg base CX0 (k + 1) f4 fd4 ["rules"] (spLawLayers K)) (b4 : Binds K fd4 ["rules"] []) (k4 : PySem.W.keepIn K (.ref f4) = true) (m4 : mg "_law_layers" = some (.ref f4))
    (G5 : FnOk P w K mg base (L2.CX P w) (k + 1) f5 fd5 ["program", "names"] (spSplits K C CE CW)) (b5 : Binds K fd5 ["program", "names"] []) (k5 : PySem.W.keepIn K (.ref f5) = true) (m5 : mg "splits" = some (.ref f5))
    (G6 : FnOk P w K mg base CX0 (k + 1) f6 fd6 ["thing"] (spLawRefused K)) (b6 : Binds K fd6 ["thing"] []) (k6 : PySem.W.keepIn K (.ref f6) = true) (m6 : mg "_law_is_refused" = some (.ref f6))
    (G7 : FnOk P w K mg base (L2.CX P w) (k + 1) f7 fd7 ["program"] (spLayers K C CE)) (b7 : Binds K fd7 ["program"] []) (kb7 : KBn K fd7 ["program"] 0 ["program"] kwOnly kwOnly) (k7 : PySem.W.keepIn K (.ref f7) = true) (m7 : mg "layers" = some (.ref f7)) :
    FnOk P w K mg base CX0 (k + 2) f fd ["script"] (spLaw K) := by
  refine F.ok scLaw (fun vs H Q E h => ?_) (fun cdv A outer s H vs Q E hr h => ?_)
  · obtain ⟨a, ns, rfl, _⟩ := h
    rfl
  obtain ⟨a, ns, rfl, hS, hl, q⟩ := h
  refine ⟨_, (pss_cons (ps_set (i := 1) scLaw.nd rfl (.inl rfl) (pe_lst (pa_cons pe_str (pa_cons pe_str (pa_cons pe_str (pa_cons pe_str (pa_cons pe_str (pa_cons pe_str (pa_cons pe_str (pa_cons pe_str (pa_cons pe_str pa_nil))))))))))) (pss_cons (ps_for PassesOwn.never rfl (pi_range1 rfl T.range (pa_cons (pe_op op_add pe_int (pe_callB (call_min2 rfl) (by rfl) T.min (by decide +kernel) (pa_cons pe_int (pa_cons (pe_callB call_len_seq (by rfl) T.len PySem.boot_len (pa_cons (pv 0) pa_nil)) pa_nil)))) pa_nil)) (pg_name (i := 2) scLaw.nd rfl (.inl rfl)) (pss_cons (ps_set (i := 3) scLaw.nd rfl (.inr rfl) (pe_call G1 hr (by rfl) m1 k1 b1 .nil pass0 (pa_cons (pv 0) (pa_cons (pv 2) pa_nil)))) (pss_cons (ps_set (i := 4) scLaw.nd rfl (.inl rfl) (pe_slice sl_list (pv 1) po_none (po_some (pe_op op_add pe_int (pe_call G2 hr (by rfl) m2 k2 b2 .nil pass0 (pa_cons (pv 3) (pa_cons pe_int pa_nil))))))) (pss_cons (ps_for PassesOwn.never rfl (pi_range1 rfl T.range (pa_cons pe_int pa_nil)) (pg_name (i := 5) scLaw.nd rfl (.inl rfl)) (pss_cons (ps_set (i := 6) scLaw.nd rfl (.inl rfl) (pe_call G3 hr (by rfl) m3 k3 b3 .nil pass0 (pa_cons (pv 3) (pa_cons (pv 4) (pa_cons (pe_ix ix_list (pe_lst (pa_cons pe_int (pa_cons pe_int (pa_cons pe_int (pa_cons pe_int pa_nil))))) (pv 5) (fun _ _ => rfl)) (pa_cons (pe_op op_add pe_int (pe_op op_mul pe_int (pe_call G2 hr (by rfl) m2 k2 b2 .nil pass0 (pa_cons (pv 3) (pa_cons pe_int pa_nil))))) pa_nil)))))) (pss_mid (ps_if (pt_cmpR  op_eq (pv 5) pe_int (nomark _)) (pss_cons (ps_set (i := 7) scLaw.nd rfl (.inl rfl) (pe_callB (cr_sortL hr.units) (by rfl) T.sorted (by decide +kernel) (pa_cons (pe_lc (own := [("name", 12)]) (g := gName 12) (te := tTup (tCons (tCall spLawDraw [] (fun _ _ _ => False) (tCons (tVar 3) (tCons (tC (.int 1000)) tNil))) (tCons (tVar 12) tNil))) (by rfl) scLaw.nd (pi_list (pv 4)) (blkOk_by (N := nLaw) (sc := defScope sLaw) (by decide +kernel)) (fun _ _ _ _ _ => (pg_name (i := 12) scLaw.nd rfl (Or.inl rfl))) (fun _ _ _ _ _ => pts_nil) (fun _ _ _ _ _ => (pe_tup (pa_cons (pe_call G2 hr (by rfl) m2 k2 b2 .nil pass0 (pa_cons (pv 3) (pa_cons pe_int pa_nil))) (pa_cons (pv 12) pa_nil))))) pa_nil))) (pss_cons (ps_setLc (i := 6) (own := [("one", 13), ("other", 14)]) (g := gTup K 2 (gCons (gName 13) (gCons (gName 14) gNil))) (te := tTup (tCons (tTup (tCons (tOp (rIxT K) (tVar 13) (tC (.int 1))) tNil)) (tCons (tTup tNil) (tCons (tTup (tCons (tOp (rIxT K) (tVar 14) (tC (.int 1))) tNil)) (tCons (tTup tNil) tNil))))) (by rfl) scLaw.nd rfl rfl (sw_true rfl rfl rfl (by decide +kernel)) (pi_zip (by rfl) Tz (pa_cons (pv 7) (pa_cons (pe_slice sl_list (pv 7) (po_some pe_int) po_none) pa_nil))) (blkOk_by (N := nLaw) (sc := defScope sLaw) (by decide +kernel)) (fun _ _ _ _ _ => pg_tup (by rfl) (pgs_cons (pg_name (i := 13) scLaw.nd rfl (Or.inl rfl)) (pgs_cons (pg_name (i := 14) scLaw.nd rfl (Or.inl rfl)) pgs_nil))) (fun _ _ _ _ _ => pts_nil) (fun _ _ _ _ _ => (pe_tup (pa_cons (pe_tup (pa_cons (pe_ix ix_tup (pv 13) pe_int (fun _ _ => rfl)) pa_nil)) (pa_cons (pe_tup pa_nil) (pa_cons (pe_tup (pa_cons (pe_ix ix_tup (pv 14) pe_int (fun _ _ => rfl)) pa_nil)) (pa_cons (pe_tup pa_nil) pa_nil))))))) (pss_one (ps_set (i := 6) scLaw.nd rfl (.inl rfl) (pe_callB (cr_sortR rfl hr.units) (by rfl) T.sorted (by decide +kernel) (pa_cons (pe_callTy (T := "set")  (cr_setR rfl hr.units) (by rfl) T.set (by decide +kernel) (pa_cons (pe_op op_cat (pv 6) (pe_call G3 hr (by rfl) m3 k3 b3 .nil pass0 (pa_cons (pv 3) (pa_cons (pv 4) (pa_cons pe_int (pa_cons pe_int pa_nil)))))) pa_nil)) pa_nil)))))) pss_nil) (pss_cons (ps_set (i := 8) scLaw.nd rfl (.inl rfl) (pe_cmeth (pe_glob (v := .ref C) (by rfl) mC rfl) cr cm GO hr pass0 (pa_cons (pv 6) pa_nil))) (pss_cons (ps_set (i := 9) scLaw.nd rfl (.inl rfl) (pe_call G7 hr (by rfl) m7 k7 b7 .nil passNo (pa_cons (pv 8) pa_nil))) (pss_cons (ps_if (PW.pt (pw_or (pt_not (pt_val (pe_callB call_isi (by rfl) T.isi PyProof.Rows.boot_isinstance (pa_cons (pv 9) (pa_cons (pe_bltn (v := .ty "list") (by rfl) T.list (by decide +kernel) rfl) pa_nil))))) (pw_or1 (pt_cmpR  (op_neD hr.units) (pv 9) (pe_call G4 hr (by rfl) m4 k4 b4 .nil pass0 (pa_cons (pv 6) pa_nil)) (nomark _))))) pss_never pss_nil) (pss_cons (ps_set (i := 10) scLaw.nd rfl (.inl rfl) (pe_lst pa_nil)) (pss_cons (ps_for PassesOwn.never rfl (pi_list (pv 9)) (pg_name (i := 11) scLaw.nd rfl (.inl rfl)) (pss_cons (ps_set (i := 10) scLaw.nd rfl (.inl rfl) (pe_callB cr_sortedS (by rfl) T.sorted (by decide +kernel) (pa_cons (pe_op op_cat (pv 10) (pe_callTy (T := "list") (r := rListOf K) call_list_of (by rfl) T.list (by decide +kernel) (pa_cons (pv 11) pa_nil))) pa_nil))) (pss_one (ps_if (pt_not (pt_val (pe_call G5 hr (by rfl) m5 k5 b5 .nil passNo (pa_cons (pv 8) (pa_cons (pe_callTy (T := "tuple")  call_tuple_of (by rfl) T.tuple (by decide +kernel) (pa_cons (pv 10) pa_nil)) pa_nil))))) pss_never pss_nil)))) (pss_cons (ps_expr (pe_bm PySem.F.plainAttrs_list PySem.F.slot_list_append PySem.F.type_list_append mt_append (pv 9) (pa_cons pe_non pa_nil))) (pss_one (ps_if (PW.pt (pw_or (pt_cmpR  (op_neD hr.units) (pe_call G7 hr (by rfl) m7 k7 b7 .nil passNo (pa_cons (pv 8) pa_nil)) (pe_call G4 hr (by rfl) m4 k4 b4 .nil pass0 (pa_cons (pv 6) pa_nil)) (nomark _)) (pw_or1 (pt_cmpR  (op_neD hr.units) (pe_callK0 G7 hr (by rfl) m7 k7 kb7 passNo (pk_cons (pe_cmeth (pe_glob (v := .ref C) (by rfl) mC rfl) cr cm GO hr pass0 (pa_cons (pv 6) pa_nil)) pk_nil) (by rfl) (by rfl) (by rfl) (by rfl) (by rfl)) (pe_call G4 hr (by rfl) m4 k4 b4 .nil pass0 (pa_cons (pv 6) pa_nil)) (nomark _))))) pss_never pss_nil))))))))))) (pss_one (ps_if (pt_not (pt_val (pe_call G6 hr (by rfl) m6 k6 b6 .nil pass0 (pa_cons (pe_ix ix_list (pe_lst (pa_cons pe_non (pa_cons (pe_tup pa_nil) (pa_cons pe_str (pa_cons pe_int (pa_cons (pe_lst pa_nil) (pa_cons pe_bl (pa_cons (pe_tup (pa_cons (pe_tup (pa_cons pe_str pa_nil)) (pa_cons (pe_tup pa_nil) (pa_cons (pe_tup pa_nil) (pa_cons (pe_tup pa_nil) pa_nil))))) pa_nil)))))))) (pe_call G2 hr (by rfl) m2 k2 b2 .nil pass0 (pa_cons (pv 3) (pa_cons pe_int pa_nil))) (fun _ _ => rfl)) pa_nil)))) pss_never pss_nil)))))) (pss_one (ps_ret (pe_and (pe_cmpR  (op_eqD hr.units) (pe_call G7 hr (by rfl) m7 k7 b7 .nil passNo (pa_cons (pe_makeR0 M GI hr (by rfl) mC pass0) pa_nil)) (pe_lst pa_nil) (nomark _)) (pe_one (pe_cmpR  (op_eqD hr.units) (pe_call G7 hr (by rfl) m7 k7 b7 .nil passNo (pa_cons (StX.pe_makeR M GI hr (by rfl) mC pass0 (pa_cons (pe_tup (pa_cons (pe_tup pa_nil) (pa_cons (pe_tup pa_nil) (pa_cons (pe_tup pa_nil) (pa_cons (pe_tup pa_nil) pa_nil))))) pa_nil)) pa_nil)) (pe_lst pa_nil) (nomark _)))))))), ?_⟩
  refine ⟨by show 9 ≤ sizeLine; decide, fun e1 he1 => ?_⟩
  have s1 := same_new he1 (.lst (poolW.map V.str))
  let HP0 : Hp := upd H e1 (.lst (poolW.map V.str))
  obtain ⟨n0, hn0, hn1⟩ : ∃ n0 : Nat, (1 + (if ((ns.map V.int).length : Int) < 6 then ((ns.map V.int).length : Int) else 6)) = (n0 : Int) ∧ n0 ≤ 7 := by
    rw [List.length_map]
    by_cases c : (ns.length : Int) < 6
    · rw [if_pos c]
      exact ⟨1 + ns.length, by omega, by omega⟩
    · rw [if_neg c]
      exact ⟨7, by omega, by omega⟩
  refine ⟨.ref a, rfl, a, _, rfl, .inl (s1.seq hS), 6, ((ns.map V.int).length : Int), rfl, _, _, rfl, rfl, _, rfl, ?_⟩
  rw [hn0]
  refine ⟨by omega, by omega, ?_⟩
  refine for_range (n := (n0 : Int).toNat) (fun i σ H1 => (∃ y2 y3 y4 y5 y6 y7 y8 y9 y10 y11, σ = [some (.ref a), some (.ref e1), y2, y3, y4, y5, y6, y7, y8, y9, y10, y11, none, none, none]) ∧ Same HP0 H1) ⟨⟨_, _, _, _, _, _, _, _, _, _, rfl⟩, fun _ _ e => e⟩ (fun i σ HA hi hI => ?_) (fun σ H1 hI => ?_)
  · obtain ⟨⟨y2, y3, y4, y5, y6, y7, y8, y9, y10, y11, rfl⟩, smA⟩ := hI
    have hi7 : i < 7 := by omega
    -- the purse
    refine ⟨.ref a, rfl, .int (0 + (i : Int)), rfl, a, ns, i, ?_, (s1.trans smA).seq hS, hl, by omega, fun HB p sAB hpn hP0 => ?_⟩
    · rw [Int.zero_add]
      rfl
    have up : ∀ H', Bar p HB H' → Same HP0 H' := fun H' b c u e => b c u (fun z => by
      have := smA _ _ e
      rw [z, hpn] at this
      cases this) (sAB _ _ (smA _ _ e))
    have hp1 : HB e1 = some (.lst (poolW.map V.str)) := (smA.trans sAB) _ _ upd_same
    have ne1 : e1 ≠ p := fun z => by
      have := smA _ _ (upd_same : HP0 e1 = _)
      rw [z, hpn] at this
      cases this
    -- the names
    refine ⟨.ref e1, rfl, .ref p, rfl, p, 8, _, rfl, hP0, by omega, by decide, by decide, fun r us r0 r1 hP1 => ?_⟩
    obtain ⟨m, rfl⟩ := Int.eq_ofNat_of_zero_le r0
    have bar1 : Bar p HB (upd HB p (.lst us)) := .draw
    refine ⟨2, (m : Int), rfl, rfl, _, rfl, e1, _, rfl, SqL.of (bar1 _ _ ne1 hp1), fun lL hlL => ?_⟩
    have ec : cutV (poolW.map V.str) none (some (2 + (m : Int))) = (poolW.take (min (2 + m) 9)).map V.str := by
      have z := cut_pool m
      rw [show ((2 + m : Nat) : Int) = 2 + (m : Int) by omega] at z
      exact z
    let lets : W := poolW.take (min (2 + m) 9)
    let HC : Hp := upd (upd HB p (.lst us)) lL (.lst (cutV (poolW.map V.str) none (some (2 + (m : Int)))))
    have hL : HC lL = some (.lst (lets.map V.str)) := by
      show upd _ _ _ lL = _
      rw [upd_same, ec]
    have sC : Same (upd HB p (.lst us)) HC := same_new hlL _
    have barC : Bar p HB HC := bar1.trans (.same sC)
    have puC : Pur HC p (100000 + 1) := hP1.same sC
    have nlp : lL ≠ p := hP1.some hlL
    have hlets : IsW lets := isW_sub isW_pool (List.take_sublist _ _)
    have l10 : lets.length ≤ 9 := by
      show (poolW.take (min (2 + m) 9)).length ≤ 9
      rw [List.length_take]
      show min (min (2 + m) 9) 9 ≤ 9
      omega
    have ln : 1 ≤ lets.length := by
      show 1 ≤ (poolW.take (min (2 + m) 9)).length
      rw [List.length_take]
      show 1 ≤ min (min (2 + m) 9) 9
      omega
    refine ⟨4, rfl, by decide, by decide, for_range (n := 4) (fun j σ H1 => (∃ y5 y6 y7 y8 y9 y10 y11, σ = [some (.ref a), some (.ref e1), some (.int (0 + (i : Int))), some (.ref p), some (.ref lL), y5, y6, y7, y8, y9, y10, y11, none, none, none]) ∧ Bar p HC H1 ∧ Pur H1 p (100010 + 31000 * j)) ⟨⟨_, _, _, _, _, _, _, rfl⟩, fun _ _ _ e => e, puC.le (by omega)⟩ (fun j σ H1 hj hI => ?_) (fun σ HD hI => ?_)⟩
    · obtain ⟨⟨y5, y6, y7, y8, y9, y10, y11, rfl⟩, bar, pu⟩ := hI
      -- the rules
      obtain ⟨srt, hsrt, esrt⟩ : ∃ srt : Int, [V.int 2, V.int 1, V.int 0, V.int 1][j]? = some (.int srt) ∧ (srt = 0 ∨ srt = 1 ∨ srt = 2) := by
        rcases j with _ | _ | _ | _ | j
        · exact ⟨2, rfl, .inr (.inr rfl)⟩
        · exact ⟨1, rfl, .inr (.inl rfl)⟩
        · exact ⟨0, rfl, .inl rfl⟩
        · exact ⟨1, rfl, .inr (.inl rfl)⟩
        · omega
      refine ⟨.ref p, rfl, .ref lL, rfl, by show 4 ≤ sizeLine; decide, fun q4 hq4 => ?_⟩
      have s4 := same_new hq4 (.lst [.int 2, .int 1, .int 0, .int 1])
      refine ⟨.int (0 + (j : Int)), rfl, q4, _, j, .int srt, rfl, by rw [Int.zero_add], SqL.of upd_same, atI_nat hsrt, ?_⟩
      refine ⟨.ref p, rfl, p, 2, _, rfl, pu.same s4, by omega, by decide, by decide, fun r2 us2 r20 r21 pu2 => ?_⟩
      refine ⟨10, r2, rfl, rfl, .inl ⟨by decide, by decide⟩, 4, 10 * r2, rfl, rfl, ?_⟩
      have bar2 : Bar p HC (upd (upd H1 q4 (.lst [.int 2, .int 1, .int 0, .int 1])) p (.lst us2)) := (bar.trans (.same s4)).trans .draw
      refine ⟨p, lL, _, srt, 4 + 10 * r2, lets, rfl, esrt, by omega, by omega, pu2, by omega, nlp, bar2 _ _ nlp hL, ln, hlets, fun H2 aR0 ys0 S0 L0 bar3 pu3 hnR hR0 hys0 hSrt0 few0 le0 hRIn0 _ => ?_⟩
      have naR0 : aR0 ≠ p := pu2.some hnR
      have bar23 := bar2.trans bar3
      -- on the last turn they are made anew
      refine ⟨fun σ H6 => ∃ (aR : Addr) (ys : List V) (S : List Rl) (y7 : Option V), σ = [some (.ref a), some (.ref e1), some (.int (0 + (i : Int))), some (.ref p), some (.ref lL), some (.int (0 + (j : Int))), some (.ref aR), y7, y8, y9, y10, y11, none, none, none] ∧ Bar p HC H6 ∧ Pur H6 p (100010 + 31000 * j + 30500) ∧ H6 aR = some (.lst ys) ∧ aR ≠ p ∧ DpAll K H6 ys (S.map rd) ∧ Srt S S ∧ S.length ≤ 14 ∧ ∀ r ∈ S, RIn lets r, ?_, ?_⟩
      · refine ⟨.int (0 + (j : Int)), rfl, rfl, _, rfl, ite2 (fun e => ?_) (fun e => ?_)⟩
        · -- the order
          refine ⟨.ref lL, rfl, lL, rfl, ⟨_, SqL.of (bar23 _ _ nlp hL)⟩, fun D hD => ?_⟩
          have nDp : D ≠ p := pu3.some hD
          have sD := same_new hD (.lst [])
          refine lc_list (xs := lets.map V.str) (fun n H5 => Bar p H2 H5 ∧ Pur H5 p (100010 + 31000 * j + 15010 + n) ∧ ∃ (vs : List V) (ds : List PyData), H5 D = some (.lst vs) ∧ DpAll K H5 vs ds ∧ ds.length = n ∧ ∀ d ∈ ds, ∃ i z, d = pn2 i z ∧ z ∈ lets) ⟨.same sD, (pu3.same sD).le (by omega), [], [], upd_same, .nil, rfl, fun _ z => nomatch z⟩ (fun n H5 _ h => SqL.of ((bar23.trans h.1) _ _ nlp hL)) (fun n x H5 hx h => ?_) (fun H5 h => ?_)
          · obtain ⟨bar5, pu5, vs, ds, hd5, hds, lds, hpn2⟩ := h
            obtain ⟨z, hz, rfl⟩ := map_at hx
            have hzl : z ∈ lets := List.mem_of_getElem? hz
            have il : n < lets.length := (List.getElem?_eq_some_iff.mp hz).1
            refine ⟨rfl, .ref p, rfl, p, 1000, _, rfl, pu5, by omega, by decide, by decide, fun r3 us3 r30 r31 pu6 => ?_⟩
            refine ⟨.str z, rfl, by show 2 ≤ sizeLine; decide, fun t ht => ?_⟩
            have st := same_new ht (.tup [.int r3, .str z])
            have hd6 : (upd (upd H5 p (.lst us3)) t (.tup [.int r3, .str z])) D = some (.lst vs) := st _ _ (by rw [upd_ne nDp]; exact hd5)
            have stp : Stay _ (upd (upd (upd H5 p (.lst us3)) t (.tup [.int r3, .str z])) D (.lst (vs ++ [.ref t]))) := Stay.put (mutL hd6) _
            have lvs : vs.length = ds.length := dpAll_len hds
            have okd : okDs ds = true := okDs_all fun d hd => by
              obtain ⟨i, z, rfl, _⟩ := hpn2 d hd
              exact (good_pn2 i z).ok
            refine ⟨vs, hd6, small_line' (by omega), ((bar5.trans .draw).trans (.same st)).put hD, ((pu6.same st).put nDp).le (by omega), vs ++ [.ref t], ds ++ [pn2 r3 z], upd_same, ?_, by rw [List.length_append, lds]; rfl, fun d hd => ?_⟩
            · exact dpAll_app ((((Bar.draw (p := p)).stay pu5.mut).trans ((Stay.same st).trans stp)).dpAll _ _ okd hds) (.cons (.tup (stp.seq (SqT.of upd_same)) (.cons (.int _) (.cons (.str _) .nil))) .nil)
            · rcases List.mem_append.mp hd with q | q
              · exact hpn2 d q
              · exact ⟨r3, z, List.mem_singleton.mp q, hzl⟩
          obtain ⟨bar5, pu5, vs, ds, hd5, hds, lds, hpn2⟩ := h
          have lds9 : ds.length ≤ 9 := by
            rw [lds, List.length_map]
            exact l10
          have lds' : (lets.map V.str).length ≤ 9 := by
            rw [List.length_map]
            exact l10
          refine ⟨D, vs, ds, rfl, SqL.of hd5, hds, fun d hd => ?_, fun d hd d' hd' => ?_, fun ysO es O perm ris hysO hO => ?_⟩
          · obtain ⟨i, z, rfl, _⟩ := hpn2 d hd
            exact good_pn2 i z
          · obtain ⟨i, z, rfl, _⟩ := hpn2 d hd
            obtain ⟨i', z', rfl, _⟩ := hpn2 d' hd'
            exact alike_pn2 i i' z z'
          have esP : ∀ d ∈ es, ∃ i z, d = pn2 i z ∧ z ∈ lets := fun d hd => hpn2 d (perm.mem_iff.mp hd)
          have les : es.length = ds.length := perm.length_eq
          have lysO : ysO.length = es.length := dpAll_len hysO
          have sO := same_new hO (.lst ysO)
          have hysO' : DpAll K (upd H5 O (.lst ysO)) ysO es := dpAll_same sO _ _ hysO
          -- the pairs
          refine ⟨.ref O, rfl, .ref O, rfl, _, rfl, O, _, rfl, SqL.of upd_same, fun o2 ho2 => ?_⟩
          have sO2 := same_new ho2 (.lst (cutV ysO (some 1) none))
          let HO : Hp := upd (upd H5 O (.lst ysO)) o2 (.lst (cutV ysO (some 1) none))
          have hO1 : HO O = some (.lst ysO) := sO2 _ _ upd_same
          have hO2 : HO o2 = some (.lst (cutV ysO (some 1) none)) := upd_same
          have hysH : DpAll K HO ysO es := dpAll_same sO2 _ _ hysO'
          obtain ⟨es2, hes2, sub2⟩ : ∃ es2, DpAll K HO (cutV ysO (some 1) none) es2 ∧ ∀ d ∈ es2, d ∈ es := by
            refine ⟨(es.drop (HT.sIx ysO.length 0 (some 1))).take (HT.sIx ysO.length ysO.length none - HT.sIx ysO.length 0 (some 1)), ?_, fun d hd => List.mem_of_mem_drop (List.mem_of_mem_take hd)⟩
            unfold cutV
            exact dpAll_take _ (dpAll_drop _ hysH)
          have lcut := cutV_length ysO (some 1) none
          refine ⟨O, o2, ysO, _, rfl, SqL.of hO1, SqL.of hO2, fun D2 hD2 => ?_⟩
          refine lc_it (walk_zip (n := min ysO.length (cutV ysO (some 1) none).length) rfl) (fun n H6 => Same HO H6 ∧ ∃ (vs : List V) (Rs : List Rl), H6 D2 = some (.lst vs) ∧ DpAll K H6 vs (Rs.map rd) ∧ Rs.length = n ∧ ∀ r ∈ Rs, RIn lets r) ⟨same_new hD2 _, [], [], upd_same, .nil, rfl, fun _ z => nomatch z⟩ (fun n H6 _ h => ⟨SqL.of (h.1 _ _ hO1), SqL.of (h.1 _ _ hO2)⟩) (fun n x H6 H6' hn h hy => ?_) (fun H6 h => ?_)
          · obtain ⟨sm6, vs6, Rs, hd6, hRs, lRs, hRin⟩ := h
            obtain ⟨Tp, x1, x2, rfl, hTp, rfl, hx1, hx2⟩ := hy
            obtain ⟨d1, hd1, hxd1⟩ := dpAll_at' hysH hx1
            obtain ⟨i1, z1, rfl, hz1⟩ := esP d1 (List.mem_of_getElem? hd1)
            obtain ⟨d2, hd2, hxd2⟩ := dpAll_at' hes2 hx2
            obtain ⟨i2, z2, rfl, hz2⟩ := esP d2 (sub2 d2 (List.mem_of_getElem? hd2))
            obtain ⟨t1, rfl, ht1⟩ := of_pn2 hxd1
            obtain ⟨t2, rfl, ht2⟩ := of_pn2 hxd2
            have sT := same_new hTp (.tup [.ref t1, .ref t2])
            refine ⟨Tp, _, rfl, SqT.of upd_same, rfl, _, _, rfl, _, [], rfl, rfl, rfl, ?_⟩
            refine ⟨.ref t1, rfl, t1, _, 1, .str z1, rfl, rfl, same_tup (sm6.trans sT) ht1, rfl, by show 1 ≤ sizeLine; decide, fun u1 hu1 => ⟨by show 0 ≤ sizeLine; decide, fun u2 hu2 => ?_⟩⟩
            have v1 := same_new hu1 (.tup [.str z1])
            have v2 := same_new hu2 (.tup [])
            refine ⟨.ref t2, rfl, t2, _, 1, .str z2, rfl, rfl, same_tup (sm6.trans (sT.trans (v1.trans v2))) ht2, rfl, by show 1 ≤ sizeLine; decide, fun u3 hu3 => ⟨by show 0 ≤ sizeLine; decide, fun u4 hu4 => ⟨by show 4 ≤ sizeLine; decide, fun u5 hu5 => ?_⟩⟩⟩
            have v3 := same_new hu3 (.tup [.str z2])
            have v4 := same_new hu4 (.tup [])
            have v5 := same_new hu5 (.tup [.ref u1, .ref u2, .ref u3, .ref u4])
            have v45 := v4.trans v5
            have v35 := v3.trans v45
            have v25 := v2.trans v35
            have vall := sT.trans (v1.trans v25)
            have hd7 := vall _ _ hd6
            have lvs6 : vs6.length = Rs.length := by rw [dpAll_len hRs, List.length_map]
            have stp : Stay _ (upd _ D2 (.lst (vs6 ++ [V.ref u5]))) := Stay.put (mutL hd7) _
            refine ⟨vs6, hd7, small_line' (by omega), same_put (sm6.trans vall) hD2, vs6 ++ [.ref u5], Rs ++ [([z1], [], [z2], [])], upd_same, ?_, by rw [List.length_append, lRs]; rfl, fun r hr => ?_⟩
            · rw [List.map_append]
              exact dpAll_app (((Stay.same vall).trans stp).dpAll _ _ (okDs_rd Rs) hRs) (.cons (.tup (stp.seq (SqT.of upd_same)) (.cons (to_wd (ns := [z1]) (((Stay.same v25).trans stp).seq (SqT.of upd_same))) (.cons (to_wd (ns := []) (((Stay.same v35).trans stp).seq (SqT.of upd_same))) (.cons (to_wd (ns := [z2]) (((Stay.same v45).trans stp).seq (SqT.of upd_same))) (.cons (to_wd (ns := []) (((Stay.same v5).trans stp).seq (SqT.of upd_same))) .nil))))) .nil)
            · rcases List.mem_append.mp hr with q | q
              · exact hRin r q
              · rw [List.mem_singleton.mp q]
                obtain ⟨w1, w2⟩ := isW_one hlets hz1
                obtain ⟨w3, w4⟩ := isW_one hlets hz2
                refine ⟨⟨w1, isW_nil, w3, isW_nil⟩, fun t ht => ?_⟩
                unfold parts at ht
                simp only [List.mem_cons, List.mem_nil_iff, or_false] at ht
                rcases ht with e | e | e | e <;> subst e
                · exact w2
                · exact List.nil_sublist _
                · exact w4
                · exact List.nil_sublist _
          · obtain ⟨sm6, vs6, Rs, hd6, hRs, lRs, hRin⟩ := h
            have lRs9 : Rs.length ≤ 9 := by omega
            have s56 := sO.trans (sO2.trans sm6)
            have bar6 : Bar p HC H6 := (bar23.trans bar5).trans (.same s56)
            have pu6 := pu5.same s56
            have ndD2 : D2 ≠ p := (pu5.same (sO.trans sO2)).some hD2
            refine ⟨.ref D2, rfl, .ref p, rfl, .ref lL, rfl, p, lL, _, 0, 1, lets, rfl, .inl rfl, by decide, by decide, pu6, by omega, nlp, bar6 _ _ nlp hL, ln, hlets, fun H7 aB ysB SB LB bar7 pu7 _ hRB hysB _ _ leB hRInB _ => ?_⟩
            have hd7 := bar7 _ _ ndD2 hd6
            have hRs7 : DpAll K H7 vs6 (Rs.map rd) := (bar7.stay pu6.mut).dpAll _ _ (okDs_rd Rs) hRs
            have lvs6 : vs6.length = Rs.length := by rw [dpAll_len hRs, List.length_map]
            have lysB : ysB.length = SB.length := by rw [dpAll_len hysB, List.length_map]
            refine ⟨D2, aB, vs6, ysB, rfl, rfl, hd7, hRB, small_line (by omega), fun l4 hl4 => ?_⟩
            have s16 := same_new hl4 (.lst (vs6 ++ ysB))
            have hall16 : DpAll K (upd H7 l4 (.lst (vs6 ++ ysB))) (vs6 ++ ysB) ((Rs ++ SB).map rd) := by
              rw [List.map_append]
              exact dpAll_app (dpAll_same s16 _ _ hRs7) (dpAll_same s16 _ _ hysB)
            refine ⟨l4, vs6 ++ ysB, Rs ++ SB, rfl, .inl (SqL.of upd_same), hall16, by rw [List.length_append]; omega, fun b M hb hM isP hall => ?_⟩
            have s17 := same_new hb (TSetO w b M)
            refine ⟨b, M, Rs ++ SB, rfl, upd_same, (fun e he => ⟨(hM e he).1, (Stay.same s17).dp _ _ (hM e he).1.ok (hM e he).2⟩), isP, hall, fun ysM SM l5 hSM fewM hysM hl5 => ?_⟩
            have s18 := same_new hl5 (.lst ysM)
            have s1618 := s16.trans (s17.trans s18)
            have leM : SM.length ≤ 14 := by
              have e := len_le hSM.nd fun z hz => (hSM.mem z).mp hz
              rw [List.length_append] at e
              omega
            have nl5 : l5 ≠ p := (pu7.same (s16.trans s17)).some hl5
            exact ⟨l5, ysM, SM, _, rfl, (bar6.trans bar7).trans (.same s1618), (pu7.same s1618).le (by omega), upd_same, nl5, (Stay.same s18).dpAll _ _ (okDs_rd SM) hysM, ⟨hSM.nd, hSM.ris, fun _ => Iff.rfl⟩, leM, fun r hr => (List.mem_append.mp ((hSM.mem r).mp hr)).elim (hRin r) (hRInB r)⟩
        · exact ⟨aR0, ys0, S0, _, rfl, bar23, pu3.le (by omega), hR0, naR0, hys0, ⟨hSrt0.nd, hSrt0.ris, fun _ => Iff.rfl⟩, by omega, hRIn0⟩
      · rintro σ H6 ⟨aR, ys, S, y7', rfl, bar6, pu6, hR, naR, hys, srtS, leS, hRIn⟩
        have few : S.length < 64 := by omega
        have hIs : ∀ r ∈ S, IsR r := fun r hr => (hRIn r hr).1
        have inl : ∀ z ∈ namesL S, z ∈ lets := fun z hz => by
          obtain ⟨r, hr, hz⟩ := List.mem_flatMap.mp hz
          obtain ⟨t, ht, hz⟩ := List.mem_flatMap.mp hz
          exact ((hRIn r hr).2 t ht).subset hz
        have lt1000 : (namesL S).length < 1000 := by
          have e := names_few (S := S) (b := 9) fun r hr t ht => Nat.le_trans ((hRIn r hr).2 t ht).length_le l10
          have e2 : S.length * (4 * 9) ≤ 14 * (4 * 9) := Nat.mul_le_mul_right _ leS
          omega
        -- the program and its layers
        refine ⟨rfl, .ref aR, rfl, aR, ys, S, rfl, .inr (SqL.of hR), hys, hIs, few, fun H7 v S' s7 hS' few' hv => ?_⟩
        obtain rfl : S = S' := (hS'.one srtS fun _ => Iff.rfl).symm
        refine ⟨v, rfl, v, rfl, .inl ⟨S, lets, hv, hIs, few, inl, by omega, fun H8 D ys8 ns8 R s8 hDn hD hys8 hns hm hlay => ?_⟩⟩
        have s68 := s7.trans s8
        have lay : Lay (.list (R.map wd)) := lay_worlds fun l hl x hx => hns.names x ((hlay.sub l hl).2 x hx)
        refine ⟨.ref D, rfl, .ref D, .ty "list", .type "list", .type "list", true, rfl, .ty "list", .base (.lst hD), kit_ty (by decide +kernel), true, rfl, iteF ?_⟩
        refine ⟨.ref D, rfl, .ref aR, rfl, aR, S, lets, rfl, ⟨ys, s68 _ _ hR, dpAll_same s68 _ _ hys⟩, hIs, lt1000, inl, by omega, fun H9 D2 ys9 ns9 R9 s9 _ hD2 hys9 up9 hm9 hlay9 => ?_⟩
        obtain rfl : ns8 = ns9 := upX_one hns.up up9 fun z => (hm z).trans (hm9 z).symm
        obtain rfl : R = R9 := hlay.one hlay9
        refine ne_same (d := .list (R.map wd)) (.lst (SqL.of (s9 _ _ hD)) (dpAll_same s9 _ _ hys8)) (.lst (SqL.of hD2) hys9) lay ⟨_, rfl, iteF ?_⟩
        refine ⟨by show 0 ≤ sizeLine; decide, fun b0 hb0 => ?_⟩
        have s10 := same_new hb0 (.lst [])
        have lys8 : ys8.length = R.length := by rw [dpAll_len hys8, List.length_map]
        have flat := hlay.flat
        have n40 := hns.few
        have hD10 := (s9.trans s10) _ _ hD
        have hys10 := dpAll_same (s9.trans s10) _ _ hys8
        refine ⟨.ref D, rfl, D, rfl, ⟨_, SqL.of hD10⟩, for_list (xs := ys8) (fun n σ H11 => (∃ (b : Addr) (bl : W) (y11 : Option V), σ = [some (.ref a), some (.ref e1), some (.int (0 + (i : Int))), some (.ref p), some (.ref lL), some (.int (0 + (j : Int))), some (.ref aR), y7', some v, some (.ref D), some (.ref b), y11, none, none, none] ∧ H11 b = some (.lst (bl.map V.str)) ∧ UpX bl ∧ ∀ z, z ∈ bl ↔ z ∈ (R.take n).flatten) ∧ Same (upd H9 b0 (.lst [])) H11) ⟨⟨b0, [], _, rfl, upd_same, List.Pairwise.nil, fun z => by simp⟩, fun _ _ e => e⟩ (fun n σ H11 _ h => SqL.of (h.2 _ _ hD10)) (fun n x σ H11 hx h => ?_) (fun σ H11 h => ?_)⟩
        · obtain ⟨⟨b, bl, y11', rfl, hb, upb, memb⟩, s11⟩ := h
          obtain ⟨dd, hdd, hxd⟩ := dpAll_at' (dpAll_same s11 _ _ hys10) hx
          obtain ⟨l, hl0, rfl⟩ := map_at hdd
          obtain ⟨c1, rfl, tl⟩ := of_wd hxd
          have hlR : l ∈ R := List.mem_of_getElem? hl0
          obtain ⟨upl, subl⟩ := hlay.sub l hlR
          have eflat : (R.take (n + 1)).flatten = (R.take n).flatten ++ l := by
            rw [take_snoc hl0, List.flatten_append, List.flatten_cons, List.flatten_nil, List.append_nil]
          have ndl : (bl ++ l).Nodup := by
            have e : R.flatten = (R.take (n + 1)).flatten ++ (R.drop (n + 1)).flatten := by
              rw [← List.flatten_append, List.take_append_drop]
            have z := flat.1
            rw [e, eflat] at z
            have z2 := List.nodup_append.mp (List.nodup_append.mp z).1
            exact List.nodup_append.mpr ⟨upX_nodup upb, upX_nodup upl, fun u hu w hw => z2.2.2 u ((memb u).mp hu) w hw⟩
          have suba : ∀ z ∈ bl ++ l, z ∈ ns8 := fun z hz => by
            rcases List.mem_append.mp hz with q | q
            · obtain ⟨l2, h1, h2⟩ := List.mem_flatten.mp ((memb z).mp q)
              exact (hlay.sub l2 (List.mem_of_mem_take h1)).2 z h2
            · exact subl z q
          have lab : (bl ++ l).length ≤ 40 := Nat.le_trans (len_le ndl suba) n40
          have lab2 := lab
          rw [List.length_append] at lab2
          refine ⟨.ref b, rfl, .ref c1, rfl, c1, _, rfl, .inr tl, fun l3 hl3 => ?_⟩
          have s12 := same_new hl3 (.lst (l.map V.str))
          refine ⟨b, l3, _, _, rfl, rfl, s12 _ _ hb, upd_same, small_line (by rw [List.length_map, List.length_map]; omega), fun p4 hp4 => ?_⟩
          have s13 := same_new hp4 (.lst (bl.map V.str ++ l.map V.str))
          refine ⟨p4, bl ++ l, rfl, SqL.of (by rw [upd_same, List.map_append]), by omega, fun zs p5 perm srt hp5 => ?_⟩
          have s14 := same_new hp5 (.lst (zs.map V.str))
          have upz : UpX zs := upX_of (ris_sorted srt) (perm.nodup_iff.mpr ndl)
          have hzw : IsW zs := ⟨fun x hx => hns.names x (suba x (perm.mem_iff.mp hx)), upz, by rw [perm.length_eq]; exact lab⟩
          have memz : ∀ z, z ∈ zs ↔ z ∈ (R.take (n + 1)).flatten := fun z => by
            rw [perm.mem_iff, eflat, List.mem_append, List.mem_append, memb]
          refine ⟨v, rfl, .ref p5, rfl, p5, _, rfl, .inl ⟨SqL.of upd_same, fun t ht => ?_⟩⟩
          have s15 := same_new ht (.tup (zs.map V.str))
          have s1215 := s12.trans (s13.trans (s14.trans s15))
          refine ⟨v, .ref t, rfl, .inl ⟨S, wd zs, hv.same (s8.trans (s9.trans (s10.trans (s11.trans s1215)))), hIs, few, to_wd (SqT.of upd_same), oddW_wd hzw, fun H12 s16 => ⟨fun ns' hn' e' => ?_, fun e' => by rw [worldD_wd hzw] at e'; exact nomatch e'⟩⟩⟩
          have := wd_inj e'
          subst this
          rw [lay_splits hlay hm memz]
          exact ⟨_, rfl, iteF ⟨⟨p5, zs, _, rfl, (s15.trans s16) _ _ upd_same, upz, memz⟩, s11.trans (s1215.trans s16)⟩⟩
        · obtain ⟨⟨b, bl, y11', rfl, hb, upb, memb⟩, s11⟩ := h
          have s711 := s8.trans (s9.trans (s10.trans s11))
          have hD11 := s11 _ _ hD10
          refine ⟨.ref D, rfl, .inl ⟨rfl, _, SqL.of hD11⟩, D, _, _, rfl, rfl, hD11, small_line' (by have := hlay.len; omega), ?_⟩
          have nDp : D ≠ p := fun z => by
            obtain ⟨_, _, _, e, _⟩ := pu6.same (s7.trans s711)
            have q := hD11
            rw [z] at q
            rw [q] at e
            injection e with e
            injection e with e
            have e2 := congrArg List.length e
            rw [lys8] at e2
            have hpD : H7 p = none := z ▸ hDn
            obtain ⟨_, _, _, e3, _⟩ := pu6.same s7
            rw [hpD] at e3
            cases e3
          have hCD : HC D = none := none_bar (bar6.trans (.same s7)) (pu6.same s7) hDn
          let HZ : Hp := upd H11 D (.lst (ys8 ++ [.non]))
          have old : ∀ {b u}, H7 b = some u → HZ b = some u := fun {b u} e => by
            have ne : b ≠ D := fun z => by
              rw [z, hDn] at e
              cases e
            show upd _ _ _ b = _
            rw [upd_ne ne]
            exact s711 _ _ e
          have stZ : Stay H11 HZ := Stay.put (mutL hD11) _
          have hRZ : HZ aR = some (.lst ys) := old (s7 _ _ hR)
          have hysZ : DpAll K HZ ys (S.map rd) := stZ.dpAll _ _ (okDs_rd S) (dpAll_same (s7.trans s711) _ _ hys)
          have hvZ : PgAt K C HZ v S := (hv.same s711).put (mutL hD11) fun b e z => by
            obtain ⟨b', dx, t, zs, e', h1, _⟩ := id hv
            rw [e] at e'
            cases e'
            rw [z, hDn] at h1
            cases h1
          have puZ : Pur HZ p _ := (pu6.same (s7.trans s711)).put nDp
          have barZ : Bar p HC HZ := (bar6.trans (.same (s7.trans s711))).put hCD
          have two : ∀ {HW HX : Hp} {D3 D4 : Addr} {ys3 ys4 : List V} {ns3 ns4 : W} {R3 R4 : List W} {QQ : VK}, HX D3 = some (.lst ys3) → DpAll K HX ys3 (R3.map wd) → IsW ns3 → (∀ z, z ∈ ns3 ↔ z ∈ namesL S) → LayO S ns3 R3 → HX D4 = some (.lst ys4) → DpAll K HX ys4 (R4.map wd) → UpX ns4 → (∀ z, z ∈ ns4 ↔ z ∈ namesL S) → LayO S ns4 R4 → QQ (.bl false) HX → rNeD K (.ref D3) (.ref D4) HX QQ := fun h1 h2 h3 h4 h5 g1 g2 g3 g4 g5 qq => by
            obtain rfl := upX_one h3.up g3 fun z => (h4 z).trans (g4 z).symm
            obtain rfl := h5.one g5
            exact ne_same (d := .list (List.map wd _)) (.lst (SqL.of h1) h2) (.lst (SqL.of g1) g2) (lay_worlds fun l hl x hx => h3.names x ((h5.sub l hl).2 x hx)) qq
          refine ⟨v, rfl, v, rfl, .inl ⟨S, lets, hvZ, hIs, few, inl, by omega, fun H12 D3 ys12 ns12 R12 s12 _ hD3 hys12 hns12 hm12 hlay12 => ?_⟩⟩
          refine ⟨.ref aR, rfl, aR, S, lets, rfl, ⟨ys, s12 _ _ hRZ, dpAll_same s12 _ _ hysZ⟩, hIs, lt1000, inl, by omega, fun H13 D4 ys13 ns13 R13 s13 _ hD4 hys13 up13 hm13 hlay13 => ?_⟩
          refine two (HW := H13) (s13 _ _ hD3) (dpAll_same s13 _ _ hys12) hns12 hm12 hlay12 hD4 hys13 up13 hm13 hlay13 ⟨_, rfl, iteF ?_⟩
          have z13 := s12.trans s13
          refine ⟨rfl, .ref aR, rfl, aR, ys, S, rfl, .inr (SqL.of (z13 _ _ hRZ)), dpAll_same z13 _ _ hysZ, hIs, few, fun H14 v2 S2 s14 hS2 _ hv2 => ?_⟩
          obtain rfl : S = S2 := (hS2.one srtS fun _ => Iff.rfl).symm
          refine ⟨rfl, v2, rfl, .inl ⟨S, lets, hv2, hIs, few, inl, by omega, fun H15 D5 ys15 ns15 R15 s15 _ hD5 hys15 hns15 hm15 hlay15 => ?_⟩⟩
          have z15 := z13.trans (s14.trans s15)
          refine ⟨.ref aR, rfl, aR, S, lets, rfl, ⟨ys, z15 _ _ hRZ, dpAll_same z15 _ _ hysZ⟩, hIs, lt1000, inl, by omega, fun H16 D6 ys16 ns16 R16 s16 _ hD6 hys16 up16 hm16 hlay16 => ?_⟩
          refine two (HW := H16) (s16 _ _ hD5) (dpAll_same s16 _ _ hys15) hns15 hm15 hlay15 hD6 hys16 up16 hm16 hlay16 ⟨_, rfl, iteF ?_⟩
          have z16 := z15.trans s16
          exact ⟨⟨_, _, _, _, _, _, _, rfl⟩, barZ.trans (.same z16), (puZ.same z16).le (by omega)⟩
    · obtain ⟨⟨y5, y6, y7, y8, y9, y10, y11, rfl⟩, barD, puD⟩ := hI
      refine ⟨by show 0 ≤ sizeLine; decide, fun u1 h1 => ?_⟩
      have v1 := same_new h1 (.tup [])
      refine ⟨by show 0 ≤ sizeLine; decide, fun u2 h2 => ?_⟩
      have v2 := same_new h2 (.lst [])
      refine ⟨by show 1 ≤ sizeLine; decide, fun u3 h3 => ?_⟩
      have v3 := same_new h3 (.tup [.str "a"])
      refine ⟨by show 0 ≤ sizeLine; decide, fun u4 h4 => ?_⟩
      have v4 := same_new h4 (.tup [])
      refine ⟨by show 0 ≤ sizeLine; decide, fun u5 h5 => ?_⟩
      have v5 := same_new h5 (.tup [])
      refine ⟨by show 0 ≤ sizeLine; decide, fun u6 h6 => ?_⟩
      have v6 := same_new h6 (.tup [])
      refine ⟨by show 4 ≤ sizeLine; decide, fun u7 h7 => ?_⟩
      have v7 := same_new h7 (.tup [.ref u3, .ref u4, .ref u5, .ref u6])
      refine ⟨by show 7 ≤ sizeLine; decide, fun u8 h8 => ?_⟩
      have v8 := same_new h8 (.lst [.non, .ref u1, .str "a.", .int 7, .ref u2, .bl true, .ref u7])
      have v78 := v7.trans v8
      have v68 := v6.trans v78
      have v58 := v5.trans v68
      have v48 := v4.trans v58
      have v38 := v3.trans v48
      have v28 := v2.trans v38
      have v18 := v1.trans v28
      have pu8 := puD.same v18
      refine ⟨.ref p, rfl, p, 7, _, rfl, pu8, by omega, by decide, by decide, fun r us2 r0 r1 pu9 => ?_⟩
      have n2 : u2 ≠ p := (puD.same v1).some h2
      have n8 : u8 ≠ p := (puD.same (v1.trans (v2.trans (v3.trans (v4.trans (v5.trans (v6.trans v7))))))).some h8
      have all8 : ∀ H', Bar p _ H' → DpAll K H' [.non, .ref u1, .str "a.", .int 7, .ref u2, .bl true, .ref u7] oddD := fun H' b =>
        have st : Stay _ H' := b.stay pu8.mut
        .cons .non (.cons (to_wd (ns := []) (st.seq (SqT.of (v28 _ _ upd_same)))) (.cons (.str _) (.cons (.int _) (.cons (.lst (SqL.of (b _ _ n2 (v38 _ _ upd_same))) .nil) (.cons (.bl _) (.cons (.tup (st.seq (SqT.of (v8 _ _ upd_same))) (.cons (to_wd (ns := ["a"]) (st.seq (SqT.of (v48 _ _ upd_same)))) (.cons (to_wd (ns := []) (st.seq (SqT.of (v58 _ _ upd_same)))) (.cons (to_wd (ns := []) (st.seq (SqT.of (v68 _ _ upd_same)))) (.cons (to_wd (ns := []) (st.seq (SqT.of (v78 _ _ upd_same)))) .nil))))) .nil))))))
      obtain ⟨n, rfl⟩ := Int.eq_ofNat_of_zero_le r0
      have lt : n < 7 := by omega
      have hx : ([V.non, .ref u1, .str "a.", .int 7, .ref u2, .bl true, .ref u7] : List V)[n]? = some ([V.non, .ref u1, .str "a.", .int 7, .ref u2, .bl true, .ref u7][n]'lt) := List.getElem?_eq_getElem lt
      have lt2 : n < oddD.length := lt
      have hd : oddD[n]? = some (oddD[n]'lt2) := List.getElem?_eq_getElem lt2
      have g1 := oddD_ok _ (List.mem_of_getElem? hd)
      generalize ([V.non, .ref u1, .str "a.", .int 7, .ref u2, .bl true, .ref u7][n]'lt) = x at hx
      generalize oddD[n]'lt2 = d at hd g1
      refine ⟨u8, _, n, x, rfl, rfl, SqL.of (Bar.draw (p := p) (o := .lst us2) _ _ n8 upd_same), (atI_nat hx), ?_⟩
      obtain ⟨d', e', hxd⟩ := dpAll_at' (all8 _ (Bar.draw (p := p) (o := .lst us2))) hx
      rw [hd] at e'
      cases e'
      refine ⟨x, d, rfl, hxd, g1, fun H7 s7 => ⟨_, rfl, iteF ?_⟩⟩
      exact ⟨⟨_, _, _, _, _, _, _, _, _, _, rfl⟩, up _ (barC.trans (barD.trans ((Bar.same v18).trans (Bar.draw.trans (.same s7)))))⟩
  · obtain ⟨⟨y2, y3, y4, y5, y6, y7, y8, y9, y10, y11, rfl⟩, sm⟩ := hI
    dsimp only [tRet, tAndV, tOp, tCall, tCons]
    refine make0_ok fun H2 v S s2 hS _ hv => ?_
    obtain rfl := srt_nil hS
    refine ⟨v, rfl, .inl ⟨[], [], hv, (fun _ z => nomatch z), by decide, (fun _ z => nomatch z), by decide, fun H4 D ys ns2 R s4 _ hD hys hns hm hlay => ?_⟩⟩
    obtain rfl : ns2 = [] := List.eq_nil_iff_forall_not_mem.mpr fun z h => nomatch (hm z).mp h
    obtain rfl := hlay.empty
    refine ⟨by show 0 ≤ sizeLine; decide, fun e0 he0 => eq_same (d := .list []) (.lst (SqL.of (same_new he0 _ _ _ hD)) (dpAll_same (same_new he0 _) _ _ hys)) (.lst (SqL.of upd_same) .nil) ⟨by decide, by decide⟩ ⟨true, rfl, iteT ?_⟩⟩
    refine makeRow_ok ([], [], [], []) ⟨isW_nil, isW_nil, isW_nil, isW_nil⟩ (fun Q2 q2 => ⟨by show 0 ≤ sizeLine; decide, fun t1 ht1 => ⟨by show 0 ≤ sizeLine; decide, fun t2 ht2 => ⟨by show 0 ≤ sizeLine; decide, fun t3 ht3 => ⟨by show 0 ≤ sizeLine; decide, fun t4 ht4 => ⟨by show 4 ≤ sizeLine; decide, fun t5 ht5 => ?_⟩⟩⟩⟩⟩) fun H5 v5 S5 s5 hS5 few5 hv5 => ?_
    · have u1 := same_new ht1 (.tup [])
      have u2 := same_new ht2 (.tup [])
      have u3 := same_new ht3 (.tup [])
      have u4 := same_new ht4 (.tup [])
      have u5 := same_new ht5 (.tup [.ref t1, .ref t2, .ref t3, .ref t4])
      exact q2 _ (.ref t5) (u1.trans (u2.trans (u3.trans (u4.trans u5)))) (.tup (SqT.of upd_same) (.cons (to_wd (ns := []) (SqT.of ((u2.trans (u3.trans (u4.trans u5))) _ _ upd_same))) (.cons (to_wd (ns := []) (SqT.of ((u3.trans (u4.trans u5)) _ _ upd_same))) (.cons (to_wd (ns := []) (SqT.of ((u4.trans u5) _ _ upd_same))) (.cons (to_wd (ns := []) (SqT.of (u5 _ _ upd_same))) .nil)))))
    have nil5 : ∀ z, z ∉ namesL S5 := fun z hz => by
      obtain ⟨r, hr, hz⟩ := List.mem_flatMap.mp hz
      have e := (hS5.mem r).mp hr
      rw [List.mem_singleton.mp e] at hz
      exact nomatch hz
    refine ⟨v5, rfl, .inl ⟨S5, [], hv5, fun r hr => ?_, few5, fun z hz => absurd hz (nil5 z), by decide, fun H6 D6 ys6 ns6 R6 s6 _ hD6 hys6 hns6 hm6 hlay6 => ?_⟩⟩
    · have e := (hS5.mem r).mp hr
      rw [List.mem_singleton.mp e]
      exact ⟨isW_nil, isW_nil, isW_nil, isW_nil⟩
    obtain rfl : ns6 = [] := List.eq_nil_iff_forall_not_mem.mpr fun z h => nil5 z ((hm6 z).mp h)
    obtain rfl := hlay6.empty
    exact ⟨by show 0 ≤ sizeLine; decide, fun e0 he0 => eq_same (d := .list []) (.lst (SqL.of (same_new he0 _ _ _ hD6)) (dpAll_same (same_new he0 _) _ _ hys6)) (.lst (SqL.of upd_same) .nil) ⟨by decide, by decide⟩ (q _)⟩
end
end Rw
namespace Rw
open PySem PySem.Spec PyProof.Rows L2
/-! ### a head that tells of defs anywhere, and more -/
def hookY (n : Nat) (fa : List He.Fa) (fn : List He5.DefA) (ex : PySem.W.Frag → Bool) : PySem.W.Hook where
  α := He.AlD × Bool
  obs s := (He5.obsAG n fa fn s.heap.get?, ex (He.frG s.heap.get? (He5.asA s.heap.get? n)))
  val _ := (He5.valA fn, true)
  says _ h := ∃ K : PySem.W.Frag, K.In h ∧ He5.SaysA fa fn K ∧ ex K = true
  of _ s e := ⟨_, He.frG_in, (Prod.mk.inj e).1, (Prod.mk.inj e).2⟩
  keeps _ _ _ | ⟨K, X, a, b⟩, k => ⟨K, fun c o e => k _ _ (X c o e), a, b⟩
def obY (n : Nat) (fa : List He.Fa) (fn : List He5.DefA) (ex : PySem.W.Frag → Bool) (g : Addr → Option Obj) : He.AlD × Bool := (He5.obsAG n fa fn g, ex (He.frG g (He5.asA g n)))
theorem obY_eq {n : Nat} {fa : List He.Fa} {fn : List He5.DefA} {ex : PySem.W.Frag → Bool} {g : Addr → Option Obj} {s : Shared} (h : ∀ a, g a = s.heap.get? a) : obY n fa fn ex g = (hookY n fa fn ex).obs s := by
  have e : g = s.heap.get? := funext h
  subst e
  rfl
/-! ### what a class is, as a test -/
def clsB (K : PySem.W.Frag) (C : Addr) (f : List Value → Addr → Bool → Bool) (nid : String) : Bool :=
  match K.lookup C with
  | some ⟨.type t, _, .cls cd, sl⟩ => decide (t = "type" ∧ cd.hasDel = false) && (decide (cd.mro = .ref C :: cd.mro.tail) && (f cd.mro.tail cd.ns cd.hasDict && (match sl with | ⟨[_, _, _, _, some (.builtin i), _]⟩ => decide (i = nid) | _ => false)))
  | _ => false
theorem clsB_ok {K : PySem.W.Frag} {C : Addr} {f : List Value → Addr → Bool → Bool} {nid : String} (h : clsB K C f nid = true) : ∃ nm q N bs bm hd sn sub ab col dd k0 k1 k2 k3 k5, K.lookup C = some (excClassObj nm q C N bs bm hd sn sub ab col dd k0 k1 k2 k3 k5 nid) ∧ f bm N hd = true := by
  unfold clsB at h
  split at h
  · rename_i t dd cd sl e
    rw [Bool.and_eq_true, Bool.and_eq_true, Bool.and_eq_true] at h
    obtain ⟨h1, h2, h3, h4⟩ := h
    obtain ⟨h1, h0⟩ := of_decide_eq_true h1
    have h2 := of_decide_eq_true h2
    split at h4
    · rename_i k0 k1 k2 k3 i k5
      have h4 := of_decide_eq_true h4
      subst h1 h4
      obtain ⟨nm, bs, mro, ns, q, hd, sn, sub, ab, col, del⟩ := cd
      refine ⟨nm, q, ns, bs, mro.tail, hd, sn, sub, ab, col, dd, k0, k1, k2, k3, k5, ?_, h3⟩
      rw [e]
      have h2' : mro = .ref C :: mro.tail := h2
      have h0' : del = false := h0
      subst h0'
      unfold excClassObj
      rw [← h2']
    · exact nomatch h4
  · exact nomatch h
def strKeysB (es : Array DictEntry) : Bool := es.toList.all fun e => match e.key with | .str _ _ => true | _ => false
theorem strKeysB_ok {es : Array DictEntry} (h : strKeysB es = true) : StrKeys es := fun e he => by
  have z := List.all_eq_true.mp h e (Array.mem_toList_iff.mpr he)
  split at z
  · exact ⟨_, _, by assumption⟩
  · exact nomatch z
def nsB (K : PySem.W.Frag) (N g : Addr) : Bool :=
  match K.lookup N with
  | some ⟨_, _, .dict es _, _⟩ => strKeysB es && (decide (nsFind es "__eq__" = some (.ref g)) && decide (nsFind es "__ne__" = none))
  | _ => false
def fnB (K : PySem.W.Frag) (g : Addr) : Bool :=
  match K.lookup g with
  | some o => decide (o.cls = .type "function")
  | none => false
theorem neC_of {K : PySem.W.Frag} {C g : Addr} (h1 : clsB K C (fun bm N _ => decide (bm = [.type "object"]) && nsB K N g) "object.__new__" = true) (h2 : fnB K g = true) : NeC K C g := by
  obtain ⟨nm, q, N, bs, bm, hd, sn, sub, ab, col, dd, k0, k1, k2, k3, k5, e, hf⟩ := clsB_ok h1
  rw [Bool.and_eq_true] at hf
  obtain ⟨f1, f2⟩ := hf
  have f1 := of_decide_eq_true f1
  subst f1
  constructor
  · unfold nsB at f2
    split at f2
    · rename_i oc od es ep os eN
      rw [Bool.and_eq_true, Bool.and_eq_true] at f2
      obtain ⟨g1, g2, g3⟩ := f2
      exact ⟨nm, q, N, bs, hd, sn, sub, ab, col, dd, k0, k1, k2, k3, k5, "object.__new__", _, es, ep, e, eN, rfl, strKeysB_ok g1, of_decide_eq_true g2, of_decide_eq_true g3⟩
    · exact nomatch f2
  · unfold fnB at h2
    split at h2
    · exact ⟨_, by assumption, of_decide_eq_true h2⟩
    · exact nomatch h2
/-- an own error class, by tests -/
def oexB (K : PySem.W.Frag) (C : Addr) : Bool := clsB K C (fun bm _ hd => hd && HandSPX.refsVE bm) "ValueError.__new__" && (decide (PySem.W.findIn K (.ref C) "__setattr__" = some (some (.builtin "object.__setattr__"))) && (decide (PySem.W.subIn K (.ref C) (.type "BaseException") = some true) && (decide (PySem.W.typeIn K (.ref C) = some (.type "type")) && PySem.W.keepIn K (.ref C))))
theorem oexB_ok {K : PySem.W.Frag} {C : Addr} (h : oexB K C = true) : OexC K C := by
  unfold oexB at h
  rw [Bool.and_eq_true, Bool.and_eq_true, Bool.and_eq_true, Bool.and_eq_true] at h
  obtain ⟨h1, h2, h3, h4, h5⟩ := h
  obtain ⟨nm, q, N, bs, bm, hd, sn, sub, ab, col, dd, k0, k1, k2, k3, k5, e, hf⟩ := clsB_ok h1
  rw [Bool.and_eq_true] at hf
  obtain ⟨f1, f2⟩ := hf
  subst f1
  exact ⟨⟨nm, q, N, bs, bm, sn, sub, ab, col, dd, k0, k1, k2, k3, k5, e, f2⟩, of_decide_eq_true h2, of_decide_eq_true h3, of_decide_eq_true h4, h5⟩
def excP (K : PySem.W.Frag) (D : Addr) : Prop := PySem.W.findIn K (.ref D) "__getattribute__" = some (some (.builtin "BaseException.__getattribute__")) ∧ PySem.W.findIn K (.ref D) "__getattr__" = some none ∧ PySem.W.subIn K (.ref D) (.type "BaseException") = some true ∧ PySem.W.hasDictIn K D = true ∧
  PySem.W.findIn K (.ref D) "__class__" = some (some (.builtin "object.__class__")) ∧ PySem.W.specialIn K (.builtin "object.__class__") "__get__" = some (some (.builtin "getset_descriptor.__get__")) ∧ PySem.W.takesIn K (.builtin "object.__class__") = some true ∧ PySem.W.mroIn K D (.type "object") = some true
instance (K : PySem.W.Frag) (D : Addr) : Decidable (excP K D) := by unfold excP; infer_instance
theorem excP_ok {K : PySem.W.Frag} {D : Addr} (h : excP K D) : ExcC K D := by
  obtain ⟨h1, h2, h3, h4, h5, h6, h7, h8⟩ := h
  exact ⟨h1, h2, h3, h4, h5, h6, h7, h8⟩
def initP (K : PySem.W.Frag) (C : Addr) : Prop := PySem.W.findIn K (.ref C) "__init__" = some (some (.ref (He.ma K C "__init__"))) ∧ PySem.W.typeIn K (.ref (He.ma K C "__init__")) = some (.type "function")
instance (K : PySem.W.Frag) (D : Addr) : Decidable (initP K D) := by unfold initP; infer_instance
def propP (K : PySem.W.Frag) (C : Addr) (f : Str) : Prop := PySem.W.findIn K (.ref C) f = some (some (.ref (He.ma K C f))) ∧ PySem.W.specialIn K (.ref (He.ma K C f)) "__get__" = some (some (.builtin "property.__get__")) ∧ PySem.W.takesIn K (.ref (He.ma K C f)) = some true
instance (K : PySem.W.Frag) (D : Addr) (f : Str) : Decidable (propP K D f) := by unfold propP; infer_instance
def recB (K : PySem.W.Frag) (p : Addr) (T : String) : Bool := match PySem.W.recIn K p T with | some (.ref _ :: _) => true | _ => false
theorem propP_ok {K : PySem.W.Frag} {C : Addr} {f : Str} (h : propP K C f) (r : recB K (He.ma K C f) "property" = true) : PropOf K C f (He.ma K C f) (He5.wf K C "property" f) := by
  obtain ⟨h1, h2, h3⟩ := h
  refine ⟨h1, h2, h3, ?_⟩
  unfold recB at r
  unfold He5.wf
  split at r
  · rename_i a l e
    rw [e]
    exact ⟨_, rfl⟩
  · exact nomatch r
end Rw
namespace Rw
open PySem PySem.Spec PyProof.Rows L2 ClX
/-! ### what the top has written -/
def dOf (x : Str) (st : Stmt) : He5.DefA := ⟨fun K => He.ga K x, x, x, defArgs st, defBody st, defScope st, [], []⟩
def dMInit : He5.DefA := ⟨fun K => He.ma K (He.ga K "Program") "__init__", "__init__", "Program.__init__", defArgs sInit, defBody sInit, defScope sInit, [], []⟩
def dMOf : He5.DefA := ⟨fun K => He5.wf K (He.ga K "Program") "classmethod" "of", "of", "Program.of", defArgs sOf, defBody sOf, defScope sOf, [], []⟩
def dMRules : He5.DefA := ⟨fun K => He5.wf K (He.ga K "Program") "property" "rules", "rules", "Program.rules", defArgs sRules, defBody sRules, defScope sRules, [], []⟩
def dMNames : He5.DefA := ⟨fun K => He5.wf K (He.ga K "Program") "property" "names", "names", "Program.names", defArgs sNames, defBody sNames, defScope sNames, [], []⟩
def dMENotProg : He5.DefA := ⟨fun K => He.ma K (He.ga K "NotAProgram") "__init__", "__init__", "NotAProgram.__init__", defArgs sENotProg, defBody sENotProg, defScope sENotProg, [.non], []⟩
def dMEWorld : He5.DefA := ⟨fun K => He.ma K (He.ga K "InvalidWorld") "__init__", "__init__", "InvalidWorld.__init__", defArgs sEWorld, defBody sEWorld, defScope sEWorld, [.non], []⟩
def hfn : List He5.DefA := [dOf "is_name" sIsName, dOf "_are_names" sAreNames, dOf "_set_of" sSetOf, dOf "is_world" sIsWorld, dOf "is_rule" sIsRule, dOf "has_all" sHasAll, dOf "meet" sMeet, dOf "without" sWithout, dOf "check_program" sCheckProgram, dOf "check_world" sCheckWorld, dOf "splits" sSplits, dOf "layers" sLayers, dOf "_names_in" sNamesIn, dOf "_reached" sReached, dOf "_next_layer" sNext, dOf "_law_at" sLawAt, dOf "_law_mixed" sLawMixed, dOf "_law_purse" sLawPurse, dOf "_law_draw" sLawDraw, dOf "_law_some" sLawSome, dOf "_law_rule" sLawRule, dOf "_law_rules" sLawRules, dOf "_law_names_in" sLawNames, dOf "_law_uses" sLawUses, dOf "_law_led" sLawLed, dOf "_law_layers" sLawLayers, dOf "_law_is_refused" sLawRefused, dOf "law" sLaw, dMInit, dMOf, dMRules, dMNames, dMENotProg, dMEWorld]
def hfa1 : List He.Fa := [.free "len", .free "isinstance", .free "all", .free "any", .free "tuple", .free "list", .free "sorted", .free "set", .free "str", .free "int", .free "max", .free "min", .free "range", .free "enumerate", .free "dict", .free "zip", .str "LETTERS" lettersS, .glo "Program", .glo "NotAProgram", .glo "InvalidWorld", .glo "RuleError", .glo "is_name", .glo "_are_names", .glo "_set_of", .glo "is_world", .glo "is_rule", .glo "has_all", .glo "meet", .glo "without", .glo "check_program"]
def hfa2 : List He.Fa := [.glo "check_world", .glo "splits", .glo "layers", .glo "_names_in", .glo "_reached", .glo "_next_layer", .glo "_law_at", .glo "_law_mixed", .glo "_law_purse", .glo "_law_draw", .glo "_law_some", .glo "_law_rule", .glo "_law_rules", .glo "_law_names_in", .glo "_law_uses", .glo "_law_led", .glo "_law_layers", .glo "_law_is_refused", .glo "law", .cls "Program", .noat "Program" "_rules", .mkr "Program", .noat "NotAProgram" "thing", .noat "InvalidWorld" "thing", .exm "NotAProgram" "RuleError" true, .exm "InvalidWorld" "RuleError" true]
def hfa : List He.Fa := hfa1 ++ hfa2
/-- more of the classes -/
def pgP (K : PySem.W.Frag) (C : Addr) : Prop := PySem.W.kitOne K (.ref C) (.ref C) = some true ∧ PySem.W.kitOne K (.type "NoneType") (.ref C) = some false ∧ PySem.W.kitOne K (.type "bool") (.ref C) = some false ∧ PySem.W.kitOne K (.type "int") (.ref C) = some false ∧ PySem.W.kitOne K (.type "str") (.ref C) = some false ∧
  PySem.W.kitOne K (.type "list") (.ref C) = some false ∧ PySem.W.kitOne K (.type "tuple") (.ref C) = some false ∧ PySem.W.kitOne K (.type "dict") (.ref C) = some false ∧ PySem.W.findIn K (.ref C) "__class__" = some (some (.builtin "object.__class__")) ∧
  PySem.W.specialIn K (.builtin "object.__class__") "__get__" = some (some (.builtin "getset_descriptor.__get__")) ∧ PySem.W.takesIn K (.builtin "object.__class__") = some true ∧ PySem.W.mroIn K C (.type "object") = some true
instance (K : PySem.W.Frag) (C : Addr) : Decidable (pgP K C) := by unfold pgP; infer_instance
def readP (K : PySem.W.Frag) (C : Addr) : Prop := PySem.W.readsIn K C (.type "type") = true ∧ PySem.W.specialIn K (.ref C) "__getattribute__" = some (some (.builtin "type.__getattribute__"))
instance (K : PySem.W.Frag) (C : Addr) : Decidable (readP K C) := by unfold readP; infer_instance
def exL (K : PySem.W.Frag) (C E B : Addr) : List Bool := [decide (pgP K C), decide (PySem.W.kitOne K (.ref E) (.ref E) = some true), decide (readP K C), oexB K E, oexB K B, decide (excP K E), decide (initP K E), decide (initP K B),
  decide (propP K C "rules"), recB K (He.ma K C "rules") "property", decide (propP K C "names"), recB K (He.ma K C "names") "property", He5.wrapB K C "classmethod" "classmethod.__get__" "of", PySem.W.fnIn K (He5.wf K C "classmethod" "of")]
def exB (K : PySem.W.Frag) : Bool := (exL K (He.ga K "Program") (He.ga K "NotAProgram") (He.ga K "InvalidWorld")).all id
theorem exL_at {K : PySem.W.Frag} {C E B : Addr} (h : (exL K C E B).all id = true) (i : Nat) {b : Bool} (e : (exL K C E B)[i]? = some b) : b = true := List.all_eq_true.mp h b (List.mem_of_getElem? e)
theorem pgC_of {K : PySem.W.Frag} {mg : Str → Option Value} {C : Addr} (h : pgP K C) (m : mg "Program" = some (.ref C)) (c : Cls K C) : PgC K mg C := by
  obtain ⟨h1, h2, h3, h4, h5, h6, h7, h8, h9, h10, h11, h12⟩ := h
  exact ⟨h1, h2, h3, h4, h5, h6, h7, h8, m, c, h9, h10, h11, h12⟩
abbrev hR : PySem.W.OpenRow := PySem.W.OpenLaw.row PySem.Challenge.rw_ruleworlds_k33_layers
abbrev hH : PySem.W.Hook := hookY 6 hfa hfn exB
def hob (s : PySem.W.SharedT) : He.AlD × Bool := obY 6 hfa hfn exB (HandSHeadRun.getT s)
theorem hob_eq (s : PySem.W.SharedT) : hob s = hH.obs s.abs := obY_eq (HandSHeadRun.getT_eq s)
def hloose1 : List Str := ["_wall", "RuleError", "InvalidRule", "NotAProgram", "InvalidWorld", "Unreadable", "LETTERS", "NOT", "is_name", "is_world", "is_rule", "Program", "_are_names", "_set_of", "_written_rule", "_with_not", "_read_rule", "_halves", "_without_not", "has_all", "meet", "without", "check_program", "check_world", "splits", "layers", "_names_in", "_reached", "_next_layer", "_law_at"]
def hloose2 : List Str := ["_law_mixed", "_law_purse", "_law_draw", "_law_some", "_law_rule", "_law_rules", "_law_names_in", "_law_uses", "_law_led", "_law_layers", "_law_is_refused"]
def hloose : List Str := hloose1 ++ hloose2
theorem hrun (w : World) : HandSHeadRun.RunEq hR (PySem.W.view hR.prog [46]) hH hob 9000 hloose w := by
  intro os
  kernel_rfl
theorem hfacts {P : Program} {w : World} {K : PySem.W.Frag} {h : Heap} {mg : Str → Option Value} {f : Addr} (X : K.In h) (G : h.Ns mainGlobals mg) (hfa_ : mg ("law" : Str) = some (.ref f)) (c : He5.SaysA hfa hfn K) (ce : exB K = true) :
    ∃ fd : FuncData, (∀ (s : Shared) (v : Value), BindsTo s fd ⟨[v], []⟩ [("script", v)]) ∧ ∀ base : Heap, K.In base → base.Ns mainGlobals mg → FnOk P w K mg base CX0 8 f fd ["script"] (spLaw K) := by
  obtain ⟨fd0, D0⟩ := c.def_ 0 (d := dOf "is_name" sIsName) rfl
  have F0 : Fun K "is_name" "is_name" sIsName _ fd0 := fun_of D0
  have B0 := D0.bindsN (ps := ["thing"]) fun _ _ _ _ _ _ us hl => match us, hl with | [_], _ => rfl
  have M0 : mg "is_name" = _ := He.glo_ok X G (c.fact 21 (f := .glo "is_name") rfl)
  obtain ⟨fd1, D1⟩ := c.def_ 1 (d := dOf "_are_names" sAreNames) rfl
  have F1 : Fun K "_are_names" "_are_names" sAreNames _ fd1 := fun_of D1
  have B1 := D1.bindsN (ps := ["thing"]) fun _ _ _ _ _ _ us hl => match us, hl with | [_], _ => rfl
  have M1 : mg "_are_names" = _ := He.glo_ok X G (c.fact 22 (f := .glo "_are_names") rfl)
  obtain ⟨fd2, D2⟩ := c.def_ 2 (d := dOf "_set_of" sSetOf) rfl
  have F2 : Fun K "_set_of" "_set_of" sSetOf _ fd2 := fun_of D2
  have B2 := D2.bindsN (ps := ["names"]) fun _ _ _ _ _ _ us hl => match us, hl with | [_], _ => rfl
  have M2 : mg "_set_of" = _ := He.glo_ok X G (c.fact 23 (f := .glo "_set_of") rfl)
  obtain ⟨fd3, D3⟩ := c.def_ 3 (d := dOf "is_world" sIsWorld) rfl
  have F3 : Fun K "is_world" "is_world" sIsWorld _ fd3 := fun_of D3
  have B3 := D3.bindsN (ps := ["thing"]) fun _ _ _ _ _ _ us hl => match us, hl with | [_], _ => rfl
  have M3 : mg "is_world" = _ := He.glo_ok X G (c.fact 24 (f := .glo "is_world") rfl)
  obtain ⟨fd4, D4⟩ := c.def_ 4 (d := dOf "is_rule" sIsRule) rfl
  have F4 : Fun K "is_rule" "is_rule" sIsRule _ fd4 := fun_of D4
  have B4 := D4.bindsN (ps := ["thing"]) fun _ _ _ _ _ _ us hl => match us, hl with | [_], _ => rfl
  have M4 : mg "is_rule" = _ := He.glo_ok X G (c.fact 25 (f := .glo "is_rule") rfl)
  obtain ⟨fd5, D5⟩ := c.def_ 5 (d := dOf "has_all" sHasAll) rfl
  have F5 : Fun K "has_all" "has_all" sHasAll _ fd5 := fun_of D5
  have B5 := D5.bindsN (ps := ["names", "wanted"]) fun _ _ _ _ _ _ us hl => match us, hl with | [_, _], _ => rfl
  have M5 : mg "has_all" = _ := He.glo_ok X G (c.fact 26 (f := .glo "has_all") rfl)
  obtain ⟨fd6, D6⟩ := c.def_ 6 (d := dOf "meet" sMeet) rfl
  have F6 : Fun K "meet" "meet" sMeet _ fd6 := fun_of D6
  have B6 := D6.bindsN (ps := ["one", "other"]) fun _ _ _ _ _ _ us hl => match us, hl with | [_, _], _ => rfl
  have M6 : mg "meet" = _ := He.glo_ok X G (c.fact 27 (f := .glo "meet") rfl)
  obtain ⟨fd7, D7⟩ := c.def_ 7 (d := dOf "without" sWithout) rfl
  have F7 : Fun K "without" "without" sWithout _ fd7 := fun_of D7
  have B7 := D7.bindsN (ps := ["names", "left_out"]) fun _ _ _ _ _ _ us hl => match us, hl with | [_, _], _ => rfl
  have M7 : mg "without" = _ := He.glo_ok X G (c.fact 28 (f := .glo "without") rfl)
  obtain ⟨fd8, D8⟩ := c.def_ 8 (d := dOf "check_program" sCheckProgram) rfl
  have F8 : Fun K "check_program" "check_program" sCheckProgram _ fd8 := fun_of D8
  have B8 := D8.bindsN (ps := ["thing"]) fun _ _ _ _ _ _ us hl => match us, hl with | [_], _ => rfl
  have M8 : mg "check_program" = _ := He.glo_ok X G (c.fact 29 (f := .glo "check_program") rfl)
  obtain ⟨fd9, D9⟩ := c.def_ 9 (d := dOf "check_world" sCheckWorld) rfl
  have F9 : Fun K "check_world" "check_world" sCheckWorld _ fd9 := fun_of D9
  have B9 := D9.bindsN (ps := ["thing"]) fun _ _ _ _ _ _ us hl => match us, hl with | [_], _ => rfl
  have M9 : mg "check_world" = _ := He.glo_ok X G (c.fact 30 (f := .glo "check_world") rfl)
  obtain ⟨fd10, D10⟩ := c.def_ 10 (d := dOf "splits" sSplits) rfl
  have F10 : Fun K "splits" "splits" sSplits _ fd10 := fun_of D10
  have B10 := D10.bindsN (ps := ["program", "names"]) fun _ _ _ _ _ _ us hl => match us, hl with | [_, _], _ => rfl
  have M10 : mg "splits" = _ := He.glo_ok X G (c.fact 31 (f := .glo "splits") rfl)
  obtain ⟨fd11, D11⟩ := c.def_ 11 (d := dOf "layers" sLayers) rfl
  have F11 : Fun K "layers" "layers" sLayers _ fd11 := fun_of D11
  have B11 := D11.bindsN (ps := ["program"]) fun _ _ _ _ _ _ us hl => match us, hl with | [_], _ => rfl
  have M11 : mg "layers" = _ := He.glo_ok X G (c.fact 32 (f := .glo "layers") rfl)
  obtain ⟨fd12, D12⟩ := c.def_ 12 (d := dOf "_names_in" sNamesIn) rfl
  have F12 : Fun K "_names_in" "_names_in" sNamesIn _ fd12 := fun_of D12
  have B12 := D12.bindsN (ps := ["row"]) fun _ _ _ _ _ _ us hl => match us, hl with | [_], _ => rfl
  have M12 : mg "_names_in" = _ := He.glo_ok X G (c.fact 33 (f := .glo "_names_in") rfl)
  obtain ⟨fd13, D13⟩ := c.def_ 13 (d := dOf "_reached" sReached) rfl
  have F13 : Fun K "_reached" "_reached" sReached _ fd13 := fun_of D13
  have B13 := D13.bindsN (ps := ["program"]) fun _ _ _ _ _ _ us hl => match us, hl with | [_], _ => rfl
  have M13 : mg "_reached" = _ := He.glo_ok X G (c.fact 34 (f := .glo "_reached") rfl)
  obtain ⟨fd14, D14⟩ := c.def_ 14 (d := dOf "_next_layer" sNext) rfl
  have F14 : Fun K "_next_layer" "_next_layer" sNext _ fd14 := fun_of D14
  have B14 := D14.bindsN (ps := ["reached", "left"]) fun _ _ _ _ _ _ us hl => match us, hl with | [_, _], _ => rfl
  have M14 : mg "_next_layer" = _ := He.glo_ok X G (c.fact 35 (f := .glo "_next_layer") rfl)
  obtain ⟨fd15, D15⟩ := c.def_ 15 (d := dOf "_law_at" sLawAt) rfl
  have F15 : Fun K "_law_at" "_law_at" sLawAt _ fd15 := fun_of D15
  have B15 := D15.bindsN (ps := ["script", "k"]) fun _ _ _ _ _ _ us hl => match us, hl with | [_, _], _ => rfl
  have M15 : mg "_law_at" = _ := He.glo_ok X G (c.fact 36 (f := .glo "_law_at") rfl)
  obtain ⟨fd16, D16⟩ := c.def_ 16 (d := dOf "_law_mixed" sLawMixed) rfl
  have F16 : Fun K "_law_mixed" "_law_mixed" sLawMixed _ fd16 := fun_of D16
  have B16 := D16.bindsN (ps := ["cell", "k"]) fun _ _ _ _ _ _ us hl => match us, hl with | [_, _], _ => rfl
  have M16 : mg "_law_mixed" = _ := He.glo_ok X G (c.fact 37 (f := .glo "_law_mixed") rfl)
  obtain ⟨fd17, D17⟩ := c.def_ 17 (d := dOf "_law_purse" sLawPurse) rfl
  have F17 : Fun K "_law_purse" "_law_purse" sLawPurse _ fd17 := fun_of D17
  have B17 := D17.bindsN (ps := ["script", "at"]) fun _ _ _ _ _ _ us hl => match us, hl with | [_, _], _ => rfl
  have M17 : mg "_law_purse" = _ := He.glo_ok X G (c.fact 38 (f := .glo "_law_purse") rfl)
  obtain ⟨fd18, D18⟩ := c.def_ 18 (d := dOf "_law_draw" sLawDraw) rfl
  have F18 : Fun K "_law_draw" "_law_draw" sLawDraw _ fd18 := fun_of D18
  have B18 := D18.bindsN (ps := ["purse", "out_of"]) fun _ _ _ _ _ _ us hl => match us, hl with | [_, _], _ => rfl
  have M18 : mg "_law_draw" = _ := He.glo_ok X G (c.fact 39 (f := .glo "_law_draw") rfl)
  obtain ⟨fd19, D19⟩ := c.def_ 19 (d := dOf "_law_some" sLawSome) rfl
  have F19 : Fun K "_law_some" "_law_some" sLawSome _ fd19 := fun_of D19
  have B19 := D19.bindsN (ps := ["purse", "names", "most"]) fun _ _ _ _ _ _ us hl => match us, hl with | [_, _, _], _ => rfl
  have M19 : mg "_law_some" = _ := He.glo_ok X G (c.fact 40 (f := .glo "_law_some") rfl)
  obtain ⟨fd20, D20⟩ := c.def_ 20 (d := dOf "_law_rule" sLawRule) rfl
  have F20 : Fun K "_law_rule" "_law_rule" sLawRule _ fd20 := fun_of D20
  have B20 := D20.bindsN (ps := ["purse", "names", "sort"]) fun _ _ _ _ _ _ us hl => match us, hl with | [_, _, _], _ => rfl
  have M20 : mg "_law_rule" = _ := He.glo_ok X G (c.fact 41 (f := .glo "_law_rule") rfl)
  obtain ⟨fd21, D21⟩ := c.def_ 21 (d := dOf "_law_rules" sLawRules) rfl
  have F21 : Fun K "_law_rules" "_law_rules" sLawRules _ fd21 := fun_of D21
  have B21 := D21.bindsN (ps := ["purse", "names", "sort", "most"]) fun _ _ _ _ _ _ us hl => match us, hl with | [_, _, _, _], _ => rfl
  have M21 : mg "_law_rules" = _ := He.glo_ok X G (c.fact 42 (f := .glo "_law_rules") rfl)
  obtain ⟨fd22, D22⟩ := c.def_ 22 (d := dOf "_law_names_in" sLawNames) rfl
  have F22 : Fun K "_law_names_in" "_law_names_in" sLawNames _ fd22 := fun_of D22
  have B22 := D22.bindsN (ps := ["rules"]) fun _ _ _ _ _ _ us hl => match us, hl with | [_], _ => rfl
  have M22 : mg "_law_names_in" = _ := He.glo_ok X G (c.fact 43 (f := .glo "_law_names_in") rfl)
  obtain ⟨fd23, D23⟩ := c.def_ 23 (d := dOf "_law_uses" sLawUses) rfl
  have F23 : Fun K "_law_uses" "_law_uses" sLawUses _ fd23 := fun_of D23
  have B23 := D23.bindsN (ps := ["rules", "name"]) fun _ _ _ _ _ _ us hl => match us, hl with | [_, _], _ => rfl
  have M23 : mg "_law_uses" = _ := He.glo_ok X G (c.fact 44 (f := .glo "_law_uses") rfl)
  obtain ⟨fd24, D24⟩ := c.def_ 24 (d := dOf "_law_led" sLawLed) rfl
  have F24 : Fun K "_law_led" "_law_led" sLawLed _ fd24 := fun_of D24
  have B24 := D24.bindsN (ps := ["rules", "name"]) fun _ _ _ _ _ _ us hl => match us, hl with | [_, _], _ => rfl
  have M24 : mg "_law_led" = _ := He.glo_ok X G (c.fact 45 (f := .glo "_law_led") rfl)
  obtain ⟨fd25, D25⟩ := c.def_ 25 (d := dOf "_law_layers" sLawLayers) rfl
  have F25 : Fun K "_law_layers" "_law_layers" sLawLayers _ fd25 := fun_of D25
  have B25 := D25.bindsN (ps := ["rules"]) fun _ _ _ _ _ _ us hl => match us, hl with | [_], _ => rfl
  have M25 : mg "_law_layers" = _ := He.glo_ok X G (c.fact 46 (f := .glo "_law_layers") rfl)
  obtain ⟨fd26, D26⟩ := c.def_ 26 (d := dOf "_law_is_refused" sLawRefused) rfl
  have F26 : Fun K "_law_is_refused" "_law_is_refused" sLawRefused _ fd26 := fun_of D26
  have B26 := D26.bindsN (ps := ["thing"]) fun _ _ _ _ _ _ us hl => match us, hl with | [_], _ => rfl
  have M26 : mg "_law_is_refused" = _ := He.glo_ok X G (c.fact 47 (f := .glo "_law_is_refused") rfl)
  obtain ⟨fd27, D27⟩ := c.def_ 27 (d := dOf "law" sLaw) rfl
  have F27 : Fun K "law" "law" sLaw _ fd27 := fun_of D27
  have B27 := D27.bindsN (ps := ["script"]) fun _ _ _ _ _ _ us hl => match us, hl with | [_], _ => rfl
  have M27 : mg "law" = _ := He.glo_ok X G (c.fact 48 (f := .glo "law") rfl)
  obtain ⟨fdInit, DInit⟩ := c.def_ 28 (d := dMInit) rfl
  have FInit : Fun K "__init__" "Program.__init__" sInit _ fdInit := fun_of DInit
  obtain ⟨fdOf, DOf⟩ := c.def_ 29 (d := dMOf) rfl
  have FOf : Fun K "of" "Program.of" sOf _ fdOf := fun_of DOf
  have BOf := DOf.bindsN (ps := ["cls", "rules"]) fun _ _ _ _ _ _ us hl => match us, hl with | [_, _], _ => rfl
  obtain ⟨fdRules, DRules⟩ := c.def_ 30 (d := dMRules) rfl
  have FRules : Fun K "rules" "Program.rules" sRules _ fdRules := fun_of DRules
  have BRules := DRules.bindsN (ps := ["self"]) fun _ _ _ _ _ _ us hl => match us, hl with | [_], _ => rfl
  obtain ⟨fdNames, DNames⟩ := c.def_ 31 (d := dMNames) rfl
  have FNames : Fun K "names" "Program.names" sNames _ fdNames := fun_of DNames
  have BNames := DNames.bindsN (ps := ["self"]) fun _ _ _ _ _ _ us hl => match us, hl with | [_], _ => rfl
  obtain ⟨fdENotProg, DENotProg⟩ := c.def_ 32 (d := dMENotProg) rfl
  have EENotProg : FunD K "__init__" "NotAProgram.__init__" (defArgs sENotProg) (defBody sENotProg) (defScope sENotProg) [.non] [] _ fdENotProg := DENotProg
  obtain ⟨dsENotProg, vENotProg, BENotProg⟩ := EENotProg.binds1 (ps := ["self", "thing"]) 2 1 (by simp) rfl fun T kV doc pm an cdv ct us its h1 h2 => match us, its, h1, h2 with | [_, _], [_], _, _ => ⟨_, rfl, rfl⟩
  cases vENotProg
  obtain ⟨fdEWorld, DEWorld⟩ := c.def_ 33 (d := dMEWorld) rfl
  have EEWorld : FunD K "__init__" "InvalidWorld.__init__" (defArgs sEWorld) (defBody sEWorld) (defScope sEWorld) [.non] [] _ fdEWorld := DEWorld
  obtain ⟨dsEWorld, vEWorld, BEWorld⟩ := EEWorld.binds1 (ps := ["self", "thing"]) 2 1 (by simp) rfl fun T kV doc pm an cdv ct us its h1 h2 => match us, its, h1, h2 with | [_, _], [_], _, _ => ⟨_, rfl, rfl⟩
  cases vEWorld
  have mProgram : mg "Program" = _ := He.glo_ok X G (c.fact 17 (f := .glo "Program") rfl)
  have mNotAProgram : mg "NotAProgram" = _ := He.glo_ok X G (c.fact 18 (f := .glo "NotAProgram") rfl)
  have mInvalidWorld : mg "InvalidWorld" = _ := He.glo_ok X G (c.fact 19 (f := .glo "InvalidWorld") rfl)
  have mRuleError : mg "RuleError" = _ := He.glo_ok X G (c.fact 20 (f := .glo "RuleError") rfl)
  have T : Bl mg := ⟨He.free_ok X G (c.fact 0 (f := .free "len") rfl), He.free_ok X G (c.fact 1 (f := .free "isinstance") rfl), He.free_ok X G (c.fact 2 (f := .free "all") rfl), He.free_ok X G (c.fact 3 (f := .free "any") rfl), He.free_ok X G (c.fact 4 (f := .free "tuple") rfl), He.free_ok X G (c.fact 5 (f := .free "list") rfl), He.free_ok X G (c.fact 6 (f := .free "sorted") rfl), He.free_ok X G (c.fact 7 (f := .free "set") rfl), He.free_ok X G (c.fact 8 (f := .free "str") rfl), He.free_ok X G (c.fact 9 (f := .free "int") rfl), He.free_ok X G (c.fact 10 (f := .free "max") rfl), He.free_ok X G (c.fact 11 (f := .free "min") rfl), He.free_ok X G (c.fact 12 (f := .free "range") rfl), He.free_ok X G (c.fact 13 (f := .free "enumerate") rfl)⟩
  have mL := He.str_ok X G (c.fact 16 (f := .str "LETTERS" lettersS) rfl)
  have cP := He.cls_ok (c.fact 49 (f := .cls "Program") rfl)
  have nR := He.noat_ok (c.fact 50 (f := .noat "Program" "_rules") rfl)
  have MK := He.mkr_ok (c.fact 51 (f := .mkr "Program") rfl)
  have Td := He.free_ok X G (c.fact 14 (f := .free "dict") rfl)
  have Tz := He.free_ok X G (c.fact 15 (f := .free "zip") rfl)
  have noNotAProgram := He.noat_ok (c.fact 52 (f := .noat "NotAProgram" "thing") rfl)
  have exNotAProgram := He.exm_ok (c.fact 54 (f := .exm "NotAProgram" "RuleError" true) rfl)
  have noInvalidWorld := He.noat_ok (c.fact 53 (f := .noat "InvalidWorld" "thing") rfl)
  have exInvalidWorld := He.exm_ok (c.fact 55 (f := .exm "InvalidWorld" "RuleError" true) rfl)
  have ce' : (exL K (He.ga K "Program") (He.ga K "NotAProgram") (He.ga K "InvalidWorld")).all id = true := ce
  have PG := pgC_of (of_decide_eq_true (exL_at ce' 0 rfl)) mProgram cP
  have kt1 := of_decide_eq_true (exL_at ce' 1 rfl)
  obtain ⟨rd1, rd2⟩ := of_decide_eq_true (exL_at ce' 2 rfl)
  have CR : CRead K (He.ga K "Program") (.type "type") := ⟨rd1, rd2⟩
  have oE := oexB_ok (exL_at ce' 3 rfl)
  have oW := oexB_ok (exL_at ce' 4 rfl)
  have eE := excP_ok (of_decide_eq_true (exL_at ce' 5 rfl))
  obtain ⟨iE1, iE2⟩ := of_decide_eq_true (exL_at ce' 6 rfl)
  obtain ⟨iW1, iW2⟩ := of_decide_eq_true (exL_at ce' 7 rfl)
  have PR := propP_ok (of_decide_eq_true (exL_at ce' 8 rfl)) (exL_at ce' 9 rfl)
  have PN := propP_ok (of_decide_eq_true (exL_at ce' 10 rfl)) (exL_at ce' 11 rfl)
  have CM := He5.cmet_of (exL_at ce' 12 rfl) (exL_at ce' 13 rfl)
  have EK : ErrK K mg (He.ga K "NotAProgram") (He.ga K "RuleError") := ⟨mNotAProgram, mRuleError, exNotAProgram, eE, noNotAProgram, kt1⟩
  have e := hfa_.symm.trans M27
  cases e
  refine ⟨fd27, fun s v => ?_, fun base _ _ => ?_⟩
  · exact FunD.bindsA (ps := ["script"]) D27 (fun _ _ _ _ _ _ us hl => match us, hl with | [_], _ => rfl) s [v] rfl
  have gIsName : ∀ k, FnOk P w K mg base CX0 (k + 1) _ fd0 ["thing"] (spIsName K) := fun k => ok_isName (k := k) F0 T mL
  have gAre : ∀ k, FnOk P w K mg base CX0 (k + 2) _ fd1 ["thing"] (spAreNames K) := fun k => ok_areNames (k := k + 1) F1 T (gIsName k) B0 F0.kp M0
  have gSet : ∀ k, FnOk P w K mg base CX0 (k + 1) _ fd2 ["names"] (spSetOf K) := fun k => ok_setOf (k := k) F2 T
  have gIsW : ∀ k, FnOk P w K mg base CX0 (k + 3) _ fd3 ["thing"] (spIsWorld K) := fun k => ok_isWorld (k := k + 2) F3 T (gAre k) B1 F1.kp M1 (gSet (k + 1)) B2 F2.kp M2
  have gIsR : ∀ k, FnOk P w K mg base CX0 (k + 4) _ fd4 ["thing"] (spIsRule K) := fun k => ok_isRule (k := k + 3) F4 T (gIsW k) B3 F3.kp M3
  have gHas : ∀ k, FnOk P w K mg base CX0 (k + 1) _ fd5 ["names", "wanted"] (spHasAll K) := fun k => ok_hasAll (k := k) F5 T
  have gMeet : ∀ k, FnOk P w K mg base CX0 (k + 1) _ fd6 ["one", "other"] (spMeet K) := fun k => ok_meet (k := k) F6 T
  have gInit : ∀ k, FnR P w K mg base CX0 (k + 5) _ (spInit K (He.ga K "Program")) := fun k => by
    obtain ⟨oc, od, kV, doc, pm, an, cdv, ct, osl, e, lk, hcd⟩ := FInit.ex
    subst e
    exact ok_init (k := k + 4) lk hcd T cP nR (gIsR k) B4 F4.kp M4
  have gOf : ∀ k, FnR P w K mg base CX0 (k + 7) _ (spOf K (He.ga K "Program")) := fun k => fnr_of (ok_of (k := k + 5) FOf MK (gInit k)) BOf
  have gRules : ∀ k, FnOk P w K mg base CX0 (k + 1) _ fdRules ["self"] (spRules K (He.ga K "Program")) := fun k => ok_rules (k := k) FRules cP nR
  have gNames : ∀ k, FnOk P w K mg base CX0 (k + 1) _ fdNames ["self"] (spNames K (He.ga K "Program")) := fun k => ok_names (k := k) FNames T cP nR
  have xE : ∀ k, ErrT P w K mg base (k + 1) "NotAProgram" "thing" (He.ga K "NotAProgram") := fun k => ⟨oE, ⟨_, _, iE1, iE2, ok_eNotProg (k := k) EENotProg oE noNotAProgram, BENotProg⟩, mNotAProgram⟩
  have xW : ∀ k, ErrT P w K mg base (k + 1) "InvalidWorld" "thing" (He.ga K "InvalidWorld") := fun k => ⟨oW, ⟨_, _, iW1, iW2, ok_eWorld (k := k) EEWorld oW noInvalidWorld, BEWorld⟩, mInvalidWorld⟩
  have gWout : ∀ k, FnOk P w K mg base CX0 (k + 1) _ fd7 ["names", "left_out"] (spWithout K) := fun k => ok_without (k := k) F7 T
  have gNin : ∀ k, FnOk P w K mg base CX0 (k + 1) _ fd12 ["row"] (spNamesIn K) := fun k => ok_namesIn (k := k) F12
  have gRea : ∀ k, FnOk P w K mg base CX0 (k + 3) _ fd13 ["program"] (spReached K (He.ga K "Program")) := fun k => ok_reached (k := k + 1) F13 T cP PN PR (gNin (k + 1)) B12 F12.kp M12 (gNames k) BNames (gRules k) BRules
  have gNext : ∀ k, FnOk P w K mg base CX0 (k + 1) _ fd14 ["reached", "left"] (spNext K) := fun k => ok_next (k := k) F14 T
  have gCP : ∀ k, FnOk P w K mg base (L2.CX P w) (k + 3) _ fd8 ["thing"] (spCheckProgram K (He.ga K "Program") (He.ga K "NotAProgram")) := fun k => ok_checkProgram (k := k + 1) F8 T PG (xE k)
  have gCW : ∀ k, FnOk P w K mg base (L2.CX P w) (k + 4) _ fd9 ["thing"] (spCheckWorld K (He.ga K "InvalidWorld")) := fun k => ok_checkWorld (k := k + 2) F9 (gIsW k) B3 F3.kp M3 (xW (k + 1))
  have gSpl : ∀ k, FnOk P w K mg base (L2.CX P w) (k + 5) _ fd10 ["program", "names"] (spSplits K (He.ga K "Program") (He.ga K "NotAProgram") (He.ga K "InvalidWorld")) := fun k => ok_splits (k := k + 3) F10 cP PR (gCP (k + 1)) B8 F8.kp M8 (gCW k) B9 F9.kp M9 (gRules (k + 2)) BRules (gMeet (k + 3)) B6 F6.kp M6 (gHas (k + 3)) B5 F5.kp M5 (gNin (k + 3)) B12 F12.kp M12
  have gLay : ∀ k, FnOk P w K mg base (L2.CX P w) (k + 4) _ fd11 ["program"] (spLayers K (He.ga K "Program") (He.ga K "NotAProgram")) := fun k => ok_layers (k := k + 2) F11 cP PN (gCP k) B8 F8.kp M8 (gRea k) B13 F13.kp M13 (gNames (k + 1)) BNames (gNext (k + 2)) B14 F14.kp M14 (gWout (k + 2)) B7 F7.kp M7
  have gAt : ∀ k, FnOk P w K mg base CX0 (k + 1) _ fd15 ["script", "k"] (spLawAt K) := fun k => ok_lawAt (k := k) F15 T
  have gMix : ∀ k, FnOk P w K mg base CX0 (k + 1) _ fd16 ["cell", "k"] (spLawMixed) := fun k => ok_lawMixed (k := k) F16 T
  have gPur : ∀ k, FnOk P w K mg base CX0 (k + 2) _ fd17 ["script", "at"] (spLawPurse K) := fun k => ok_lawPurse (k := k + 1) F17 T (gAt k) B15 F15.kp M15
  have gDraw : ∀ k, FnOk P w K mg base CX0 (k + 2) _ fd18 ["purse", "out_of"] (spLawDraw) := fun k => ok_lawDraw (k := k + 1) F18 T (gMix k) B16 F16.kp M16
  have gSome : ∀ k, FnOk P w K mg base CX0 (k + 3) _ fd19 ["purse", "names", "most"] (spLawSome K) := fun k => ok_lawSome (k := k + 2) F19 T (gDraw k) B18 F18.kp M18
  have gRule : ∀ k, FnOk P w K mg base CX0 (k + 4) _ fd20 ["purse", "names", "sort"] (spLawRule K) := fun k => ok_lawRule (k := k + 3) F20 T (gDraw (k + 1)) B18 F18.kp M18 (gSome k) B19 F19.kp M19
  have gLRules : ∀ k, FnOk P w K mg base CX0 (k + 5) _ fd21 ["purse", "names", "sort", "most"] (spLawRules K) := fun k => ok_lawRules (k := k + 4) F21 T (gDraw (k + 2)) B18 F18.kp M18 (gRule k) B20 F20.kp M20
  have gLNam : ∀ k, FnOk P w K mg base CX0 (k + 1) _ fd22 ["rules"] (spLawNames K) := fun k => ok_lawNames (k := k) F22 T
  have gUses : ∀ k, FnOk P w K mg base CX0 (k + 1) _ fd23 ["rules", "name"] (spLawUses K) := fun k => ok_lawUses (k := k) F23 T
  have gLed : ∀ k, FnOk P w K mg base CX0 (k + 2) _ fd24 ["rules", "name"] (spLawLed K) := fun k => ok_lawLed (k := k + 1) F24 T (gUses k) B23 F23.kp M23
  have gLLay : ∀ k, FnOk P w K mg base CX0 (k + 3) _ fd25 ["rules"] (spLawLayers K) := fun k => ok_lawLayers (k := k + 2) F25 T Td (gLNam (k + 1)) B22 F22.kp M22 (gLed k) B24 F24.kp M24
  have gRef : ∀ k, FnOk P w K mg base CX0 (k + 5) _ fd26 ["thing"] (spLawRefused K) := fun k => ok_lawRefused (k := k + 4) F26 T EK (gLay k) B11 F11.kp M11
  have kb7 := kbn_fun (ps := ["program"]) F11 0 ["program"] kwOnly kwOnly (fun _ _ _ _ _ _ us ws h1 h2 => match us, ws, h1, h2 with | [], [_], _, _ => rfl) fun _ b => b
  exact ok_law (k := 6) F27 T Tz mProgram CR CM (gOf 0) MK (gInit 1) (gPur 5) B17 F17.kp M17 (gDraw 5) B18 F18.kp M18 (gLRules 2) B21 F21.kp M21 (gLLay 4) B25 F25.kp M25 (gSpl 2) B10 F10.kp M10 (gRef 2) B26 F26.kp M26 (gLay 3) B11 kb7 F11.kp M11
end Rw
open PySem PySem.W PySem.Calls PyProof.Rows
theorem PySem.Challenge.cw_ruleworlds_k33_layers_holds : PySem.Challenge.rw_ruleworlds_k33_layers.Holds := by
  w_on; o_law
  refine HandSHeadRun.head_any (r := OpenLaw.row PySem.Challenge.rw_ruleworlds_k33_layers) (q := view (OpenLaw.row PySem.Challenge.rw_ruleworlds_k33_layers).prog [46]) (H := Rw.hH) (ob := Rw.hob) (M := 9000) (loose := Rw.hloose) (d := HandSHeadRun.topDef (OpenLaw.row PySem.Challenge.rw_ruleworlds_k33_layers).prog 46) (kwd := []) Rw.hob_eq
    (by kernel_rfl) (fun s => by kernel_rfl) Rw.hrun (by kernel_rfl) (by kernel_rfl) (by kernel_rfl) (by rfl) (by first | assumption | decide +kernel) (by decide +kernel) ⟨rfl, rfl, rfl, rfl, rfl, by decide +kernel⟩ ?hw ?hc
  case hw => w_witness2
  case hc =>
    refine L2.walk_ofE (l := PySem.Challenge.rw_ruleworlds_k33_layers) (n := 63) (k := 8) (x := "script") (CX := L2.CX0) rfl (by decide) (by kernel_rfl) ⟨rfl, by decide, by decide⟩ ?F (fun _ _ _ _ z => z)
    intro w mg fa h Y G hmg0
    obtain ⟨K, KX, c, ce⟩ := Y
    have hmg : mg ("law" : PySem.Str) = some (.ref fa) := by
      have e : (HandSHeadRun.topDef (OpenLaw.row PySem.Challenge.rw_ruleworlds_k33_layers).prog 46).name = ("law" : PySem.Str) := by kernel_rfl
      rw [← e]
      exact hmg0
    obtain ⟨fd, hb, hF⟩ := Rw.hfacts (P := (PySem.Challenge.rw_ruleworlds_k33_layers).prog) (w := w) KX G hmg c ce
    exact ⟨K, fd, Rw.spLaw K, KX, hb, fun H a ns hl _ hS => ⟨a, ns, rfl, hS, hl, fun _ => rfl⟩, hF⟩
