import PyProof.Rows.All
import Wide.All
import OpenK.AllK
import Wide.FinOn
import HandS.TupSets
import KE.KeyNested
import KE.KDictKeyed
import KE.SortData
import HandS.SetTxt0
import KE.DataCmp
import HandS.ForMost
import HandS.DictComp
import KE.GoesComp
import KE.GoesMore
import HandS.IsInst
import HandS.Defaults
import HandS.TupAny
import HandS.Deep
import HandS.Style
import HandS.Star
import HandS.ClsMeth
import HandS.Property
import HandS.CallLocal
import HandS.Exc
import HandS.ExcInit
import HandS.ExcValue
import HandS.ExcIs
import HandS.ExcField
import HandS.SetBool
import PySem.Challenge.RW_ruleworlds_k30_founded_values
import HandS.WordsExc
import HandS.Dict
import HandS.WideBits
import KE.IntBitsLaws
import HandS.ExcOwn
import HandS.Walk
import HandS.Iter
import HandS.Conv
import PyProof.Rows.StrMeet
import HandS.SlotsOwn
import KE.KStateDown
import HandS.Head0
import HandS.Head1
import HandS.Head2
import HandS.HeadEnd
import HandS.HeadHook1
import HandS.HeadHook2
import HandS.HeadHook3
import HandS.HeadHook4
import HandS.HeadNt
set_option Elab.async false
set_option linter.all false
set_option maxRecDepth 100000
set_option maxHeartbeats 0
/-! Sets whose members are texts, or tuples of texts and of such tuples: made of a list or a tuple, and gathered again. -/
namespace Rw
open PySem PySem.Spec PyProof.Rows L2
abbrev NK := NestedKey
section
variable {P : Program} {w : World}
/-! no class statement stands in a key -/
mutual
theorem noCls : ∀ (k : NK) (v : Value) (n : Nat) (A : Around) (E : Value → Shared → Prop) (s : Shared) (Q : Bool → Shared → Prop), NestedIs s.heap k v → k.depth ≤ n → Q false s → wpAny (model P w) A (ofAClassStatement n v) Q E s
  | .none, _, n, A, E, s, Q, x, _, h => by
    cases x
    cases n <;> exact wpAny_pure h
  | .num i, _, n, A, E, s, Q, x, _, h => by
    cases x <;> cases n <;> exact wpAny_pure h
  | .text y, _, n, A, E, s, Q, x, _, h => by
    cases x
    cases n <;> exact wpAny_pure h
  | .tup ks, _, n, A, E, s, Q, x, hn, h => by
    cases x with
    | @tup a o vs m _ hg hc hd hk =>
      simp only [NestedKey.depth] at hn
      cases n with
      | zero => omega
      | succ n =>
        have hT : s.TypeIs (.ref a) "tuple" := ⟨o, hg, hc⟩
        unfold ofAClassStatement
        refine wpAny_bind (wpAny_typeOf hT ?_)
        dsimp only
        have e : (("tuple" : String) == "tuple") = true := by decide
        simp only [e, if_true, Bool.not_true, Bool.false_eq_true, if_false]
        try refine wpAny_bind (wpAny_pure ?_)
        try simp only [Bool.not_true, Bool.false_eq_true, if_false]
        show wpAny _ _ (seqItems? (.ref a) >>= _) _ _ s
        refine wpAny_bind (wpAny_seqItems hg hd ?_)
        dsimp only
        refine wpAny_bind ?_
        show wpAny _ _ (forIn vs _ _) _ _ s
        rw [← Array.forIn_toList]
        refine noClsAll ks vs.toList n A E s _ hk (by omega) ?_
        exact wpAny_pure h
theorem noClsAll : ∀ (ks : List NK) (vs : List Value) (n : Nat) (A : Around) (E : Value → Shared → Prop) (s : Shared) (Q : Option Bool × Unit → Shared → Prop), NestedAll s.heap ks vs → NestedKey.depthAll ks ≤ n → Q (none, ()) s →
    wpAny (model P w) A (forIn vs ((none, ()) : Option Bool × Unit) fun y r => do if ← ofAClassStatement n y then pure (ForInStep.done (some true, ())) else pure (ForInStep.yield (none, ()))) Q E s
  | [], _, n, A, E, s, Q, x, _, h => by
    cases x
    exact wpAny_pure h
  | k :: ks, _, n, A, E, s, Q, x, hn, h => by
    cases x with
    | cons x1 x2 =>
      simp only [NestedKey.depthAll] at hn
      rw [List.forIn_cons]
      refine wpAny_bind (wpAny_bind (noCls k _ n A E s _ x1 (by omega) ?_))
      simp only [Bool.false_eq_true, if_false]
      refine wpAny_pure ?_
      exact noClsAll ks _ n A E s Q x2 (by omega) h
end
/-! whether a key is hashed by its value: either answer -/
mutual
theorem byVal : ∀ (k : NK) (v : Value) (n : Nat) (A : Around) (E : Value → Shared → Prop) (s : Shared) (Q : Bool → Shared → Prop), NestedIs s.heap k v → (∀ b, Q b s) → wpAny (model P w) A (hashByValue n v) Q E s
  | .none, _, n, A, E, s, Q, x, h => by
    cases x
    cases n <;> exact wpAny_pure (h _)
  | .num i, _, n, A, E, s, Q, x, h => by
    cases x <;> cases n <;> exact wpAny_pure (h _)
  | .text y, _, n, A, E, s, Q, x, h => by
    cases x
    cases n <;> exact wpAny_pure (h _)
  | .tup ks, _, n, A, E, s, Q, x, h => by
    cases x with
    | @tup a o vs m _ hg hc hd hk =>
      cases n with
      | zero => exact wpAny_pure (h _)
      | succ n =>
        have hT : s.TypeIs (.ref a) "tuple" := ⟨o, hg, hc⟩
        unfold hashByValue
        refine wpAny_bind (wpAny_specialOf hT F.slot_tuple_hash.lookup ?_)
        show wpAny _ _ (seqItems? (.ref a) >>= _) _ _ s
        refine wpAny_bind (wpAny_seqItems hg hd ?_)
        refine wpAny_bind ?_
        show wpAny _ _ (forIn vs _ _) _ _ s
        rw [← Array.forIn_toList]
        refine byValAll ks vs.toList n A E s _ hk ?_ ?_
        · exact wpAny_pure (h _)
        · exact wpAny_pure (h _)
theorem byValAll : ∀ (ks : List NK) (vs : List Value) (n : Nat) (A : Around) (E : Value → Shared → Prop) (s : Shared) (Q : Option Bool × Unit → Shared → Prop), NestedAll s.heap ks vs → Q (none, ()) s → Q (some false, ()) s →
    wpAny (model P w) A (forIn vs ((none, ()) : Option Bool × Unit) fun y r => do if !(← hashByValue n y) then pure (ForInStep.done (some false, ())) else pure (ForInStep.yield (none, ()))) Q E s
  | [], _, n, A, E, s, Q, x, h, _ => by
    cases x
    exact wpAny_pure h
  | k :: ks, _, n, A, E, s, Q, x, h, h2 => by
    cases x with
    | cons x1 x2 =>
      rw [List.forIn_cons]
      refine wpAny_bind (wpAny_bind (byVal k _ n A E s _ x1 fun b => ?_))
      cases b with
      | true =>
        simp only [Bool.not_true, Bool.false_eq_true, if_false]
        refine wpAny_pure ?_
        exact byValAll ks _ n A E s Q x2 h h2
      | false =>
        simp only [Bool.not_false, if_true]
        exact wpAny_pure (wpAny_pure h2)
end
end
/-! ### sets of tuples -/
/-- a tuple that is a key, not too deep -/
def TupK (h : Heap) (k : NK) (a : Addr) : Prop := NestedIs h k (.ref a) ∧ k.depth ≤ 8
theorem TupK.one {h : Heap} {k k' : NK} {a : Addr} (x : TupK h k a) (y : TupK h k' a) : k = k' := NestedIs.inj _ _ _ x.1 y.1
theorem TupK.kept {h h' : Heap} {k : NK} {a : Addr} (x : TupK h k a) (u : ∀ b o, h.get? b = some o → h'.get? b = some o) : TupK h' k a :=
  ⟨NestedIs.at (fun b o _ _ e _ => u b o e) _ _ x.1, x.2⟩
/-- all but a set stays -/
theorem TupK.butSet {h h' : Heap} {k : NK} {a b : Addr} {o : Obj} {es : Array (Int × Value)} {ep : Nat} {t : SetTable} (x : TupK h k b) (ho : h.get? a = some o) (hd : o.data = .set es ep t) (sb : Heap.SameBut a h h') : TupK h' k b := by
  refine ⟨NestedIs.at (fun c u vs n e es' => (sb.2 c ?_).trans e) _ _ x.1, x.2⟩
  intro z
  subst z
  have q : u = o := Option.some.inj (e.symm.trans ho)
  rw [q, hd] at es'
  exact nomatch es'
/-- the entries of a table -/
def ents (w : World) (L : List (Addr × NK)) : List (Int × Value) := L.map fun p => (p.2.hash w, Value.ref p.1)
def hashes (w : World) (L : List (Addr × NK)) : List Int := L.map fun p => p.2.hash w
theorem ents_len (w : World) (L : List (Addr × NK)) : (ents w L).length = L.length := List.length_map _
theorem hashes_len (w : World) (L : List (Addr × NK)) : (hashes w L).length = L.length := List.length_map _
structure TSet (P : Program) (w : World) (h : Heap) (a : Addr) (L : List (Addr × NK)) (es : Array (Int × Value)) (ep : Nat) (t : SetTable) : Prop where
  ob : ∃ o, h.get? a = some o ∧ o.ExactSet ∧ o.data = .set es ep t
  en : es.toList = ents w L
  tab : TabOk t (hashes w L)
  nd : (L.map (·.2)).Nodup
  ks : ∀ p ∈ L, TupK h p.2 p.1
  led : w.params.followText "set-order" = true ∨ t.led = true
  room : L.length * 5 < t.mask * 3
  few : L.length < 64
section
variable {P : Program} {w : World} {A : Around} {E : Value → Shared → Prop} {s : Shared} {a : Addr} {L : List (Addr × NK)} {es : Array (Int × Value)} {ep : Nat} {t : SetTable}
theorem size_of_ents (h : es.toList = ents w L) : es.size = L.length := by
  rw [← Array.length_toList, h, ents_len]
theorem TSet.fits (R : TSet P w s.heap a L es ep t) : t.fits es.size = true := by
  have a1 := R.tab.sz
  have a2 := size_of_ents R.en
  have a3 := R.room
  rw [hashes_len] at a1
  unfold SetTable.fits SetTable.fill
  rw [R.tab.dm, Bool.and_eq_true, beq_iff_eq, decide_eq_true_eq]
  refine ⟨by omega, ?_⟩
  show t.place.size + 0 ≤ t.mask
  omega
theorem TSet.at (R : TSet P w s.heap a L es ep t) {i : Nat} {p : Addr × NK} (h : L[i]? = some p) : es[i]? = some (p.2.hash w, Value.ref p.1) := by
  rw [← Array.getElem?_toList, R.en]
  unfold ents
  rw [List.getElem?_map, h]
  rfl
/-- nobody sees a search among such tuples -/
theorem unseen {k : NK} {b : Addr} {Q : Bool → Shared → Prop} (hk : TupK s.heap k b) {ys : List Value} (hy : ∀ y ∈ ys, ∃ k' c, y = Value.ref c ∧ TupK s.heap k' c) (h : Q false s) : wpAny (model P w) A (searchCouldBeSeen (.ref b) ys) Q E s := by
  unfold searchCouldBeSeen
  refine wpAny_bind ?_
  refine wpAny_forIn_list _ (fun rest r s' => r.1 = none ∧ s' = s ∧ ∀ y ∈ rest, ∃ k' c, y = Value.ref c ∧ TupK s.heap k' c) _ ?turn ?last _ _ ⟨rfl, rfl, hy⟩
  case turn =>
    rintro v rest r s' ⟨hr, rfl, all⟩
    obtain ⟨k', c, rfl, hc⟩ := all v List.mem_cons_self
    have more : ∀ y ∈ rest, ∃ k' c, y = Value.ref c ∧ TupK s'.heap k' c := fun u hu => all u (List.mem_cons_of_mem _ hu)
    dsimp only
    by_cases hv : (b == c || (carriedByValue (.ref b) && carriedByValue (.ref c))) = true
    · exact wp_if_pos hv (wpAny_pure ⟨rfl, rfl, more⟩)
    · refine wp_if_neg hv (wpAny_bind ((nestedKind P w).quiet (k := k) hk ?_))
      simp only [Bool.not_true, Bool.false_eq_true, if_false]
      refine wpAny_bind ((nestedKind P w).quiet (k := k') hc ?_)
      simp only [Bool.not_true, Bool.false_eq_true, if_false]
      refine wpAny_bind (noCls k _ 8 _ _ _ _ hk.1 hk.2 ?_)
      simp only [Bool.false_eq_true, if_false]
      refine wpAny_bind (noCls k' _ 8 _ _ _ _ hc.1 hc.2 ?_)
      simp only [Bool.false_eq_true, if_false]
      exact wpAny_pure ⟨rfl, rfl, more⟩
  case last =>
    rintro ⟨r1, r2⟩ s' ⟨hr, rfl, _⟩
    simp only at hr
    subst hr
    exact wpAny_pure h
end
/-! ### the search -/
/-- the states of a search for the hash g, one after the other -/
def st (m : Nat) (g : Int) (c : Nat) : SetTable.Probe := nth m (runAt m (SetTable.bits g % (m + 1)) (SetTable.bits g)) c
theorem st_way (m : Nat) (g : Int) (c : Nat) : (st m g c).j = way m g c := rfl
theorem st_more (m : Nat) (g : Int) (c q : Nat) : nth m (st m g c) q = st m g (c + q) := (nth_add m c _ q).symm
theorem nth_dummy (m : Nat) : ∀ (n : Nat) (p : SetTable.Probe), p.dummy = none → (nth m p n).dummy = none
  | 0, _, h => h
  | n + 1, p, h => nth_dummy m n (adv m p) (by unfold adv; split <;> exact h)
theorem st_dummy (m : Nat) (g : Int) (c : Nat) : (st m g c).dummy = none := nth_dummy m c _ rfl
section
variable {P : Program} {w : World} {A : Around} {E : Value → Shared → Prop} {s : Shared} {a : Addr} {L : List (Addr × NK)} {es : Array (Int × Value)} {ep : Nat} {t : SetTable}
theorem hunt (R : TSet P w s.heap a L es ep t) {x : Addr} {k : NK} (hx : TupK s.heap k x) (hu : A.units + 8 < cLine) {g : Int} (hg : g = k.hash w) {K : Nat} (hf : K < 10 * SetTable.turns t.mask)
    (free : way t.mask g K ∉ t.place.toList) (full : ∀ c, c < K → way t.mask g c ∈ t.place.toList) {Q : SetFound → Shared → Prop}
    (yes : k ∈ L.map (·.2) → Q (.there none) s) (no : k ∉ L.map (·.2) → Q (.free (way t.mask g K) false) s) :
    ∀ (f c : Nat) (stand : Option SetTable.Probe), stand.getD (t.probeStart g) = st t.mask g c → c ≤ K → K - c < f →
      (∀ (i : Nat) p, L[i]? = some p → p.2 = k → ∃ c', c ≤ c' ∧ c' < K ∧ t.place.toList[i]? = some (way t.mask g c')) →
      wpAny (model P w) A (setSearchFrom a (.ref x) g true f stand) Q E s
  | 0, c, stand, _, _, h, _ => absurd h (Nat.not_lt_zero _)
  | f + 1, c, stand, hst, hc, hlt, ahead => by
    obtain ⟨o, ho, hex, hd⟩ := R.ob
    have big := R.fits
    have hashOf : ∀ (i : Nat) p, L[i]? = some p → (es[i]?.map (·.1)).getD 0 = p.2.hash w := fun i p hp => by
      rw [R.at hp]
      rfl
    have oddM := mask_odd R.tab.mok
    rw [setSearchFrom_succ]
    refine wpAny_bind (wpAny_setState_of ho hd big ?_)
    dsimp only
    refine wp_if_neg (by unfold SetTable.gaveWay; rw [oddM]; decide) ?_
    try refine wpAny_bind (wpAny_pure ?_)
    have jAt : ∀ q, (nth t.mask (st t.mask g c) q).j = way t.mask g (c + q) := fun q => congrArg SetTable.Probe.j (st_more t.mask g c q)
    rcases go_spec t R.tab.ris R.tab.dm (fun i => (es[i]?.map (·.1)).getD 0) g (10 * SetTable.turns t.mask) (K - c) (st t.mask g c) (st_dummy _ _ _) (by omega)
      (fun q hq => by rw [jAt]; exact full (c + q) (by omega)) (by rw [jAt, show c + (K - c) = K by omega]; exact free) with ⟨q, i, hq, hi, hh, first, met⟩ | ⟨none_, met⟩
    · -- an entry of this hash
      have met' : t.probe (fun i => (es[i]?.map (·.1)).getD 0) g (stand.getD (t.probeStart g)) = some (.candidate (way t.mask g (c + q)) i (st t.mask g (c + (q + 1)))) := by
        rw [hst, ← jAt, ← st_more]
        exact met
      rw [met']
      dsimp only
      rw [jAt] at hi
      have il : i < L.length := by
        have z1 : i < t.place.toList.length := (List.getElem?_eq_some_iff.mp hi).1
        have z2 := R.tab.sz
        rw [hashes_len] at z2
        rw [Array.length_toList] at z1
        omega
      obtain ⟨p, hp⟩ : ∃ p, L[i]? = some p := ⟨L[i], List.getElem?_eq_getElem il⟩
      have pm : p ∈ L := List.mem_of_getElem? hp
      have pk := R.ks p pm
      have go : wpAny (model P w) A (searchRest a (.ref x) g true f es t (way t.mask g (c + q)) i (st t.mask g (c + (q + 1)))) Q E s := by
        unfold searchRest
        rw [R.at hp]
        dsimp only
        refine wpAny_bind (wpAny_holding ((nestedKind P w).eqBool (x := p.2) (y := k) hu pk hx ?_))
        refine wpAny_bind (wpAny_setState_of ho hd big ?_)
        dsimp only
        by_cases same : p.2 = k
        · refine wp_if_pos (by simp [same]) (wpAny_pure (yes ?_))
          exact List.mem_map.mpr ⟨p, pm, same⟩
        · refine wp_if_neg (by simp [same]) ?_
          try refine wpAny_bind (wpAny_pure ?_)
          rw [sameMem]
          dsimp only
          have live : t.slot (way t.mask g (c + q)) = .live i := slot_live R.tab.ris hi
          simp only [if_true, live, R.at hp]
          refine wpAny_bind (wpAny_isSame_ref_self (wpAny_bind (wpAny_pure ?_)))
          simp only [if_true]
          refine wp_if_neg (by simp [same]) ?_
          refine hunt R hx hu hg hf free full yes no f (c + (q + 1)) _ rfl (by omega) (by omega) fun i0 p0 h0 k0 => ?_
          obtain ⟨c', b1, b2, b3⟩ := ahead i0 p0 h0 k0
          refine ⟨c', ?_, b2, b3⟩
          by_cases ec : c' = c + q
          · exfalso
            rw [ec] at b3
            have l0 := slot_live R.tab.ris b3
            rw [live] at l0
            injection l0 with l0
            rw [← l0, hp] at h0
            exact same ((congrArg Prod.snd (Option.some.inj h0)).trans k0)
          · by_cases lt : c' < c + q
            · exfalso
              refine first (c' - c) i0 (by omega) (by rw [jAt, show c + (c' - c) = c' by omega]; exact b3) ?_
              show (es[i0]?.map (·.1)).getD 0 = g
              rw [hashOf i0 p0 h0, k0, hg]
            · omega
      by_cases hl : t.led = true
      · refine wp_if_neg (by simp [hl]) ?_
        try refine wpAny_bind (wpAny_pure ?_)
        exact go
      · refine wp_if_pos (by simp [hl]) (wpAny_bind (unseen hx (fun y hy => ?_) ?_))
        · obtain ⟨e, he, ee⟩ := List.mem_map.mp hy
          have he1 : e ∈ es ∧ e.1 = g := by simpa using he
          have he2 : e ∈ es.toList := by simpa using he1.1
          rw [R.en] at he2
          obtain ⟨p2, hp2, e2⟩ := List.mem_map.mp he2
          exact ⟨p2.2, p2.1, by rw [← ee, ← e2], R.ks p2 hp2⟩
        · refine wp_if_neg (by decide) ?_
          try refine wpAny_bind (wpAny_pure ?_)
          exact go
    · -- a free slot
      have met' : t.probe (fun i => (es[i]?.map (·.1)).getD 0) g (stand.getD (t.probeStart g)) = some (.empty (way t.mask g K) none) := by
        have e2 : way t.mask g K = (nth t.mask (st t.mask g c) (K - c)).j := by
          rw [jAt, show c + (K - c) = K by omega]
        rw [hst, e2]
        exact met
      rw [met']
      dsimp only
      refine wpAny_pure (no fun hm => ?_)
      obtain ⟨p0, m0, k0⟩ := List.mem_map.mp hm
      obtain ⟨i0, hi0, e0⟩ := List.getElem_of_mem m0
      have h0 : L[i0]? = some p0 := by rw [List.getElem?_eq_getElem hi0, e0]
      obtain ⟨c', b1, b2, b3⟩ := ahead i0 p0 h0 k0
      refine none_ (c' - c) i0 (by omega) (by rw [jAt, show c + (c' - c) = c' by omega]; exact b3) ?_
      show (es[i0]?.map (·.1)).getD 0 = g
      rw [hashOf i0 p0 h0, k0, hg]
theorem hunted (R : TSet P w s.heap a L es ep t) {x : Addr} {k : NK} (hx : TupK s.heap k x) (hu : A.units + 8 < cLine) {Q : SetFound → Shared → Prop} (yes : k ∈ L.map (·.2) → Q (.there none) s)
    (no : ∀ K, k ∉ L.map (·.2) → way t.mask (k.hash w) K ∉ t.place.toList → (∀ c, c < K → way t.mask (k.hash w) c ∈ t.place.toList) → Q (.free (way t.mask (k.hash w) K) false) s) :
    wpAny (model P w) A (setSearch a (.ref x) (k.hash w) true) Q E s := by
  have space := R.room
  obtain ⟨K, kf, free, full⟩ := R.tab.first (by rw [hashes_len]; omega) (k.hash w)
  have small : K < 100000 := by
    have : 10 * SetTable.turns t.mask ≤ 1420 := by
      unfold SetTable.turns
      rcases R.tab.mok with e | e | e <;> omega
    omega
  unfold setSearch
  refine hunt R hx hu rfl kf free full yes (fun hn => no K hn free full) 100000 0 none rfl (Nat.zero_le _) (by omega) fun i p hp hk => ?_
  have hi : (hashes w L)[i]? = some (k.hash w) := by
    unfold hashes
    rw [List.getElem?_map, hp, ← hk]
    rfl
  have il : i < t.place.toList.length := by
    have z1 : i < L.length := (List.getElem?_eq_some_iff.mp hp).1
    have z2 := R.tab.sz
    rw [hashes_len] at z2
    rw [Array.length_toList]
    omega
  have hj := List.getElem?_eq_getElem il
  obtain ⟨c, hc, e⟩ := R.tab.before free hi hj
  exact ⟨c, Nat.zero_le _, hc, by rw [hj, e]⟩
end
/-! ### one put in -/
theorem relist {w : World} (L : List (Addr × NK)) (es : Array (Int × Value)) (order : Array Nat) (he : es.toList = ents w L) (hp : order.toList.Perm (List.range L.length)) :
    ∃ L2, (order.filterMap (es[·]?)).toList = ents w L2 ∧ L2.Perm L ∧ hashes w L2 = order.toList.map fun i => (es.map (·.1)).getD i 0 := by
  have one : ∀ i (h : i < L.length), es[i]? = some ((L[i]).2.hash w, Value.ref (L[i]).1) := fun i h => by
    rw [← Array.getElem?_toList, he]
    unfold ents
    rw [List.getElem?_map, List.getElem?_eq_getElem h]
    rfl
  have all : ∀ l : List Nat, (∀ i ∈ l, i < L.length) → l.filterMap (fun i => es[i]?) = ents w (l.filterMap fun i => L[i]?) ∧ hashes w (l.filterMap fun i => L[i]?) = l.map fun i => (es.map (·.1)).getD i 0 := by
    intro l
    induction l with
    | nil => exact fun _ => ⟨rfl, rfl⟩
    | cons i l ih =>
      intro hl
      have hi := hl i List.mem_cons_self
      obtain ⟨e1, e2⟩ := ih fun j hj => hl j (List.mem_cons_of_mem _ hj)
      rw [List.filterMap_cons_some (List.getElem?_eq_getElem hi), List.filterMap_cons_some (one i hi), e1, List.map_cons, ← e2]
      refine ⟨rfl, ?_⟩
      have e5 : (es.map (·.1))[i]? = some ((L[i]).2.hash w) := by
        rw [Array.getElem?_map, one i hi]
        rfl
      have e4 : (es.map (·.1)).getD i 0 = (L[i]).2.hash w := by simp [Array.getD_eq_getD_getElem?, e5]
      rw [e4]
      rfl
  obtain ⟨e1, e2⟩ := all order.toList fun i hi => List.mem_range.mp (hp.mem_iff.mp hi)
  refine ⟨order.toList.filterMap fun i => L[i]?, by first | (rw [Array.toList_filterMap]; exact e1) | simpa using e1, ?_, e2⟩
  have z := hp.filterMap fun i => L[i]?
  rw [List.filterMap_getElem?_range_length] at z
  exact z
theorem TabOk.unplain {t : SetTable} {hs : List Int} (T : TabOk t hs) : TabOk { t with plain := false } hs := ⟨T.ris, T.dm, T.sz, T.mok, T.bd, T.reach⟩
section
variable {P : Program} {w : World} {A : Around} {E : Value → Shared → Prop} {s : Shared} {a : Addr} {L : List (Addr × NK)} {es : Array (Int × Value)} {ep : Nat} {t : SetTable}
theorem relaid_at {o : Obj} (ho : s.heap.get? a = some o) (hex : o.ExactSet) (hd : o.data = .set es ep t) (en : es.toList = ents w L) (tab : TabOk t (hashes w L)) (hfl : L.length ≤ t.mask)
    (nd : (L.map (·.2)).Nodup) (ks : ∀ p ∈ L, TupK s.heap p.2 p.1) (ld : w.params.followText "set-order" = true ∨ t.led = true) (few : L.length < 64) {wanted M : Nat}
    (hw : SetTable.sizeAbove wanted - 1 = M) (hM : MaskOk M) (hw2 : SetTable.sizeAbove wanted ≤ 128) (hn : L.length * 5 < M * 3) {Q : Unit → Shared → Prop}
    (hQ : ∀ h' L' es' ep' t', Heap.SameBut a s.heap h' → TSet P w h' a L' es' ep' t' → L'.Perm L → Q () { s with heap := h' }) : wpAny (model P w) A (setRelay a wanted) Q E s := by
  have hsl := size_of_ents en
  have hps : t.place.size = es.size := by rw [tab.sz, hashes_len, hsl]
  have fits : t.fits es.size = true := by
    unfold SetTable.fits SetTable.fill
    rw [tab.dm, Bool.and_eq_true, beq_iff_eq, decide_eq_true_eq]
    refine ⟨hps, ?_⟩
    show t.place.size + 0 ≤ t.mask
    omega
  obtain ⟨t', order, e, hp, T, em, el, _, _⟩ := relaid_ok t (hs := es.map (·.1)) (wanted := wanted) hw hM (by rw [Array.size_map, hsl]; omega)
  rw [Array.size_map, hsl] at hp
  obtain ⟨L2, r1, r2, r3⟩ := relist L es order en hp
  rw [← r3] at T
  have hs2 : (order.filterMap (es[·]?)).size = es.size := by rw [size_of_ents r1, r2.length_eq, hsl]
  rw [setRelay_eq]
  refine wpAny_bind (wpAny_setState_of ho hd fits ?_)
  dsimp only
  refine wp_if_neg (by rw [sizeLine_eq]; omega) ?_
  try refine wpAny_bind (wpAny_pure ?_)
  rw [e]
  dsimp only
  refine wpAny_bind (wp_if_neg (by rw [hs2]; simp) ?_)
  try refine wpAny_bind (wpAny_pure ?_)
  refine wpAny_pure ?_
  dsimp only
  refine wpAny_storeSet_of ho hd ?_ (by rw [hs2, hsl, sizeLine_eq]; omega)
  have sb : Heap.SameBut a s.heap (s.heap.update a (Obj.putSet (order.filterMap (es[·]?)) t')) := Heap.SameBut.update ..
  refine hQ _ L2 (order.filterMap (es[·]?)) (ep + 1) t' sb ⟨⟨_, store_at ho hd, ⟨hex.1, hex.2.1, hex.2.2⟩, rfl⟩, r1, T, (r2.map (·.2)).nodup_iff.mpr nd, fun p hpm => (ks p (r2.mem_iff.mp hpm)).butSet ho hd sb, by rw [el]; exact ld, ?_, by rw [r2.length_eq]; exact few⟩ r2
  rw [r2.length_eq, em]
  exact hn
/-- adding -/
theorem added (R : TSet P w s.heap a L es ep t) {x : Addr} {k : NK} (hx : TupK s.heap k x) (hu : A.units + 8 < cLine) (hfew : L.length + 1 < 64) {Q : Bool → Shared → Prop}
    (hQ : ∀ b h' L' es' ep' t', Heap.SameBut a s.heap h' → TSet P w h' a L' es' ep' t' → (k ∈ L.map (·.2) → L' = L) → (k ∉ L.map (·.2) → L'.Perm ((x, k) :: L)) → Q b { s with heap := h' }) :
    wpAny (model P w) A (setAddHashed a (.ref x) (k.hash w)) Q E s := by
  obtain ⟨o, ho, hex, hd⟩ := R.ob
  have hsl := size_of_ents R.en
  have hroom := R.room
  unfold setAddHashed
  refine wpAny_holding ?_
  rw [show (100000 : Nat) = 99999 + 1 from rfl, setAddHashedIn_succ]
  refine wpAny_bind (wpAny_setState_of ho hd R.fits ?_)
  dsimp only
  refine wp_if_neg (by simp [byScan, Value.scannable]) ?_
  try refine wpAny_bind (wpAny_pure ?_)
  refine wpAny_bind (hunted R hx hu (fun hm => ?_) fun K hm hK hb => ?_)
  · dsimp only
    exact wpAny_pure (hQ false s.heap L es ep t (Heap.SameBut.refl a s.heap) R (fun _ => rfl) fun z => absurd hm z)
  · dsimp only
    refine wpAny_bind (wpAny_setState_of ho hd R.fits ?_)
    dsimp only
    obtain ⟨q1, q2, q3, q4, q5, _, _, _, q9⟩ := R.tab.put hK hb
    generalize hpt : t.put (way t.mask (k.hash w) K) = pt at q1 q3 q4 q5 q9 ⊢
    obtain ⟨t1, p⟩ := pt
    dsimp only at q1 q3 q4 q5 q9 ⊢
    subst q1
    generalize hpp : SetTable.below t.place (way t.mask (k.hash w) K) = p at q2 q3 ⊢
    have hin : (SetTable.insertAt es p (k.hash w, Value.ref x)).toList = ents w (L.take p ++ (x, k) :: L.drop p) := by
      rw [SetTable.toList_insertAt, R.en]
      unfold ents
      rw [List.map_append, List.map_cons, List.map_take, List.map_drop]
    have pm := put_perm L p (x, k)
    have hlen : (L.take p ++ (x, k) :: L.drop p).length = L.length + 1 := pm.length_eq
    have hhs : hashes w (L.take p ++ (x, k) :: L.drop p) = (hashes w L).take p ++ k.hash w :: (hashes w L).drop p := by
      unfold hashes
      rw [List.map_append, List.map_cons, List.map_take, List.map_drop]
    rw [← hhs] at q3
    have nd1 : ((L.take p ++ (x, k) :: L.drop p).map (·.2)).Nodup := by
      refine (pm.map (·.2)).nodup_iff.mpr ?_
      rw [List.map_cons]
      exact List.nodup_cons.mpr ⟨hm, R.nd⟩
    have hes : (SetTable.insertAt es p (k.hash w, Value.ref x)).size = L.length + 1 := by rw [size_of_ents hin, hlen]
    generalize SetTable.insertAt es p (k.hash w, Value.ref x) = es1 at hin hes ⊢
    generalize L.take p ++ (x, k) :: L.drop p = L1 at pm hlen q3 nd1 hin
    have ld1 : w.params.followText "set-order" = true ∨ t1.led = true := by rw [q5]; exact R.led
    -- behind the question whether the hash is by value: t2 is t1, but for one mark
    have rest : ∀ t2 : SetTable, TabOk t2 (hashes w L1) → t2.mask = t.mask → t2.fill = L.length + 1 → (w.params.followText "set-order" = true ∨ t2.led = true) →
        wpAny (model P w) A (do
          storeSet a es1 t2
          if (!false && t2.tooFull) = true then do
              setRelay a (SetTable.grown (es.size + 1))
              pure true
            else pure true) Q E s := by
      intro t2 T2 m2 f2 l2
      refine wpAny_bind (wpAny_storeSet_of ho hd ?_ (by rw [hes, sizeLine_eq]; omega))
      have sb : Heap.SameBut a s.heap (s.heap.update a (Obj.putSet es1 t2)) := Heap.SameBut.update ..
      have ho1 := store_at (es' := es1) (t' := t2) ho hd
      generalize s.heap.update a (Obj.putSet es1 t2) = h1 at sb ho1 ⊢
      have ks1 : ∀ p ∈ L1, TupK h1 p.2 p.1 := fun p hp => by
        rcases List.mem_cons.mp (pm.mem_iff.mp hp) with e | hp
        · rw [e]
          exact hx.butSet ho hd sb
        · exact (R.ks p hp).butSet ho hd sb
      by_cases hf : t2.tooFull = true
      · refine wp_if_pos (by simp [hf]) ?_
        have hfull : (L.length + 1) * 5 ≥ t2.mask * 3 := by
          have h := hf
          unfold SetTable.tooFull at h
          rw [decide_eq_true_eq, f2] at h
          exact h
        rw [hsl]
        have two : (t.mask = 7 ∧ L.length = 4) ∨ (t.mask = 31 ∧ L.length = 18) := by
          rcases R.tab.mok with e | e | e
          · left; rw [m2, e] at hfull; rw [e] at hroom; exact ⟨e, by omega⟩
          · right; rw [m2, e] at hfull; rw [e] at hroom; exact ⟨e, by omega⟩
          · exfalso; rw [m2, e] at hfull; omega
        have go : ∀ M, SetTable.sizeAbove (SetTable.grown (L.length + 1)) - 1 = M → MaskOk M → SetTable.sizeAbove (SetTable.grown (L.length + 1)) ≤ 128 → (L.length + 1) * 5 < M * 3 →
            wpAny (model P w) A (do setRelay a (SetTable.grown (L.length + 1)); pure true) Q E { s with heap := h1 } := fun M e1 e2 e3 e4 => by
          refine wpAny_bind (relaid_at (s := { s with heap := h1 }) ho1 ⟨hex.1, hex.2.1, hex.2.2⟩ rfl hin T2 (by rw [hlen, m2]; rcases two with ⟨e, e'⟩ | ⟨e, e'⟩ <;> omega) nd1 ks1 l2 (by rw [hlen]; exact hfew) e1 e2 e3 (by rw [hlen]; exact e4) ?_)
          intro h2 L2 es2 ep2 t2 sb2 R2 pm2
          exact wpAny_pure (hQ true h2 L2 es2 ep2 t2 (sb.trans sb2) R2 (fun z => absurd z hm) fun _ => pm2.trans pm)
        rcases two with ⟨_, e2⟩ | ⟨_, e2⟩
        · exact go 31 (by rw [e2, size_20]) (.inr (.inl rfl)) (by rw [e2, size_20]; decide) (by omega)
        · exact go 127 (by rw [e2, size_76]) (.inr (.inr rfl)) (by rw [e2, size_76]; decide) (by omega)
      · refine wp_if_neg (by simp [hf]) ?_
        refine wpAny_pure (hQ true h1 L1 es1 (ep + 1) t2 sb ⟨⟨_, ho1, ⟨hex.1, hex.2.1, hex.2.2⟩, rfl⟩, hin, T2, nd1, ks1, l2, ?_, by rw [hlen]; exact hfew⟩ (fun z => absurd z hm) fun _ => pm)
        have h := hf
        unfold SetTable.tooFull at h
        rw [decide_eq_true_eq, f2] at h
        rw [hlen]
        omega
    have f1 : t1.fill = L.length + 1 := by rw [q9, hashes_len]
    have close : ∀ b : Bool, wpAny (model P w) A (do
          storeSet a es1 (if b = true then t1 else { t1 with plain := false })
          if (!false && (if b = true then t1 else { t1 with plain := false }).tooFull) = true then do
              setRelay a (SetTable.grown (es.size + 1))
              pure true
            else pure true) Q E s := fun b => by
      cases b with
      | true => exact rest t1 q3 q4 f1 ld1
      | false => exact rest { t1 with plain := false } (TabOk.unplain q3) q4 f1 ld1
    by_cases hpl : t1.plain = true
    · first
        | exact wpAny_bind (wp_if_pos hpl (byVal k _ 8 _ _ _ _ hx.1 fun b => close b))
        | exact wp_if_pos hpl (wpAny_bind (byVal k _ 8 _ _ _ _ hx.1 fun b => close b))
    · first
        | exact wpAny_bind (wp_if_neg hpl (wpAny_pure (close true)))
        | exact wp_if_neg hpl (wpAny_bind (wpAny_pure (close true)))
end
end Rw
namespace Rw
open PySem PySem.Spec PyProof.Rows L2
/-! ### set(xs): filled item by item -/
/-- a new set -/
abbrev newSetObj (w : World) : Obj := { cls := .type "set", dict := none, data := .set #[] 0 (.fresh 0 0 (!w.params.followText "set-order")) }
/-- G i: the set at S has got the first i items -/
structure Fill (P : Program) (w : World) (S : Addr) (h0 : Heap) (items : List Value) (G : Nat → Heap → Prop) : Prop where
  start : ∀ h, h.get? S = some (newSetObj w) → G 0 h
  keep : ∀ i h h', G i h → (∀ o, h.get? S = some o → h'.get? S = some o) → (∀ b o, h0.get? b = some o → h'.get? b = some o) → G i h'
  put : ∀ i v (A : Around) (E : Value → Shared → Prop) (s : Shared) (Q : Bool → Shared → Prop), A.units + 8 < cLine → items[i]? = some v → G i s.heap → (∀ b o, h0.get? b = some o → s.heap.get? b = some o) →
    (∀ b h' tk, s.toks ≤ tk → Heap.SameBut S s.heap h' → G (i + 1) h' → Q b { s with heap := h', toks := tk }) → wpAny (model P w) A (setAdd S v) Q E s
section
variable {P : Program} {w : World} {A : Around} {E : Value → Shared → Prop} {s : Shared}
theorem fill_loop {I : Addr} {fp wr : List Addr} {GG : Array GenState → Array GenState → Prop} {n : Nat} {Pv : Nat → Value → Prop} {St : Nat → Shared → Prop} {R : Result → Shared → Prop} {S : Addr} {h0 : Heap} {items : List Value} {G : Nat → Heap → Prop}
    (W : WalksS P w A.in1 I fp wr GG n Pv St) (hSf : S ∉ fp) (T : Fill P w S h0 items G) (hval : ∀ i v, Pv i v → items[i]? = some v) (hS0 : h0.get? S = none) (hw0 : ∀ b ∈ wr, h0.get? b = none) (hu : A.in1.units + 8 < cLine) :
    ∀ (k i : Nat) (s : Shared), n - i = k → i ≤ n → St i s → (∀ b o, h0.get? b = some o → s.heap.get? b = some o) → G i s.heap →
      (∀ s', Moved (S :: wr) GG s s' → G n s'.heap → (∀ b o, h0.get? b = some o → s'.heap.get? b = some o) → R (.ok (.ret .none)) s') →
      codeAny (model P w) A (.builtin "set.update.loop" ⟨[.ref S, .ref I], []⟩) R s := by
  have hSw : S ∉ wr := fun h => hSf (W.sub _ h)
  have wider : ∀ b ∈ wr, b ∈ S :: wr := fun b hb => List.mem_cons_of_mem _ hb
  have old : ∀ {s s' : Shared}, Moved wr GG s s' → (∀ b o, h0.get? b = some o → s.heap.get? b = some o) → ∀ b o, h0.get? b = some o → s'.heap.get? b = some o := fun hm hkp b o e =>
    hm.heap b o (fun hb => by rw [hw0 b hb] at e; cases e) (hkp b o e)
  intro k
  induction k with
  | zero =>
    intro i s hk' hi hst hkp g hR
    have hin : i = n := by omega
    subst hin
    refine codeAny_builtin F.entry_set_update_loop ?_
    rw [Around.under_plainId F.plain_set_update_loop _]
    show wpAny _ A.in1 (pyNext (.ref I) >>= _) _ _ s
    refine wpAny_bind (W.done s _ _ hst fun s' hm => ?_)
    show wpAny _ A.in1 (ret Value.none) _ _ s'
    exact wpAny_pure (hR s' (hm.mono wider) (T.keep _ _ _ g (fun o e => hm.heap S o hSw e) (old hm hkp)) (old hm hkp))
  | succ k ih =>
    intro i s hk' hi hst hkp g hR
    have hlt : i < n := by omega
    refine codeAny_builtin F.entry_set_update_loop ?_
    rw [Around.under_plainId F.plain_set_update_loop _]
    show wpAny _ A.in1 (pyNext (.ref I) >>= _) _ _ s
    refine wpAny_bind (W.item i s _ _ hlt hst fun v s' hP hst' hm => ?_)
    have hkp' := old hm hkp
    show wpAny _ A.in1 (holding [v] (setAdd S v) >>= _) _ _ s'
    refine wpAny_bind (wpAny_holding (T.put i v A.in1 _ s' _ hu (hval i v hP) (T.keep _ _ _ g (fun o e => hm.heap S o hSw e) hkp') hkp' fun b h' tk htk hsb g' => ?_))
    have hkp2 : ∀ b o, h0.get? b = some o → h'.get? b = some o := fun b o e => (hsb.2 b (fun z => by rw [z, hS0] at e; cases e)).trans (hkp' b o e)
    refine wpAny_pure ⟨plainId_quiet F.plain_set_update_loop _, ih (i + 1) _ (by omega) hlt (W.frame _ s' _ _ hst' htk fun b hb o e => ?_) hkp2 g' fun s'' hm'' g'' hkp'' => ?_⟩
    · rw [hsb.2 b (fun h : b = S => hSf (by rw [← h]; exact hb))]
      exact e
    · refine hR s'' (Moved.trans W.gtrans ((hm.mono wider).then_heap htk fun b o hb e => ?_) hm'') g'' hkp''
      rw [hsb.2 b (fun h : b = S => hb (by rw [h]; exact List.mem_cons_self))]
      exact e
theorem call_fill_list {l : Addr} {items : Array Value} {G : Nat → Heap → Prop} {Q : Value → Shared → Prop} (hh : A.handled = none) (hl : s.heap.IsList l items) (T : Fill P w s.heap.objs.size s.heap items.toList G) (hu : A.units + 16 < cLine)
    (h : ∀ (h' : Heap) (tk : Nat), G items.size h' → (∀ b o, s.heap.get? b = some o → h'.get? b = some o) → Q (.ref s.heap.objs.size) { s with heap := h', toks := tk }) :
    wpAny (model P w) A (call (.type "set") [.ref l]) Q E s := by
  obtain ⟨c, tl, hmro⟩ := F.called_set.mro
  have hmade := F.called_set.made
  have hsub := F.called_set.sub
  refine wpAny_call (codeAny_of_tree ?_)
  show wpAny _ _ (callAny (.type "set") _) _ _ _
  refine wpAny_pure ⟨Code.quiet_builtin _ (by decide +kernel), codeAny_builtin F.entry_type_call ?_⟩
  rw [Around.under_plain (weight_type_call_type "set" [.ref l] []) rfl]
  have f1 := F.called_set.notType
  have f2 := F.called_set.canCreate
  have f3 := F.typeCall_set_1 (.ref l)
  repeat (any_goals (first | assumption | wp_step))
  refine codeAny_mono (code_set_led1 (.ref l) (E := E) (Q₁ := fun obj s₁ => obj = .ref s.heap.objs.size ∧ s₁ = { s with heap := s.heap.push (newSetObj w) }) ⟨rfl, rfl⟩) fun r s₁ hr => ?_
  cases r with
  | error e => exact hr
  | ok fl =>
    cases fl with
    | ret obj =>
      obtain ⟨rfl, rfl⟩ := hr
      have hS : (s.heap.push (newSetObj w)).get? s.heap.objs.size = some (newSetObj w) := Heap.get?_push_size _ rfl
      have hT : Shared.TypeIs { s with heap := s.heap.push (newSetObj w) } (.ref s.heap.objs.size) "set" := ⟨_, hS, rfl⟩
      have f4 := F.called_set.init.lookup
      have f5 := F.called_set.init.bind (.ref s.heap.objs.size)
      repeat (any_goals (first | assumption | wp_step))
      refine codeAny_mono (codeAny_call_builtin (R := wants (fun r s₂ => r = .none ∧ ∃ h' tk, s₂ = { s with heap := h', toks := tk } ∧ G items.size h' ∧ (∀ b o, s.heap.get? b = some o → h'.get? b = some o)) E) F.called_set.init.plain F.entry_set_init (check_set_init_1 hT ?_)) fun r₂ s₂ hr₂ => ?_
      · obtain ⟨ol, hol, hcl, nl, hdl⟩ := hl
        obtain ⟨ocls, odict, odata, oslots⟩ := ol
        simp only at hcl hdl
        subst hcl; subst hdl
        have hol' : (s.heap.push (newSetObj w)).get? l = some { cls := .type "list", dict := odict, data := .seq items nl, slots := oslots } := Heap.get?_push_of_some _ hol
        have f6 := F.sub_list_set
        have f7 := F.sub_list_frozenset
        have f8 : (Value.type "list" == Value.type "dict") = false := by decide
        have hl1 : (s.heap.push (newSetObj w)).IsList l items := ⟨_, hol', rfl, nl, rfl⟩
        unfold Builtin.«set.__init__» noKeywords Builtin.Frozenset.updateFrom
        generalize hPI : pyIter = PI
        wp_walk
        subst hPI
        refine wpAny_pyIter_list hl1 ?_
        refine wpAny_bind (wpAny_runValue ?_)
        have hlS : l < s.heap.objs.size := Heap.lt_size hol
        have hh3 : A.in1.in1.in1.handled = none := by simp [hh]
        have hz1 : (s.heap.push (newSetObj w)).objs.size = s.heap.objs.size + 1 := Heap.size_push ..
        have hneI : l ≠ (s.heap.push (newSetObj w)).objs.size := by
          rw [Heap.size_push]
          exact Nat.ne_of_lt (Nat.lt_succ_of_lt hlS)
        have hSf : s.heap.objs.size ∉ [(s.heap.push (newSetObj w)).objs.size, l] := by
          rw [Heap.size_push]
          simp only [List.mem_cons, List.mem_singleton, List.not_mem_nil, or_false, not_or]
          exact ⟨Nat.ne_of_lt (Nat.lt_succ_self _), Nat.ne_of_gt hlS⟩
        have none_of : ∀ b, s.heap.objs.size ≤ b → s.heap.get? b = none := fun b hb => by
          cases q : s.heap.get? b with
          | none => rfl
          | some o => exact absurd (Nat.lt_of_lt_of_le (Heap.lt_size q) hb) (Nat.lt_irrefl _)
        refine fill_loop ((Walks.list hh3 _ l hneI items).toS) hSf T (fun i v hv => by rw [Array.getElem?_toList]; exact hv) (none_of _ (Nat.le_refl _)) (fun b hb => none_of b (by
            rw [List.mem_singleton.mp hb, Heap.size_push]
            exact Nat.le_succ _)) (by simp only [Around.in1_units]; omega) (items.size - 0) 0 _ (by omega) (Nat.zero_le _)
          ⟨⟨_, Heap.get?_push_size _ rfl, rfl, rfl⟩, (hl1.push _)⟩ (fun b o e => Heap.get?_push_of_some _ (Heap.get?_push_of_some _ e)) (T.start _ (Heap.get?_push_of_some _ hS)) ?hR
        intro s' hm g' hkp
        obtain ⟨h', g2, d', tk', os'⟩ := s'
        have eg : g2 = s.gens := hm.gens
        have ed : d' = s.drawn := hm.drawn
        have eo : os' = s.os := hm.os
        subst eg; subst ed; subst eo
        show wpAny _ _ _ _ _ _
        refine wpAny_pure ?_
        show wpAny _ _ (ret Value.none) _ _ _
        exact wpAny_pure ⟨rfl, h', tk', rfl, g', hkp⟩
      · cases r₂ with
        | error e => exact hr₂
        | ok fl₂ =>
          cases fl₂ with
          | ret r =>
            obtain ⟨rfl, h', tk, rfl, g', hk'⟩ := hr₂
            repeat (any_goals (first | assumption | wp_step))
            exact h _ _ g' hk'
          | _ => exact hr₂.elim
    | _ => exact hr.elim
theorem call_fill_tuple {l : Addr} {items : Array Value} {G : Nat → Heap → Prop} {Q : Value → Shared → Prop} (hh : A.handled = none) (hl : s.heap.IsTuple l items) (T : Fill P w s.heap.objs.size s.heap items.toList G) (hu : A.units + 16 < cLine)
    (h : ∀ (h' : Heap) (tk : Nat), G items.size h' → (∀ b o, s.heap.get? b = some o → h'.get? b = some o) → Q (.ref s.heap.objs.size) { s with heap := h', toks := tk }) :
    wpAny (model P w) A (call (.type "set") [.ref l]) Q E s := by
  obtain ⟨c, tl, hmro⟩ := F.called_set.mro
  have hmade := F.called_set.made
  have hsub := F.called_set.sub
  refine wpAny_call (codeAny_of_tree ?_)
  show wpAny _ _ (callAny (.type "set") _) _ _ _
  refine wpAny_pure ⟨Code.quiet_builtin _ (by decide +kernel), codeAny_builtin F.entry_type_call ?_⟩
  rw [Around.under_plain (weight_type_call_type "set" [.ref l] []) rfl]
  have f1 := F.called_set.notType
  have f2 := F.called_set.canCreate
  have f3 := F.typeCall_set_1 (.ref l)
  repeat (any_goals (first | assumption | wp_step))
  refine codeAny_mono (code_set_led1 (.ref l) (E := E) (Q₁ := fun obj s₁ => obj = .ref s.heap.objs.size ∧ s₁ = { s with heap := s.heap.push (newSetObj w) }) ⟨rfl, rfl⟩) fun r s₁ hr => ?_
  cases r with
  | error e => exact hr
  | ok fl =>
    cases fl with
    | ret obj =>
      obtain ⟨rfl, rfl⟩ := hr
      have hS : (s.heap.push (newSetObj w)).get? s.heap.objs.size = some (newSetObj w) := Heap.get?_push_size _ rfl
      have hT : Shared.TypeIs { s with heap := s.heap.push (newSetObj w) } (.ref s.heap.objs.size) "set" := ⟨_, hS, rfl⟩
      have f4 := F.called_set.init.lookup
      have f5 := F.called_set.init.bind (.ref s.heap.objs.size)
      repeat (any_goals (first | assumption | wp_step))
      refine codeAny_mono (codeAny_call_builtin (R := wants (fun r s₂ => r = .none ∧ ∃ h' tk, s₂ = { s with heap := h', toks := tk } ∧ G items.size h' ∧ (∀ b o, s.heap.get? b = some o → h'.get? b = some o)) E) F.called_set.init.plain F.entry_set_init (check_set_init_1 hT ?_)) fun r₂ s₂ hr₂ => ?_
      · obtain ⟨ol, hol, hcl, nl, hdl⟩ := hl
        obtain ⟨ocls, odict, odata, oslots⟩ := ol
        simp only at hcl hdl
        subst hcl; subst hdl
        have hol' : (s.heap.push (newSetObj w)).get? l = some { cls := .type "tuple", dict := odict, data := .seq items nl, slots := oslots } := Heap.get?_push_of_some _ hol
        have f6 := F.sub_tuple_set
        have f7 := F.sub_tuple_frozenset
        have f8 : (Value.type "tuple" == Value.type "dict") = false := by decide
        have hl1 : (s.heap.push (newSetObj w)).IsTuple l items := ⟨_, hol', rfl, nl, rfl⟩
        unfold Builtin.«set.__init__» noKeywords Builtin.Frozenset.updateFrom
        generalize hPI : pyIter = PI
        wp_walk
        subst hPI
        refine wpAny_pyIter_tuple hl1 ?_
        refine wpAny_bind (wpAny_runValue ?_)
        have hlS : l < s.heap.objs.size := Heap.lt_size hol
        have hh3 : A.in1.in1.in1.handled = none := by simp [hh]
        have hz1 : (s.heap.push (newSetObj w)).objs.size = s.heap.objs.size + 1 := Heap.size_push ..
        have hneI : l ≠ (s.heap.push (newSetObj w)).objs.size := by
          rw [Heap.size_push]
          exact Nat.ne_of_lt (Nat.lt_succ_of_lt hlS)
        have hSf : s.heap.objs.size ∉ [(s.heap.push (newSetObj w)).objs.size, l] := by
          rw [Heap.size_push]
          simp only [List.mem_cons, List.mem_singleton, List.not_mem_nil, or_false, not_or]
          exact ⟨Nat.ne_of_lt (Nat.lt_succ_self _), Nat.ne_of_gt hlS⟩
        have none_of : ∀ b, s.heap.objs.size ≤ b → s.heap.get? b = none := fun b hb => by
          cases q : s.heap.get? b with
          | none => rfl
          | some o => exact absurd (Nat.lt_of_lt_of_le (Heap.lt_size q) hb) (Nat.lt_irrefl _)
        refine fill_loop ((Walks.tuple hh3 _ l hneI items).toS) hSf T (fun i v hv => by rw [Array.getElem?_toList]; exact hv) (none_of _ (Nat.le_refl _)) (fun b hb => none_of b (by
            rw [List.mem_singleton.mp hb, Heap.size_push]
            exact Nat.le_succ _)) (by simp only [Around.in1_units]; omega) (items.size - 0) 0 _ (by omega) (Nat.zero_le _)
          ⟨⟨_, Heap.get?_push_size _ rfl, rfl, rfl⟩, (hl1.push _)⟩ (fun b o e => Heap.get?_push_of_some _ (Heap.get?_push_of_some _ e)) (T.start _ (Heap.get?_push_of_some _ hS)) ?hR
        intro s' hm g' hkp
        obtain ⟨h', g2, d', tk', os'⟩ := s'
        have eg : g2 = s.gens := hm.gens
        have ed : d' = s.drawn := hm.drawn
        have eo : os' = s.os := hm.os
        subst eg; subst ed; subst eo
        show wpAny _ _ _ _ _ _
        refine wpAny_pure ?_
        show wpAny _ _ (ret Value.none) _ _ _
        exact wpAny_pure ⟨rfl, h', tk', rfl, g', hkp⟩
      · cases r₂ with
        | error e => exact hr₂
        | ok fl₂ =>
          cases fl₂ with
          | ret r =>
            obtain ⟨rfl, h', tk, rfl, g', hk'⟩ := hr₂
            repeat (any_goals (first | assumption | wp_step))
            exact h _ _ g' hk'
          | _ => exact hr₂.elim
    | _ => exact hr.elim
end
end Rw
namespace Rw
open PySem PySem.Spec PyProof.Rows PySem.W PySem.SeqAt
/-! ### tuples, perhaps empty ones among them, sorted -/
section
variable {prog : Program} {w : World} {A : Around} {E : Value → Shared → Prop} {s : Shared}
/-- each value is a tuple, and these are their first items -/
inductive Firsts (h : Heap) : List Value → List (Option Value) → Prop
  | nil : Firsts h [] []
  | cons {a : Addr} {o : Obj} {xs : Array Value} {n : Nat} {vs : List Value} {fs : List (Option Value)} : h.get? a = some o → o.cls = .type "tuple" → o.data = .seq xs n → Firsts h vs fs → Firsts h (.ref a :: vs) (xs[0]? :: fs)
theorem Firsts.len {h : Heap} {vs : List Value} {fs : List (Option Value)} (x : Firsts h vs fs) : fs.length = vs.length := by
  induction x with
  | nil => rfl
  | cons _ _ _ _ ih => rw [List.length_cons, List.length_cons, ih]
theorem firsts_run {M : Model} : ∀ (vs : List Value) (fs : List (Option Value)) {Q : List (Option Value) → Shared → Prop}, Firsts s.heap vs fs → Q fs s → wpAny M A (vs.mapM firstOfTuple') Q E s
  | _, _, _, .nil, h => by
    rw [List.mapM_nil]
    exact wpAny_pure h
  | _, _, Q, .cons (a := a) (xs := xs) (vs := vs) (fs := fs) ho hc hd t, h => by
    rw [List.mapM_cons]
    refine wpAny_bind ?_
    rw [kas_first_eq]
    refine wpAny_bind (Looks.here (show Looks M s.heap (typeOf (.ref a)) _ from (Looks.ld ho).andThen .now) ?_)
    rw [hc, if_neg (by first | decide | simp)]
    refine wpAny_bind (listItems_at ho hd (wpAny_pure ?_))
    exact wpAny_bind (firsts_run vs fs (Q := fun bs s' => wpAny M A (pure (xs[0]? :: bs)) Q E s') t (wpAny_pure h))
theorem firsts_ty {M : Model} {h : Heap} {vs : List Value} {fs : List (Option Value)} (x : Firsts h vs fs) : ∀ v ∈ vs, Looks M h (typeOf v) (.type "tuple") := by
  induction x with
  | nil => exact fun v hv => nomatch hv
  | cons ho hc hd _ ih =>
    intro v hv
    rcases List.mem_cons.mp hv with rfl | hv
    · show Looks M h (typeOf (Value.ref _)) (Value.type "tuple")
      exact hc ▸ (Looks.ld ho).andThen .now
    · exact ih v hv
/-- an empty one among the others, not the first -/
theorem kind_general {M : Model} {vs : List Value} {fs : List (Option Value)} {f : Value} {Q : SortKind → Shared → Prop} (x : Firsts s.heap vs fs) (h0 : fs[0]? = some (some f)) (hn : none ∈ fs) (h : Q general' s) : wpAny M A (keyKind' vs.toArray) Q E s := by
  rw [kat_kind_eq, List.mapM_toArray, map_eq_pure_bind]
  refine wpAny_bind (wpAny_bind (firsts_run vs fs x (wpAny_pure ?_)))
  have c : ¬ ((fs.toArray.all fun x => x.isSome) = true) := by
    intro q
    rw [List.all_toArray, List.all_eq_true] at q
    exact absurd (q none hn) (by simp)
  rw [if_neg c]
  have c2 : ((fs.toArray[0]?.bind id).isSome) = true := by
    have e : fs.toArray[0]? = some (some f) := by simpa using h0
    rw [e]
    rfl
  rw [if_pos c2]
  exact wpAny_pure h
/-- the first is empty -/
theorem kind_one {M : Model} {vs : List Value} {fs : List (Option Value)} {Q : SortKind → Shared → Prop} (x : Firsts s.heap vs fs) (h0 : fs[0]? = some none) (h : Q oneType' s) : wpAny M A (keyKind' vs.toArray) Q E s := by
  rw [kat_kind_eq, List.mapM_toArray, map_eq_pure_bind]
  refine wpAny_bind (wpAny_bind (firsts_run vs fs x (wpAny_pure ?_)))
  have c : ¬ ((fs.toArray.all fun x => x.isSome) = true) := by
    intro q
    rw [List.all_toArray, List.all_eq_true] at q
    exact absurd (q none (List.mem_of_getElem? h0)) (by simp)
  rw [if_neg c]
  have e : fs.toArray[0]? = some none := by simpa using h0
  have c2 : ¬ ((fs.toArray[0]?.bind id).isSome) = true := by
    rw [e]
    simp
  rw [if_neg c2, oneTypeOnly'_eq, List.mapM_toArray, map_eq_pure_bind]
  refine wpAny_bind (wpAny_bind (wpAny_bind (kas_mapM (r := Value.type "tuple") _ (fun v hv Q' hq => (firsts_ty x v hv).here hq) (wpAny_pure ?_))))
  have all : ((List.map (fun _ => Value.type "tuple") vs).toArray.all fun x => x == Value.type "tuple") = true := by
    simp only [List.all_toArray, List.all_map, List.all_eq_true]
    intro _ _
    show (Value.type "tuple" == Value.type "tuple") = true
    decide
  obtain ⟨v, r, ev⟩ : ∃ v r, vs = v :: r := by
    cases x with
    | nil => simp at h0
    | cons _ _ _ _ => exact ⟨_, _, rfl⟩
  have z : (List.map (fun _ => Value.type "tuple") vs).toArray[0]? = some (Value.type "tuple") := by
    rw [ev]
    simp
  rw [z]
  simp only [all, if_true]
  exact wpAny_pure (wpAny_pure h)
/-- by the type's own < -/
theorem oneLt_tuples {xs ys : List PyData} {a b : Value} {as bs : List Addr} {Q : Bool → Shared → Prop} (ra : Reads s.heap a (.tuple xs) as) (rb : Reads s.heap b (.tuple ys) bs) (hal : alikeAll xs ys = true)
    (hu : A.units + min (PyData.tuple xs).depth (PyData.tuple ys).depth < cLine) (hq : Q (dataLt (.tuple xs) (.tuple ys)) s) : wpAny (model prog w) A (oneLt' true a b) Q E s := by
  cases ra with
  | @tuple l o vs n _ _ h1 h2 h3 h4 =>
    cases rb with
    | @tuple l' o' vs' n' _ _ k1 k2 k3 k4 =>
      have n1 : vs.size = xs.length := by simpa using SeqAt.ReadsAll.length _ _ _ h4
      have n2 : vs'.size = ys.length := by simpa using SeqAt.ReadsAll.length _ _ _ k4
      rw [dataLt_tuple, ← firstLt_toks xs ys hal, ← n1, ← n2] at hq
      rw [oneLt'_eq]
      simp only [if_true]
      refine wpAny_bind (wpAny_cRoomFor (SeqAt.room_here hu) ?_)
      obtain ⟨ocls, odict, odata, oslots⟩ := o
      obtain ⟨pcls, pdict, pdata, pslots⟩ := o'
      simp only at h2 h3 k2 k3
      subst h2 h3 k2 k3
      refine wpAny_bind (wpAny_callSpecialIfBound?_slot (T := "tuple") ⟨_, h1, rfl⟩ F.slot_tuple_lt (call_meets F.slot_tuple_lt ⟨_, h1, rfl⟩ F.entry_tuple_lt (F.args_tuple_lt_2 _ _)
        (SeqAt.tuple_ltAt l l' vs vs' n n' odict pdict oslots pslots (pairEq xs ys) (fun j => dataLt (xs.getD j .none) (ys.getD j .none))) ⟨h1, k1, fun j j1 j2 => ?_, fun j j1 j2 hj => ?_, ?_⟩))
      · have := eqAt_alikeAll xs ys A.in1 s vs.toList vs'.toList _ _ h4 k4 hal (SeqAt.room_in hu) j (by simpa using j1) (by simpa using j2)
        simpa using this
      · have := rcLt_alikeAll xs ys A.in1 s vs.toList vs'.toList _ _ h4 k4 hal (SeqAt.room_in hu) j (by simpa using j1) (by simpa using j2) hj
        simpa using this
      · exact wpAny_truthy_bool hq
theorem firsts_of {h : Heap} : ∀ {vs : List Value} {ds : List PyData}, EachIs (fun v d => ∃ as, Reads h v d as) vs ds → (∀ d ∈ ds, ∃ xs, d = .tuple xs) → ∃ fs, Firsts h vs fs ∧ ∀ i : Nat, fs[i]? = some none ↔ ds[i]? = some (.tuple [])
  | _, _, .nil, _ => ⟨[], .nil, fun i => by simp⟩
  | _, _, .cons (b := d) ⟨as, r⟩ t, ht => by
    obtain ⟨fs, h1, h2⟩ := firsts_of t fun d hd => ht d (List.mem_cons_of_mem _ hd)
    obtain ⟨xs, rfl⟩ := ht d List.mem_cons_self
    cases r with
    | @tuple a o vs n _ _ ho hc hd hr =>
      refine ⟨_, .cons ho hc hd h1, fun i => ?_⟩
      cases i with
      | succ i => simpa using h2 i
      | zero =>
        have hl := SeqAt.ReadsAll.length _ _ _ hr
        rw [Array.length_toList] at hl
        simp only [List.getElem?_cons_zero, Option.some.injEq]
        constructor
        · intro q
          have z : vs.size = 0 := by
            have := Array.getElem?_eq_none_iff.mp q
            omega
          rw [z] at hl
          rw [List.length_eq_zero_iff.mp hl.symm]
        · intro q
          injection q with q
          subst q
          rw [List.length_nil] at hl
          exact Array.getElem?_eq_none (by omega)
/-- tuples of alike data can be sorted, empty ones too -/
theorem SortsAt.tups {vs : List Value} {ds : List PyData} (e : EachIs (fun v d => ∃ as, Reads s.heap v d as) vs ds) (hal : AllAlike ds) (ht : ∀ d ∈ ds, ∃ xs, d = .tuple xs) (hu : ∀ d, d ∈ ds → A.units + d.depth < cLine) : SortsAt prog w A s (dataKind s.heap ds) vs := by
  by_cases full : ∀ d ∈ ds, ∃ x r, d = .tuple (x :: r)
  · exact SortsAt.data e hal (.inl full) hu
  have hollow : PyData.tuple [] ∈ ds := by
    refine Classical.byContradiction fun hn => full fun d hd => ?_
    obtain ⟨xs, rfl⟩ := ht d hd
    cases xs with
    | nil => exact absurd hd hn
    | cons x r => exact ⟨x, r, rfl⟩
  have room : ∀ {d d' : PyData}, d ∈ ds → A.units + min d.depth d'.depth < cLine := fun {d d'} hd => Nat.lt_of_le_of_lt (Nat.add_le_add_left (Nat.min_le_left _ _) _) (hu d hd)
  refine ⟨fun v hv => ?_, ?_⟩
  · obtain ⟨d, hd, as, r⟩ := e.left v hv
    exact ⟨_, dataKind_some hal hd r⟩
  obtain ⟨fs, f1, f2⟩ := firsts_of e ht
  obtain ⟨i0, hi0, ei0⟩ := List.getElem_of_mem hollow
  have hnone : none ∈ fs := List.mem_of_getElem? ((f2 i0).mpr (by rw [List.getElem?_eq_getElem hi0, ei0]))
  have side : ∀ {x y : Value} {a b : List (Int ⊕ List Nat)}, (dataKind s.heap ds).keyOf x = some a → (dataKind s.heap ds).keyOf y = some b →
      ∃ xs ys as bs, Reads s.heap x (.tuple xs) as ∧ Reads s.heap y (.tuple ys) bs ∧ alike (.tuple xs) (.tuple ys) = true ∧ a = keyToks (.tuple xs) ∧ b = keyToks (.tuple ys) ∧ A.units + min (PyData.tuple xs).depth (PyData.tuple ys).depth < cLine := by
    intro x y a b ha hb
    obtain ⟨d, as, hd, ra, rfl⟩ := dataKind_inv ha
    obtain ⟨d', bs, hd', rb, rfl⟩ := dataKind_inv hb
    obtain ⟨xs, rfl⟩ := ht d hd
    obtain ⟨ys, rfl⟩ := ht d' hd'
    exact ⟨xs, ys, as, bs, ra, rb, hal _ hd _ hd', rfl, rfl, room hd⟩
  cases hz : fs[0]? with
  | none =>
    have : fs = [] := by
      cases fs with
      | nil => rfl
      | cons f r => simp at hz
    rw [this] at hnone
    exact nomatch hnone
  | some f =>
    cases f with
    | some f =>
      refine ⟨general', fun E x y a b Q ha hb hq => ?_, fun _ E Q hq => kind_general f1 hz hnone hq⟩
      obtain ⟨xs, ys, as, bs, ra, rb, hh, rfl, rfl, hr⟩ := side ha hb
      show wpAny _ _ (oneLt' false x y) _ _ _
      exact oneLt_alike (fun z => absurd z Bool.false_ne_true) ra rb hh (fun z => nomatch z) hr hq
    | none =>
      refine ⟨oneType', fun E x y a b Q ha hb hq => ?_, fun _ E Q hq => kind_one f1 hz hq⟩
      obtain ⟨xs, ys, as, bs, ra, rb, hh, rfl, rfl, hr⟩ := side ha hb
      rw [keyLt'_oneType]
      exact oneLt_tuples ra rb (by simpa [alike] using hh) hr hq
end
end Rw
namespace Rw
open PySem PySem.Spec PyProof.Rows L2 PySem.Froz
/-! ### filling a set with tuples -/
structure GotN (ks : List (Addr × NK)) (i : Nat) (L : List (Addr × NK)) : Prop where
  sub : ∀ p ∈ L, p ∈ ks.take i
  all : ∀ p ∈ ks.take i, p.2 ∈ L.map (·.2)
  len : L.length ≤ i
theorem take_snoc {α : Type} {l : List α} {i : Nat} {x : α} (h : l[i]? = some x) : l.take (i + 1) = l.take i ++ [x] := by
  rw [List.take_succ, h]
  rfl
theorem GotN.next {ks L L' : List (Addr × NK)} {i : Nat} {x : Addr × NK} (g : GotN ks i L) (h : ks[i]? = some x) (c1 : x.2 ∈ L.map (·.2) → L' = L) (c2 : x.2 ∉ L.map (·.2) → L'.Perm (x :: L)) : GotN ks (i + 1) L' := by
  have ht := take_snoc h
  by_cases hm : x.2 ∈ L.map (·.2)
  · rw [c1 hm]
    refine ⟨fun p hp => ?_, fun p hp => ?_, Nat.le_succ_of_le g.len⟩
    · rw [ht]
      exact List.mem_append_left _ (g.sub p hp)
    · rw [ht] at hp
      rcases List.mem_append.mp hp with z | z
      · exact g.all p z
      · rw [List.mem_singleton.mp z]
        exact hm
  · have pm := c2 hm
    refine ⟨fun p hp => ?_, fun p hp => ?_, ?_⟩
    · rw [ht]
      rcases List.mem_cons.mp (pm.mem_iff.mp hp) with e | z
      · rw [e]
        exact List.mem_append_right _ (List.mem_singleton.mpr rfl)
      · exact List.mem_append_left _ (g.sub p z)
    · rw [(pm.map (·.2)).mem_iff, List.map_cons]
      rw [ht] at hp
      rcases List.mem_append.mp hp with z | z
      · exact List.mem_cons_of_mem _ (g.all p z)
      · rw [List.mem_singleton.mp z]
        exact List.mem_cons_self
    · rw [pm.length_eq, List.length_cons]
      exact Nat.succ_le_succ g.len
theorem led_new (w : World) : w.params.followText "set-order" = true ∨ (!w.params.followText "set-order") = true := by
  cases w.params.followText "set-order"
  · exact .inr rfl
  · exact .inl rfl
section
variable {P : Program} {w : World} {A : Around} {E : Value → Shared → Prop} {s : Shared}
theorem TSet.empty {h : Heap} {a : Addr} (ho : h.get? a = some (newSetObj w)) : TSet P w h a [] #[] 0 (.fresh 0 0 (!w.params.followText "set-order")) where
  ob := ⟨_, ho, ⟨rfl, rfl, rfl⟩, rfl⟩
  en := rfl
  tab := ⟨List.Pairwise.nil, rfl, rfl, .inl rfl, fun x hx => (by cases hx), fun i h j hi => (by simp [hashes] at hi)⟩
  nd := List.nodup_nil
  ks := fun p hp => (by cases hp)
  led := led_new w
  room := by
    show 0 * 5 < 7 * 3
    decide
  few := by
    show 0 < 64
    decide
theorem TSet.moved {h h' : Heap} {a : Addr} {L : List (Addr × NK)} {es : Array (Int × Value)} {ep : Nat} {t : SetTable} (R : TSet P w h a L es ep t) (ha : ∀ o, h.get? a = some o → h'.get? a = some o) (ht : ∀ p ∈ L, TupK h' p.2 p.1) : TSet P w h' a L es ep t := by
  obtain ⟨o, ho, r⟩ := R.ob
  exact ⟨⟨o, ha o ho, r⟩, R.en, R.tab, R.nd, ht, R.led, R.room, R.few⟩
theorem fill_tups (S : Addr) (h0 : Heap) (ks : List (Addr × NK)) (hk : ∀ p ∈ ks, TupK h0 p.2 p.1) (few : ks.length < 64) :
    Fill P w S h0 (ks.map fun p => Value.ref p.1) (fun i h => ∃ L es ep t, TSet P w h S L es ep t ∧ GotN ks i L) where
  start := fun h ho => ⟨[], #[], 0, _, TSet.empty ho, ⟨fun p hp => (by cases hp), fun p hp => (by simp at hp), Nat.le_refl _⟩⟩
  keep := fun i h h' ⟨L, es, ep, t, R, g⟩ ha hold => ⟨L, es, ep, t, R.moved ha fun p hp => (hk p (List.mem_of_mem_take (g.sub p hp))).kept hold, g⟩
  put := fun i v A E s Q hu hv ⟨L, es, ep, t, R, g⟩ hold hQ => by
    rw [List.getElem?_map] at hv
    cases hx : ks[i]? with
    | none => rw [hx] at hv; simp at hv
    | some x =>
      rw [hx] at hv
      obtain rfl : Value.ref x.1 = v := Option.some.inj hv
      have il : i < ks.length := (List.getElem?_eq_some_iff.mp hx).1
      have hxk := (hk x (List.mem_of_getElem? hx)).kept hold
      unfold setAdd
      refine wpAny_holding ?_
      refine wpAny_bind ((nestedKind P w).pyHash (k := x.2) (show A.units + 8 < cLine from hu) hxk ?_)
      refine added (s := { s with toks := s.toks + (nestedKind P w).draws x.2 }) R hxk hu (by have := g.len; omega) fun b h' L' es' ep' t' sb R' c1 c2 => ?_
      exact hQ b h' _ (Nat.le_add_right _ _) sb ⟨L', es', ep', t', R', g.next hx c1 c2⟩
/-! ### filling a set with texts -/
structure XSet (P : Program) (w : World) (h : Heap) (a : Addr) (ms : List Str) (es : Array (Int × Value)) (ep : Nat) (t : SetTable) : Prop where
  ob : h.get? a = some (sObj "set" (es, ep, t))
  ok : TxOk P w (es, ep, t) ms
  nd : ms.Nodup
  ris : Ris t.place.toList
  led : w.params.followText "set-order" = true ∨ t.led = true
theorem add_ris {g : Int} {v : Value} {D : SD} (h : Ris D.2.2.place.toList) : Ris (addTx g v D).2.2.place.toList ∧ (addTx g v D).2.2.led = D.2.2.led := by
  obtain ⟨es, ep, t⟩ := D
  have n1 := layNew_ris t es g v h
  have n2 := layNew_led t es g v
  unfold addTx tailTx
  dsimp only at n1 n2 ⊢
  generalize layNew t es g v = N at n1 n2 ⊢
  obtain ⟨es1, t1, wd, gv⟩ := N
  dsimp only at n1 n2 ⊢
  have m1 : Ris (if t1.plain = true then { t1 with plain := false } else t1).place.toList ∧ (if t1.plain = true then { t1 with plain := false } else t1).led = t.led := by
    split <;> exact ⟨n1, n2⟩
  generalize (if t1.plain = true then { t1 with plain := false } else t1) = t2 at m1 ⊢
  split
  · exact ⟨relayAll_ris t2 es1 _, (relayAll_led t2 es1 _).trans m1.2⟩
  · exact m1
theorem XSet.moved {h h' : Heap} {a : Addr} {ms : List Str} {es : Array (Int × Value)} {ep : Nat} {t : SetTable} (R : XSet P w h a ms es ep t) (ha : ∀ o, h.get? a = some o → h'.get? a = some o) : XSet P w h' a ms es ep t :=
  ⟨ha _ R.ob, R.ok, R.nd, R.ris, R.led⟩
/-- a text that is in the set is put in again -/
theorem again_in {a : Addr} {ms : List Str} {es : Array (Int × Value)} {ep : Nat} {t : SetTable} {k : Str} {u : Tok} {Q : Bool → Shared → Prop} (R : XSet P w s.heap a ms es ep t) (hk : k ∈ ms) (hb : ms.length < scanBound) (h : Q false s) :
    wpAny (model P w) A (setAddHashed a (.str k u) (hashStr w k)) Q E s := by
  have hel : ElemsOf (strKind P w) es.toList := R.ok.el
  have hsz : es.size = ms.length := R.ok.sz
  have hf : t.fits es.size = true := R.ok.fit
  have hd : (sObj "set" (es, ep, t)).data = .set es ep t := rfl
  have hkey : (strKind P w).is k (.str k u) = true := is_str k u
  obtain ⟨e, he, hp⟩ := (R.ok.mem k).mp hk
  unfold setAddHashed setAddHashedIn
  refine wpAny_holding (wpAny_bind (wpAny_setState_of R.ob hd hf ?_))
  dsimp only
  rw [byScan_of rfl (by omega) hel]
  simp only [↓reduceIte]
  unfold setAddByScan
  refine wpAny_bind (wpAny_bind (wpAny_rule (wpAny_bind (wpAny_setScan_of (knd := strKind P w) (k := k) hkey R.ob hd hf hel ?_))))
  cases hr : List.findIdx? (fun e => (strKind P w).is k e.2) es.toList with
  | none =>
    have z := List.findIdx?_eq_none_iff.mp hr e he
    rw [hp] at z
    exact nomatch z
  | some j =>
    dsimp only
    exact wpAny_pure (wpAny_pure h)
theorem put_text {a : Addr} {ms : List Str} {es : Array (Int × Value)} {ep : Nat} {t : SetTable} {k : Str} {u : Tok} {Q : Bool → Shared → Prop} (R : XSet P w s.heap a ms es ep t) (hb : ms.length + 1 < scanBound)
    (h : ∀ b h' ms' es' ep' t', Heap.SameBut a s.heap h' → XSet P w h' a ms' es' ep' t' → (∀ z, z ∈ ms' ↔ z = k ∨ z ∈ ms) → ms'.length ≤ ms.length + 1 → Q b { s with heap := h' }) :
    wpAny (model P w) A (setAddHashed a (.str k u) (hashStr w k)) Q E s := by
  by_cases hk : k ∈ ms
  · refine again_in R hk (by omega) (h false s.heap ms es ep t (Heap.SameBut.refl a s.heap) R (fun z => ⟨.inr, fun q => q.elim (fun e => e ▸ hk) id⟩) (Nat.le_succ _))
  · refine add_x R.ob R.ok hk hb ?_
    have sb : Heap.SameBut a s.heap (s.heap.update a (fun _ => sObj "set" (addTx (hashStr w k) (.str k u) (es, ep, t)))) := Heap.SameBut.update ..
    have ho : (s.heap.update a (fun _ => sObj "set" (addTx (hashStr w k) (.str k u) (es, ep, t)))).get? a = some (sObj "set" (addTx (hashStr w k) (.str k u) (es, ep, t))) := get_upd _ R.ob rfl
    have ok := add_ok u R.ok (k := k)
    have rl := add_ris (g := hashStr w k) (v := .str k u) (D := (es, ep, t)) R.ris
    generalize addTx (hashStr w k) (.str k u) (es, ep, t) = D at sb ho ok rl ⊢
    obtain ⟨es', ep', t'⟩ := D
    refine h true _ (k :: ms) es' ep' t' sb ⟨ho, ok, List.nodup_cons.mpr ⟨hk, R.nd⟩, rl.1, ?_⟩ (fun z => List.mem_cons) (Nat.le_refl _)
    have e : t'.led = t.led := rl.2
    rw [e]
    exact R.led
theorem fill_texts (S : Addr) (h0 : Heap) (zs : List Str) {vs : List Value} (hv : PySem.W.EachIs (fun v z => ∃ u, v = Value.str z u) vs zs) (few : zs.length + 1 < scanBound) :
    Fill P w S h0 vs (fun i h => ∃ ms es ep t, XSet P w h S ms es ep t ∧ (∀ z, z ∈ ms ↔ z ∈ zs.take i) ∧ ms.length ≤ i) where
  start := fun h ho => ⟨[], #[], 0, _, ⟨ho, TxOk.nil rfl, List.nodup_nil, List.Pairwise.nil, led_new w⟩, fun z => by simp, Nat.le_refl _⟩
  keep := fun i h h' ⟨ms, es, ep, t, R, g⟩ ha _ => ⟨ms, es, ep, t, R.moved ha, g⟩
  put := fun i v A E s Q hu hvi ⟨ms, es, ep, t, R, g, hl⟩ hold hQ => by
    have hlen := hv.length
    have il : i < vs.length := (List.getElem?_eq_some_iff.mp hvi).1
    have iz : i < zs.length := by omega
    have hz : zs[i]? = some zs[i] := List.getElem?_eq_getElem iz
    have pz : (v, zs[i]) ∈ vs.zip zs := List.mem_of_getElem? (i := i) (by rw [List.getElem?_zip_eq_some]; exact ⟨hvi, hz⟩)
    obtain ⟨u, rfl⟩ : ∃ u, v = Value.str zs[i] u := hv.zip _ pz
    unfold setAdd
    refine wpAny_holding ?_
    refine wpAny_bind ((strKind P w).pyHash (k := zs[i]) (is_str _ _) ?_)
    refine put_text (s := { s with toks := s.toks + 1 }) R (by omega) fun b h' ms' es' ep' t' sb R' hm hl' => ?_
    refine hQ b h' _ (Nat.le_succ _) sb ⟨ms', es', ep', t', R', fun z => ?_, by omega⟩
    rw [hm, take_snoc hz, List.mem_append, List.mem_singleton, g z]
    exact ⟨fun q => q.elim .inr .inl, fun q => q.elim .inr .inl⟩
/-! ### sorted of a set -/
theorem each_perm {α β : Type} {R : α → β → Prop} {l l' : List α} (p : l'.Perm l) : ∀ {bs : List β}, PySem.W.EachIs R l bs → ∃ bs', PySem.W.EachIs R l' bs' ∧ bs'.Perm bs := by
  induction p with
  | nil => exact fun {bs} e => ⟨bs, e, List.Perm.refl _⟩
  | cons x _ ih =>
    intro bs e
    cases e with
    | cons h t =>
      obtain ⟨bs', e', p'⟩ := ih t
      exact ⟨_ :: bs', .cons h e', p'.cons _⟩
  | swap x y l =>
    intro bs e
    cases e with
    | cons h t =>
      cases t with
      | cons h' t' => exact ⟨_, .cons h' (.cons h t'), List.Perm.swap _ _ _⟩
  | trans _ _ ih1 ih2 =>
    intro bs e
    obtain ⟨b1, e1, p1⟩ := ih2 e
    obtain ⟨b2, e2, p2⟩ := ih1 e1
    exact ⟨b2, e2, p2.trans p1⟩
open PySem.W in
theorem each_and {α β : Type} {R S : α → β → Prop} : ∀ {as : List α} {bs : List β}, EachIs R as bs → EachIs S as bs → EachIs (fun a b => R a b ∧ S a b) as bs
  | _, _, .nil, .nil => .nil
  | _, _, .cons h t, .cons h' t' => .cons ⟨h, h'⟩ (each_and t t')
open PySem.W in
/-- xs.sort(): the list's own object then holds the sorted values -/
theorem list_sorts {β : Type} {a : Addr} {n : Nat} {vs : List Value} {bs : List β} {enc : β → PyData} {R : Value → β → Prop} {Q : Value → Shared → Prop} (ho : s.heap.get? a = some (seqObj "list" vs.toArray n)) (e : EachIs R vs bs) (er : EachIs (fun v b => ∃ as, Reads s.heap v (enc b) as ∧ a ∉ as) vs bs) (hal : AllAlike (bs.map enc)) (hk : (∀ d ∈ bs.map enc, ∃ xs, d = .tuple xs) ∨ Sortable (bs.map enc)) (hL : bs.length ≤ sizeLine)
    (hu : ∀ b, b ∈ bs → A.units + 1 + (enc b).depth < cLine) (h : ∀ out, out.length = bs.length → EachIs R out (bs.mergeSort (dataLe false enc)) → Q .none { s with heap := sortedHeap s.heap a vs (List.toArray out) }) :
    wpAny (model P w) A (call (.builtin "list.sort") [.ref a]) Q E s := by
  have er' : EachIs (fun v b => ∃ as, Reads (sortingHeap s.heap a vs) v (enc b) as) vs bs := each_keepBut (h' := sortingHeap s.heap a vs) (fun _ _ hb q => sortingHeap_old hb q) (fun o q => by rw [ho] at q; rw [← Option.some.inj q]) hal er
  have em := each_map (R := fun v d => ∃ as, Reads (sortingHeap s.heap a vs) v d as) enc er'
  have can : SortsAt P w A.in1 { s with heap := sortingHeap s.heap a vs } (dataKind (sortingHeap s.heap a vs) (bs.map enc)) vs := by
    rcases hk with ht | hs
    · exact SortsAt.tups (s := { s with heap := sortingHeap s.heap a vs }) em hal ht (bound_map hu)
    · exact SortsAt.data (s := { s with heap := sortingHeap s.heap a vs }) em hal hs (bound_map hu)
  refine wpAny_call_entry slot_list_sort ⟨_, ho, rfl⟩ entry_list_sort (list_sort_vals (κ := dataKind (sortingHeap s.heap a vs) (bs.map enc)) ho can (by rw [e.length]; exact hL) ⟨.none, rfl, ?_⟩) (args_list_sort _)
  exact h _ (by rw [sortVals_length false rfl]; exact e.length) (sortVals_data false e er' hal)
open PySem.W in
theorem sort_facts {β : Type} (enc : β → PyData) (bs : List β) : (bs.mergeSort (dataLe false enc)).Perm bs ∧ (bs.mergeSort (dataLe false enc)).Pairwise (fun a b => dataLe false enc a b = true) :=
  ⟨List.mergeSort_perm _ _, sort_pairwise (sortLe_total (listOrd itemOrd) false fun b => keyToks (enc b)) bs⟩
open PySem.W in
theorem sorted_coll {β : Type} {a : Addr} {es : Array (Int × Value)} {ep : Nat} {t : SetTable} {bs : List β} {enc : β → PyData} {R : Value → β → Prop} {Q : Value → Shared → Prop} (hh : A.handled = none) (ha : SetAt s.heap a es ep t) (hf : t.fits es.size = true) (hsz : es.size < scanBound) (r : Ris t.place.toList)
    (hl : w.params.followText "set-order" = true ∨ t.led = true) (e : EachIs R (es.toList.map (·.2)) bs) (er : EachIs (fun v b => ∃ as, Reads s.heap v (enc b) as ∧ ∀ c ∈ as, c < s.heap.objs.size) (es.toList.map (·.2)) bs)
    (hal : AllAlike (bs.map enc)) (hk : (∀ d ∈ bs.map enc, ∃ xs, d = .tuple xs) ∨ Sortable (bs.map enc)) (hu : ∀ b, b ∈ bs → A.units + 3 + (enc b).depth < cLine)
    (hQ : ∀ s' p (out : Array Value) (c : Nat) (bs' : List β), (∀ b o, s.heap.get? b = some o → s'.heap.get? b = some o) → s'.gens = s.gens → s'.os = s.os → s.heap.objs.size ≤ p → s'.heap.get? p = some (seqObj "list" out c) →
      EachIs R out.toList bs' → bs'.Perm bs → bs'.Pairwise (fun a b => dataLe false enc a b = true) → Q (.ref p) s') :
    wpAny (model P w) A (call (.builtin "sorted") [.ref a]) Q E s := by
  refine Calls.call_function_entry kind_sorted plain_sorted entry_sorted (args_sorted1 _) ?_
  unfold Builtin.«sorted»
  refine wpAny_bind (m := checkCount "sorted" 1 1 _) (wpAny_pure ?_)
  refine wpAny_bind (collect_set (A := A.in1) hh ha hf hsz r hl fun s1 vs k1 hz g1 o1 pm => ?_)
  obtain ⟨bs1, e1, p1⟩ := each_perm pm (each_and e er)
  have lb : bs.length = es.size := by rw [← e.length, List.length_map, Array.length_toList]
  have lv : vs.length = bs1.length := e1.length
  have l1 : bs1.length = bs.length := p1.length_eq
  have sl : scanBound = 4096 := rfl
  refine wpAny_bind (wpAny_newList ?_ (by rw [sizeLine_eq]; omega))
  have hoL : (s1.heap.push (seqObj "list" vs.toArray 0)).get? s1.heap.objs.size = some (seqObj "list" vs.toArray 0) := Heap.get?_push_size _ rfl
  have mem1 : ∀ d, d ∈ bs1.map enc ↔ d ∈ bs.map enc := fun d => (p1.map enc).mem_iff
  refine wpAny_bind (wpAny_holding (list_sorts (s := { s1 with heap := s1.heap.push (seqObj "list" vs.toArray 0) }) (enc := enc) (R := R) hoL (e1.mono fun _ _ z => z.1)
    (e1.mono fun v b z => ?_) (fun d hd d' hd' => hal d ((mem1 d).mp hd) d' ((mem1 d').mp hd')) ?_ (by rw [sizeLine_eq]; omega) (fun b hb => ?_) fun out ho eo => ?_))
  · obtain ⟨_, as, rd, lo⟩ := z
    refine ⟨as, PyProof.Rows.Reads.keeps (fun c o q => Heap.get?_push_of_some _ (k1 c o q)) rd, fun hm => ?_⟩
    exact absurd (Nat.lt_of_lt_of_le (lo _ hm) hz) (Nat.lt_irrefl _)
  · rcases hk with ht | hs
    · exact .inl fun d hd => ht d ((mem1 d).mp hd)
    · rcases hs with h1 | h2
      · exact .inr (.inl fun d hd => h1 d ((mem1 d).mp hd))
      · exact .inr (.inr fun d hd => h2 d ((mem1 d).mp hd))
  · have := hu b (p1.mem_iff.mp hb)
    simp only [Around.in1_units]
    omega
  · obtain ⟨c, hc⟩ := sortedHeap_at (vs := vs) (out := out.toArray) hoL
    have sf := sort_facts enc bs1
    refine wpAny_pure ⟨_, rfl, hQ _ s1.heap.objs.size out.toArray c (bs1.mergeSort (dataLe false enc)) (fun b u q => ?_) g1 o1 hz hc (by simpa using eo) (sf.1.trans p1) sf.2⟩
    have q1 := k1 b u q
    have hlt := Heap.lt_size q1
    show (sortedHeap (s1.heap.push (seqObj "list" vs.toArray 0)) s1.heap.objs.size vs out.toArray).get? b = some u
    rw [sortedHeap_old (Nat.ne_of_lt hlt) (by rw [size_push']; exact Nat.lt_succ_of_lt hlt)]
    exact Heap.get?_push_of_some _ q1
end
end Rw
namespace Rw
open PySem PySem.Spec PyProof.Rows L2 PySem.Froz
/-! ### data made of texts, whole numbers, None and tuples -/
mutual
def okD : PyData → Bool
  | .none => true
  | .int _ => true
  | .str _ => true
  | .tuple xs => okDs xs
  | .bool _ => false
  | .list _ => false
  | .dict _ => false
def okDs : List PyData → Bool
  | [] => true
  | x :: xs => okD x && okDs xs
end
mutual
def toK : PyData → NK
  | .none => .none
  | .int i => .num i
  | .str x => .text x
  | .tuple xs => .tup (toKs xs)
  | .bool _ => .none
  | .list _ => .none
  | .dict _ => .none
def toKs : List PyData → List NK
  | [] => []
  | x :: xs => toK x :: toKs xs
end
theorem okDs_cons {x : PyData} {xs : List PyData} (h : okDs (x :: xs) = true) : okD x = true ∧ okDs xs = true := by
  rw [okDs, Bool.and_eq_true] at h
  exact h
mutual
theorem toK_data : ∀ d : PyData, okD d = true → (toK d).data = d
  | .none, _ => by simp [toK, NestedKey.data]
  | .int _, _ => by simp [toK, NestedKey.data]
  | .str _, _ => by simp [toK, NestedKey.data]
  | .tuple xs, h => by
    rw [okD] at h
    rw [toK, NestedKey.data, toKs_data xs h]
  | .bool _, h => by simp [okD] at h
  | .list _, h => by simp [okD] at h
  | .dict _, h => by simp [okD] at h
theorem toKs_data : ∀ ds : List PyData, okDs ds = true → NestedKey.datas (toKs ds) = ds
  | [], _ => by simp [toKs, NestedKey.datas]
  | x :: xs, h => by
    obtain ⟨h1, h2⟩ := okDs_cons h
    rw [toKs, NestedKey.datas, toK_data x h1, toKs_data xs h2]
end
theorem toK_inj {d e : PyData} (hd : okD d = true) (he : okD e = true) (h : toK d = toK e) : d = e := by
  rw [← toK_data d hd, ← toK_data e he, h]
mutual
theorem toK_depth : ∀ d : PyData, (toK d).depth ≤ d.depth
  | .none => by simp [toK, NestedKey.depth]
  | .int _ => by simp [toK, NestedKey.depth]
  | .str _ => by simp [toK, NestedKey.depth]
  | .tuple xs => by
    have z := toKs_depth xs
    rw [toK, NestedKey.depth, PyData.depth]
    omega
  | .bool _ => by simp [toK, NestedKey.depth]
  | .list _ => by simp [toK, NestedKey.depth]
  | .dict _ => by simp [toK, NestedKey.depth]
theorem toKs_depth : ∀ ds : List PyData, NestedKey.depthAll (toKs ds) ≤ PyData.depthAll ds
  | [] => by simp [toKs, NestedKey.depthAll]
  | x :: xs => by
    have z1 := toK_depth x
    have z2 := toKs_depth xs
    rw [toKs, NestedKey.depthAll, PyData.depthAll]
    omega
end
mutual
theorem isK_of : ∀ (d : PyData) (h : Heap) (v : Value) (as : List Addr), okD d = true → Reads h v d as → NestedIs h (toK d) v ∧ as = []
  | .none, _, _, _, _, r => by
    cases r
    exact ⟨.none, rfl⟩
  | .int _, _, _, _, _, r => by
    cases r
    exact ⟨.int _ _, rfl⟩
  | .str _, _, _, _, _, r => by
    cases r
    exact ⟨.text _ _, rfl⟩
  | .tuple xs, h, _, _, ok, r => by
    rw [okD] at ok
    cases r with
    | tuple h1 h2 h3 h4 =>
      obtain ⟨k, e⟩ := isKs_of xs h _ _ ok h4
      exact ⟨.tup h1 h2 h3 k, e⟩
  | .bool _, _, _, _, ok, _ => by simp [okD] at ok
  | .list _, _, _, _, ok, _ => by simp [okD] at ok
  | .dict _, _, _, _, ok, _ => by simp [okD] at ok
theorem isKs_of : ∀ (ds : List PyData) (h : Heap) (vs : List Value) (as : List Addr), okDs ds = true → ReadsAll h vs ds as → NestedAll h (toKs ds) vs ∧ as = []
  | [], _, _, _, _, r => by
    cases r
    exact ⟨.nil, rfl⟩
  | x :: xs, h, _, _, ok, r => by
    obtain ⟨o1, o2⟩ := okDs_cons ok
    cases r with
    | cons r1 r2 =>
      obtain ⟨k1, e1⟩ := isK_of x h _ _ o1 r1
      obtain ⟨k2, e2⟩ := isKs_of xs h _ _ o2 r2
      exact ⟨.cons k1 k2, by rw [e1, e2]; rfl⟩
end
/-- a tuple of such, not too deep -/
structure Good (d : PyData) : Prop where
  ok : okD d = true
  dp : d.depth ≤ 8
  tu : ∃ xs, d = .tuple xs
/-! ### what stays while tuples stay -/
def Stay (H H' : Hp) : Prop := ∀ b xs, Rd H b (.tup xs) → Rd H' b (.tup xs)
theorem Stay.refl (H : Hp) : Stay H H := fun _ _ h => h
theorem Stay.trans {H H1 H2 : Hp} (a : Stay H H1) (b : Stay H1 H2) : Stay H H2 := fun c xs h => b c xs (a c xs h)
theorem Stay.same {H H' : Hp} (h : Same H H') : Stay H H' := fun b xs r => by
  rcases r with r | ⟨o, r⟩
  · exact .inl (h _ _ r)
  · exact .inr ⟨o, h _ _ r⟩
theorem same_new {H : Hp} {p : Addr} (h : H p = none) (o : HO) : Same H (upd H p o) := fun b u q => by
  rw [upd_ne (ne_of_none q h)]
  exact q
theorem Stay.new {H : Hp} {p : Addr} (h : H p = none) (o : HO) : Stay H (upd H p o) := .same (same_new h o)
theorem Stay.put {H : Hp} {p : Addr} (h : Mut (H p)) (o : HO) : Stay H (upd H p o) := fun b xs r => by
  have ne : b ≠ p := fun z => by
    subst z
    rcases r with r | ⟨u, r⟩
    · rw [r] at h; exact h
    · rw [r] at h; exact h
  unfold Rd
  rw [upd_ne ne]
  exact r
theorem Stay.seq {K : PySem.W.Frag} {H H' : Hp} {a : Addr} {xs : List V} (e : Stay H H') (h : SqT K H a xs) : SqT K H' a xs := by
  rcases h with h | h
  · exact .inl (e _ _ h)
  · exact .inr h
theorem same_tup {K : PySem.W.Frag} {H H' : Hp} {a : Addr} {xs : List V} (e : Same H H') (h : SqT K H a xs) : SqT K H' a xs := (Stay.same e).seq h
section
variable {K : PySem.W.Frag} {H H' : Hp}
mutual
theorem Stay.dp (e : Stay H H') : ∀ (d : PyData) (x : V), okD d = true → Dp K H x d → Dp K H' x d
  | .none, _, _, h => by cases h; exact .non
  | .int _, _, _, h => by cases h; exact .int _
  | .str _, _, _, h => by cases h; exact .str _
  | .tuple ds, _, ok, h => by
    rw [okD] at ok
    cases h with
    | tup h1 h2 => exact .tup (e.seq h1) (Stay.dpAll e ds _ ok h2)
  | .bool _, _, ok, _ => by simp [okD] at ok
  | .list _, _, ok, _ => by simp [okD] at ok
  | .dict _, _, ok, _ => by simp [okD] at ok
theorem Stay.dpAll (e : Stay H H') : ∀ (ds : List PyData) (xs : List V), okDs ds = true → DpAll K H xs ds → DpAll K H' xs ds
  | [], _, _, h => by cases h; exact .nil
  | d :: ds, _, ok, h => by
    obtain ⟨o1, o2⟩ := okDs_cons ok
    cases h with
    | cons h1 h2 => exact .cons (Stay.dp e d _ o1 h1) (Stay.dpAll e ds _ o2 h2)
end
theorem okDs_all {ds : List PyData} (h : ∀ d ∈ ds, okD d = true) : okDs ds = true := by
  induction ds with
  | nil => rfl
  | cons d ds ih =>
    rw [okDs, h d List.mem_cons_self, ih fun e he => h e (List.mem_cons_of_mem _ he)]
    rfl
theorem dpAll_len : ∀ {xs : List V} {ds : List PyData}, DpAll K H xs ds → xs.length = ds.length
  | _, _, .nil => rfl
  | _, _, .cons _ t => by rw [List.length_cons, List.length_cons, dpAll_len t]
theorem dpAll_at : ∀ {xs : List V} {ds : List PyData} {i : Nat} {d : PyData}, DpAll K H xs ds → ds[i]? = some d → ∃ x, xs[i]? = some x ∧ Dp K H x d
  | _, _, _, _, .nil, e => by simp at e
  | _, _, 0, _, .cons h _, e => by
    simp at e
    subst e
    exact ⟨_, rfl, h⟩
  | _, _, i + 1, _, .cons _ t, e => by
    obtain ⟨x, h1, h2⟩ := dpAll_at (i := i) t (by simpa using e)
    exact ⟨x, by simpa using h1, h2⟩
theorem dpAll_at' : ∀ {xs : List V} {ds : List PyData} {i : Nat} {x : V}, DpAll K H xs ds → xs[i]? = some x → ∃ d, ds[i]? = some d ∧ Dp K H x d
  | _, _, _, _, .nil, e => by simp at e
  | _, _, 0, _, .cons h _, e => by
    simp at e
    subst e
    exact ⟨_, rfl, h⟩
  | _, _, i + 1, _, .cons _ t, e => by
    obtain ⟨x, h1, h2⟩ := dpAll_at' (i := i) t (by simpa using e)
    exact ⟨x, by simpa using h1, h2⟩
theorem dpAll_app : ∀ {xs ys : List V} {ds es : List PyData}, DpAll K H xs ds → DpAll K H ys es → DpAll K H (xs ++ ys) (ds ++ es)
  | _, _, _, _, .nil, h => h
  | _, _, _, _, .cons a t, h => .cons a (dpAll_app t h)
theorem Good.ref {x : V} {d : PyData} (g : Good d) (h : Dp K H x d) : ∃ a, x = .ref a := by
  obtain ⟨xs, rfl⟩ := g.tu
  cases h with
  | tup _ _ => exact ⟨_, rfl⟩
end
/-! ### the rules over the abstract heap -/
def tk (L : List (Addr × PyData)) : List (Addr × NK) := L.map fun p => (p.1, toK p.2)
/-- the set of tuples at a, without the tuples -/
def TSetO (w : World) (a : Addr) (L : List (Addr × PyData)) : HO := .ext fun h => ∃ (es : Array (Int × Value)) (ep : Nat) (t : SetTable), (∃ o, h.get? a = some o ∧ o.ExactSet ∧ o.data = .set es ep t) ∧ es.toList = ents w (tk L) ∧ TabOk t (hashes w (tk L)) ∧ ((tk L).map (·.2)).Nodup ∧
  (w.params.followText "set-order" = true ∨ t.led = true) ∧ (tk L).length * 5 < t.mask * 3 ∧ (tk L).length < 64
def XSetO (P : Program) (w : World) (a : Addr) (ms : List Str) : HO := .ext fun h => ∃ (es : Array (Int × Value)) (ep : Nat) (t : SetTable), XSet P w h a ms es ep t
section
variable {X : Cx} {pins : List (Addr × Obj)} {σ : L2.St} {H : Hp} {s : Shared}
theorem key_at (I : Inv X pins σ H s) {a : Addr} {d : PyData} (h : Dp X.K H (.ref a) d) (g : Good d) : TupK s.heap (toK d) a := by
  obtain ⟨as, r⟩ := Dp.reads I d (.ref a) (.ref a) h rfl
  exact ⟨(isK_of d s.heap _ as g.ok r).1, Nat.le_trans (toK_depth d) g.dp⟩
theorem refs_of (g : ∀ d ∈ ds, Good d) {K : PySem.W.Frag} {H : Hp} : ∀ {xs : List V}, DpAll K H xs ds → ∃ L : List (Addr × PyData), xs = L.map (fun p => V.ref p.1) ∧ ds = L.map (·.2) ∧ ∀ p ∈ L, Dp K H (.ref p.1) p.2 := by
  induction ds with
  | nil =>
    intro xs h
    cases h
    exact ⟨[], rfl, rfl, fun p hp => nomatch hp⟩
  | cons d ds ih =>
    intro xs h
    cases h with
    | cons h1 h2 =>
      obtain ⟨L, e1, e2, e3⟩ := ih (fun e he => g e (List.mem_cons_of_mem _ he)) h2
      obtain ⟨a, rfl⟩ := (g d List.mem_cons_self).ref h1
      refine ⟨(a, d) :: L, by rw [e1]; rfl, by rw [e2]; rfl, fun p hp => ?_⟩
      rcases List.mem_cons.mp hp with e | hp
      · rw [e]
        exact h1
      · exact e3 p hp
theorem vals_refs : ∀ {L : List (Addr × PyData)} {us : List Value}, Vals (L.map fun p => V.ref p.1) us → us = (tk L).map fun p => Value.ref p.1
  | [], _, .nil => rfl
  | p :: L, _, .cons r t => by
    cases r
    rw [vals_refs t]
    rfl
/-- set(xs), xs a list or a tuple of tuples -/
def rSetT (K : PySem.W.Frag) (w : World) : List V → Hp → VK → Prop := fun vs H Q => ∃ (l : Addr) (xs : List V) (ds : List PyData), vs = [V.ref l] ∧ (SqL K H l xs ∨ SqT K H l xs) ∧ DpAll K H xs ds ∧ (∀ d ∈ ds, Good d) ∧ ds.length < 64 ∧
  ∀ a L, H a = none → (∀ p ∈ L, p.2 ∈ ds ∧ Dp K H (.ref p.1) p.2) → (∀ d ∈ ds, d ∈ L.map (·.2)) → Q (.ref a) (upd H a (TSetO w a L))
theorem cr_setT (hc : X.calm = true) (hu : X.A.units + 64 < cLine) : CallR X (.type "set") (rSetT X.K X.w) := by
  intro pins s σ H vs us Q I r h
  obtain ⟨l, xs, ds, rfl, hl, hd, hg, hf, q⟩ := h
  obtain ⟨L0, rfl, rfl, hL0⟩ := refs_of hg hd
  rw [Vals.ref1 r]
  have hn : H s.heap.objs.size = none := I.hok.fresh (Nat.le_refl _)
  have hk0 : ∀ p ∈ tk L0, TupK s.heap p.2 p.1 := fun p hp => by
    obtain ⟨z, hz, rfl⟩ := List.mem_map.mp hp
    exact key_at I (hL0 z hz) (hg z.2 (List.mem_map.mpr ⟨z, hz, rfl⟩))
  have few : (tk L0).length < 64 := by
    unfold tk
    rw [List.length_map]
    rw [List.length_map] at hf
    exact hf
  have T := fill_tups (P := X.prog) (w := X.w) s.heap.objs.size s.heap (tk L0) hk0 few
  have fin : ∀ (n : Nat), n = (tk L0).length → ∀ (h' : Heap) (tk' : Nat), (∃ L es ep t, TSet X.prog X.w h' s.heap.objs.size L es ep t ∧ GotN (tk L0) n L) → (∀ b o, s.heap.get? b = some o → h'.get? b = some o) → EP X pins σ Q (.ref s.heap.objs.size) { s with heap := h', toks := tk' } := by
    intro n en h' tk' ⟨L, es, ep, t, R, g⟩ k
    subst en
    have back : ∀ M : List (Addr × NK), (∀ p ∈ M, p ∈ tk L0) → ∃ M0 : List (Addr × PyData), M = tk M0 ∧ ∀ p ∈ M0, p ∈ L0 := by
      intro M
      induction M with
      | nil => exact fun _ => ⟨[], rfl, fun p hp => nomatch hp⟩
      | cons m M ih =>
        intro hm
        obtain ⟨M0, e, h0⟩ := ih fun p hp => hm p (List.mem_cons_of_mem _ hp)
        obtain ⟨z, hz, ez⟩ := List.mem_map.mp (hm m List.mem_cons_self)
        refine ⟨z :: M0, by rw [e, ← ez]; rfl, fun p hp => ?_⟩
        rcases List.mem_cons.mp hp with e' | hp
        · rw [e']
          exact hz
        · exact h0 p hp
    obtain ⟨M, rfl, hM⟩ := back L fun p hp => List.mem_of_mem_take (g.sub p hp)
    have new : ObjOk X.prog X.w (upd H s.heap.objs.size (TSetO X.w s.heap.objs.size M)) h' s.heap.objs.size (TSetO X.w s.heap.objs.size M) := by
      obtain ⟨o, ho, ho2⟩ := R.ob
      refine ⟨⟨es, ep, t, ⟨o, ho, ho2⟩, R.en, R.tab, R.nd, R.led, R.room, R.few⟩, ⟨o, ho⟩, fun h1 h2 ⟨es', ep', t', ⟨o', e1, e2⟩, z⟩ kk => ⟨es', ep', t', ⟨o', kk o' e1, e2⟩, z⟩⟩
    refine ⟨.ref s.heap.objs.size, upd H s.heap.objs.size (TSetO X.w s.heap.objs.size M), I.laid (t' := tk') k (Nat.le_refl _) new, rfl, q _ M hn (fun p hp => ⟨List.mem_map.mpr ⟨p, hM p hp, rfl⟩, hL0 p (hM p hp)⟩) fun d hd => ?_⟩
    obtain ⟨z, hz, rfl⟩ := List.mem_map.mp hd
    have := g.all (z.1, toK z.2) (by rw [List.take_length]; exact List.mem_map.mpr ⟨z, hz, rfl⟩)
    obtain ⟨y, hy, ey⟩ := List.mem_map.mp this
    obtain ⟨y0, hy0, e0⟩ := List.mem_map.mp hy
    have e3 : toK y0.2 = toK z.2 := by
      have e := ey
      rw [← e0] at e
      exact e
    have e4 : y0.2 = z.2 := toK_inj (hg _ (List.mem_map.mpr ⟨y0, hM y0 hy0, rfl⟩)).ok (hg _ (List.mem_map.mpr ⟨z, hz, rfl⟩)).ok e3
    exact List.mem_map.mpr ⟨y0, hy0, e4⟩
  have vlen : ∀ {its : List Value}, its = (tk L0).map (fun p => Value.ref p.1) → its.toArray.size = (tk L0).length := fun e => by
    rw [e, List.size_toArray, List.length_map]
  rcases hl with hl | hl
  · obtain ⟨its, rv, pl, hz⟩ := I.list hl
    have ev := vals_refs rv
    exact call_fill_list (I.ok.hd hc) pl.isList (by rw [show its.toArray.toList = its by simp, ev]; exact T) (by omega) fun h' tk' G k => fin _ (vlen ev) h' tk' G k
  · obtain ⟨its, rv, pl, hz⟩ := I.tuple hl
    have ev := vals_refs rv
    obtain ⟨o, e1, e2, n, e3⟩ := pl
    exact call_fill_tuple (I.ok.hd hc) ⟨o, e1, e2, n, e3⟩ (by rw [show its.toArray.toList = its by simp, ev]; exact T) (by omega) fun h' tk' G k => fin _ (vlen ev) h' tk' G k
theorem tset_get (I : Inv X pins σ H s) {a : Addr} {L : List (Addr × PyData)} (ha : H a = some (TSetO X.w a L)) (hL : ∀ p ∈ L, Good p.2 ∧ Dp X.K H (.ref p.1) p.2) : ∃ es ep t, TSet X.prog X.w s.heap a (tk L) es ep t := by
  obtain ⟨es, ep, t, h1, h2, h3, h4, h5, h6, h7⟩ := (I.hok a _ ha).1
  refine ⟨es, ep, t, h1, h2, h3, h4, fun p hp => ?_, h5, h6, h7⟩
  obtain ⟨z, hz, rfl⟩ := List.mem_map.mp hp
  exact key_at I (hL z hz).2 (hL z hz).1
open PySem.W in
/-- values that stand for data, as values of the layer -/
theorem each_vals {K : PySem.W.Frag} {H : Hp} : ∀ {us : List Value} {ds : List PyData}, EachIs (fun u d => ∃ x, RelV x u ∧ Dp K H x d) us ds → ∃ ys, Vals ys us ∧ DpAll K H ys ds
  | _, _, .nil => ⟨[], .nil, .nil⟩
  | _, _, .cons ⟨x, r, h⟩ t => by
    obtain ⟨ys, v, h'⟩ := each_vals t
    exact ⟨x :: ys, .cons r v, .cons h h'⟩
open PySem.W in
theorem each_map' {α γ δ : Type} {R : γ → δ → Prop} (f : α → γ) (g : α → δ) : ∀ {l : List α}, (∀ a ∈ l, R (f a) (g a)) → EachIs R (l.map f) (l.map g)
  | [], _ => .nil
  | a :: l, h => .cons (h a List.mem_cons_self) (each_map' f g fun b hb => h b (List.mem_cons_of_mem _ hb))
/-- in rising order, as Python's < says -/
abbrev Rising (ds : List PyData) : Prop := ds.Pairwise fun a b => PySem.W.dataLe false id a b = true
/-- sorted(a set of tuples) -/
def rSortT (K : PySem.W.Frag) (w : World) : List V → Hp → VK → Prop := fun vs H Q => ∃ (a : Addr) (L : List (Addr × PyData)), vs = [V.ref a] ∧ H a = some (TSetO w a L) ∧ (∀ p ∈ L, Good p.2 ∧ Dp K H (.ref p.1) p.2) ∧ PySem.W.AllAlike (L.map (·.2)) ∧
  ∀ (ys : List V) (ds : List PyData) (p : Addr), ds.Perm (L.map (·.2)) → ds.Nodup → ds.length < 64 → Rising ds → DpAll K H ys ds → H p = none → Q (.ref p) (upd H p (.lst ys))
theorem cr_sortT (hc : X.calm = true) (hu : X.A.units + 64 < cLine) : CallR X (.builtin "sorted") (rSortT X.K X.w) := by
  intro pins s σ H vs us Q I r h
  obtain ⟨a, L, rfl, ha, hL, hal, q⟩ := h
  obtain ⟨es, ep, t, R⟩ := tset_get I ha hL
  rw [Vals.ref1 r]
  obtain ⟨o, ho, hex, hd⟩ := R.ob
  have hvals : es.toList.map (·.2) = L.map fun p => Value.ref p.1 := by
    rw [R.en]
    unfold ents tk
    rw [List.map_map, List.map_map]
    rfl
  have few : L.length < 64 := by
    have := R.few
    unfold tk at this
    rw [List.length_map] at this
    exact this
  have e1 : PySem.W.EachIs (fun u d => ∃ x, RelV x u ∧ Dp X.K H x d) (es.toList.map (·.2)) (L.map (·.2)) := by
    rw [hvals]
    exact each_map' _ _ fun p hp => ⟨.ref p.1, rfl, (hL p hp).2⟩
  have e2 : PySem.W.EachIs (fun v d => ∃ as, Reads s.heap v (id d) as ∧ ∀ c ∈ as, c < s.heap.objs.size) (es.toList.map (·.2)) (L.map (·.2)) := by
    rw [hvals]
    refine each_map' _ _ fun p hp => ?_
    obtain ⟨as, rd⟩ := Dp.reads I p.2 (.ref p.1) (.ref p.1) (hL p hp).2 rfl
    refine ⟨as, rd, ?_⟩
    rw [(isK_of p.2 s.heap _ as (hL p hp).1.ok rd).2]
    exact fun c hc => nomatch hc
  have hm : ∀ d ∈ (L.map (·.2)).map id, Good d := fun d hd => by
    rw [List.map_id] at hd
    obtain ⟨p, hp, rfl⟩ := List.mem_map.mp hd
    exact (hL p hp).1
  refine sorted_coll (enc := id) (I.ok.hd hc) ⟨o, ho, hex.1, hd⟩ R.fits (by have := size_of_ents R.en; unfold tk at this; rw [List.length_map] at this; unfold scanBound; omega) R.tab.ris R.led e1 e2 (by rw [List.map_id]; exact hal) (.inl fun d hd => (hm d hd).tu) (fun d hd => ?_) fun s' p out c ds k g os hp hg ho' pm sr => ?_
  · have z := (hm d (by rw [List.map_id]; exact hd)).dp
    show X.A.units + 3 + d.depth < cLine
    omega
  · obtain ⟨ys, hv, hd'⟩ := each_vals ho'
    have hn : H p = none := I.hok.fresh hp
    have hl : ds.length = L.length := by rw [pm.length_eq, List.length_map]
    have hlen : ys.length ≤ sizeLine := by
      rw [dpAll_len hd', sizeLine_eq]
      omega
    have nd : ds.Nodup := by
      refine pm.nodup_iff.mpr ?_
      have z := R.nd
      unfold tk at z
      rw [List.map_map] at z
      have z' : (L.map fun p => toK p.2).Nodup := z
      have y : ((L.map (·.2)).map toK).Nodup := by
        rw [List.map_map]
        exact z'
      exact nodup_of_map y
    have J : Inv X pins σ (upd H p (.lst ys)) { s with heap := s'.heap, gens := s'.gens, drawn := s'.drawn, toks := s'.toks } :=
      I.call (ch := []) (Un.laid k hp hn) (I.hok.laid k hp ⟨hlen, out.toList, c, hv, hg⟩) (by rw [g]; exact I.bare) (fun _ z => nomatch z)
    have e : s' = { s with heap := s'.heap, gens := s'.gens, drawn := s'.drawn, toks := s'.toks } := by
      cases s'
      cases s
      cases os
      rfl
    rw [e]
    exact ⟨.ref p, _, J, rfl, q ys ds p pm nd (by omega) sr hd' hn⟩
/-- set(xs), xs a list or a tuple of texts -/
def rSetX (K : PySem.W.Frag) (P : Program) (w : World) : List V → Hp → VK → Prop := fun vs H Q => ∃ (l : Addr) (zs : List Str), vs = [V.ref l] ∧ (SqL K H l (zs.map V.str) ∨ SqT K H l (zs.map V.str)) ∧ zs.length < 1000 ∧
  ∀ a ms, H a = none → ms.Nodup → (∀ z, z ∈ ms ↔ z ∈ zs) → ms.length ≤ zs.length → Q (.ref a) (upd H a (XSetO P w a ms))
theorem vals_texts : ∀ {zs : List Str} {us : List Value}, Vals (zs.map V.str) us → PySem.W.EachIs (fun v z => ∃ u, v = Value.str z u) us zs
  | [], _, .nil => .nil
  | _ :: _, _, .cons r t => .cons r (vals_texts t)
theorem texts_vals {zs : List Str} {us : List Value} (h : PySem.W.EachIs (fun v z => ∃ u, v = Value.str z u) us zs) : Vals (zs.map V.str) us := by
  induction h with
  | nil => exact .nil
  | cons h _ ih => exact .cons h ih
theorem cr_setX (hc : X.calm = true) (hu : X.A.units + 64 < cLine) : CallR X (.type "set") (rSetX X.K X.prog X.w) := by
  intro pins s σ H vs us Q I r h
  obtain ⟨l, zs, rfl, hl, few, q⟩ := h
  rw [Vals.ref1 r]
  have hn : H s.heap.objs.size = none := I.hok.fresh (Nat.le_refl _)
  have fin : ∀ (n : Nat), n = zs.length → ∀ (h' : Heap) (tk' : Nat), (∃ ms es ep t, XSet X.prog X.w h' s.heap.objs.size ms es ep t ∧ (∀ z, z ∈ ms ↔ z ∈ zs.take n) ∧ ms.length ≤ n) → (∀ b o, s.heap.get? b = some o → h'.get? b = some o) → EP X pins σ Q (.ref s.heap.objs.size) { s with heap := h', toks := tk' } := by
    intro n en h' tk' ⟨ms, es, ep, t, R, g, hl⟩ k
    subst en
    have new : ObjOk X.prog X.w (upd H s.heap.objs.size (XSetO X.prog X.w s.heap.objs.size ms)) h' s.heap.objs.size (XSetO X.prog X.w s.heap.objs.size ms) :=
      ⟨⟨es, ep, t, R⟩, ⟨_, R.ob⟩, fun h1 h2 ⟨es', ep', t', R'⟩ kk => ⟨es', ep', t', R'.moved kk⟩⟩
    exact ⟨.ref s.heap.objs.size, _, I.laid (t' := tk') k (Nat.le_refl _) new, rfl, q _ ms hn R.nd (fun z => by rw [g z, List.take_length]) hl⟩
  have sb : scanBound = 4096 := rfl
  rcases hl with hl | hl
  · obtain ⟨its, rv, pl, hz⟩ := I.list hl
    have ev := vals_texts rv
    have T := fill_texts (P := X.prog) (w := X.w) s.heap.objs.size s.heap zs ev (by omega)
    exact call_fill_list (I.ok.hd hc) pl.isList (by rw [show its.toArray.toList = its by simp]; exact T) (by omega) fun h' tk' G k => fin its.toArray.size (by rw [List.size_toArray]; exact ev.length) h' tk' G k
  · obtain ⟨its, rv, pl, hz⟩ := I.tuple hl
    have ev := vals_texts rv
    have T := fill_texts (P := X.prog) (w := X.w) s.heap.objs.size s.heap zs ev (by omega)
    obtain ⟨o, e1, e2, n, e3⟩ := pl
    exact call_fill_tuple (I.ok.hd hc) ⟨o, e1, e2, n, e3⟩ (by rw [show its.toArray.toList = its by simp]; exact T) (by omega) fun h' tk' G k => fin its.toArray.size (by rw [List.size_toArray]; exact ev.length) h' tk' G k
abbrev RisingX (zs : List Str) : Prop := zs.Pairwise fun a b => decide (a.cps.toList ≤ b.cps.toList) = true
open PySem.W in
theorem each_iff {es : List (Int × Value)} : ∀ {ms : List Str}, (∀ e ∈ es, ∃ k u, e.2 = Value.str k u) → ∃ zs, EachIs (fun v z => ∃ u, v = Value.str z u) (es.map (·.2)) zs := by
  induction es with
  | nil => exact fun _ => ⟨[], .nil⟩
  | cons e es ih =>
    intro ms h
    obtain ⟨k, u, ek⟩ := h e List.mem_cons_self
    obtain ⟨zs, hz⟩ := ih (ms := ms) fun e' he => h e' (List.mem_cons_of_mem _ he)
    exact ⟨k :: zs, .cons ⟨u, ek⟩ hz⟩
/-- sorted(a set of texts) -/
def rSortX (P : Program) (w : World) : List V → Hp → VK → Prop := fun vs H Q => ∃ (a : Addr) (ms : List Str), vs = [V.ref a] ∧ H a = some (XSetO P w a ms) ∧ ms.length < 1000 ∧
  ∀ (zs : List Str) (p : Addr), (∀ z, z ∈ zs ↔ z ∈ ms) → zs.Nodup → zs.length ≤ ms.length → RisingX zs → H p = none → Q (.ref p) (upd H p (.lst (zs.map V.str)))
theorem nodup_len_le : ∀ {l m : List Str}, l.Nodup → (∀ z ∈ l, z ∈ m) → l.length ≤ m.length
  | [], _, _, _ => Nat.zero_le _
  | x :: l, m, hn, hs => by
    obtain ⟨h1, h2⟩ := List.nodup_cons.mp hn
    have hx : x ∈ m := hs x List.mem_cons_self
    have ih := nodup_len_le (l := l) (m := m.erase x) h2 fun y hy => (List.mem_erase_of_ne (show y ≠ x from fun e => h1 (by rw [← e]; exact hy))).2 (hs y (List.mem_cons_of_mem _ hy))
    rw [List.length_erase_of_mem hx] at ih
    have := List.length_pos_of_mem hx
    rw [List.length_cons]
    omega
theorem nodup_of_len : ∀ {l m : List Str}, m.Nodup → (∀ z ∈ m, z ∈ l) → l.length ≤ m.length → l.Nodup
  | [], _, _, _, _ => List.nodup_nil
  | x :: l, m, hm, hs, hl => by
    have hxl : x ∉ l := fun hx => by
      have z := nodup_len_le (l := m) (m := l) hm fun z hz => (List.mem_cons.mp (hs z hz)).elim (fun e => by rw [e]; exact hx) id
      rw [List.length_cons] at hl
      omega
    refine List.nodup_cons.mpr ⟨hxl, nodup_of_len (m := m.erase x) (hm.erase x) (fun z hz => ?_) ?_⟩
    · have hz' := List.mem_of_mem_erase hz
      rcases List.mem_cons.mp (hs z hz') with e | h
      · rw [e] at hz
        exact absurd hz (List.Nodup.not_mem_erase hm)
      · exact h
    · by_cases hx : x ∈ m
      · rw [List.length_erase_of_mem hx]
        rw [List.length_cons] at hl
        omega
      · rw [List.erase_of_not_mem hx]
        rw [List.length_cons] at hl
        omega
theorem cr_sortX (hc : X.calm = true) (hu : X.A.units + 64 < cLine) : CallR X (.builtin "sorted") (rSortX X.prog X.w) := by
  intro pins s σ H vs us Q I r h
  obtain ⟨a, ms, rfl, ha, hlt, q⟩ := h
  obtain ⟨es, ep, t, R⟩ := (I.hok a _ ha).1
  rw [Vals.ref1 r]
  have hel := R.ok.el
  have hsz : es.size = ms.length := R.ok.sz
  obtain ⟨zs, hz⟩ := each_iff (es := es.toList) (ms := ms) fun e he => by
    obtain ⟨⟨k, hk, _⟩, _⟩ := hel e he
    obtain ⟨u, hu⟩ := Value.isStrOf_shape (x := k) (v := e.2) hk
    exact ⟨k, u, hu⟩
  have e1 : PySem.W.EachIs (fun u z => RelV (.str z) u) (es.toList.map (·.2)) zs := hz
  have e2 : PySem.W.EachIs (fun v z => ∃ as, Reads s.heap v (PyData.str z) as ∧ ∀ c ∈ as, c < s.heap.objs.size) (es.toList.map (·.2)) zs := hz.mono fun v z ⟨u, e⟩ => ⟨[], by rw [e]; exact .str z u, fun c hc => nomatch hc⟩
  have mem : ∀ z, z ∈ zs ↔ z ∈ ms := fun z => by
    rw [R.ok.mem z]
    constructor
    · intro hm
      obtain ⟨i, hi, ei⟩ := List.getElem_of_mem hm
      have hi2 : i < (es.toList.map (·.2)).length := by rw [hz.length]; exact hi
      have pz : ((es.toList.map (·.2))[i], zs[i]) ∈ (es.toList.map (·.2)).zip zs := List.mem_of_getElem? (i := i) (by rw [List.getElem?_zip_eq_some]; exact ⟨List.getElem?_eq_getElem hi2, List.getElem?_eq_getElem hi⟩)
      obtain ⟨u, hu⟩ := hz.zip _ pz
      have hin := List.getElem_mem hi2
      rw [show (es.toList.map (·.2))[i] = Value.str zs[i] u from hu, ei] at hin
      obtain ⟨e, he, ee⟩ := List.mem_map.mp hin
      exact ⟨e, he, by rw [ee]; exact is_str z u⟩
    · rintro ⟨e, he, hk⟩
      obtain ⟨z', hz', u, hu⟩ := hz.left e.2 (List.mem_map.mpr ⟨e, he, rfl⟩)
      rw [hu] at hk
      have : z = z' := (strKind X.prog X.w).inj (.str z' u) z z' hk (is_str z' u)
      rw [this]
      exact hz'
  have zl : zs.length = ms.length := by rw [← hz.length, List.length_map, Array.length_toList, hsz]
  refine sorted_coll (enc := fun z : Str => PyData.str z) (I.ok.hd hc) ⟨_, R.ob, rfl, rfl⟩ R.ok.fit (by show es.size < scanBound; unfold scanBound; omega) R.ris R.led e1 e2 (PySem.W.AllAlike.of fun b b' => by simp [PySem.W.alike]) (.inr (PySem.W.Sortable.others fun b => ⟨(fun z => nomatch z), (fun xs z => nomatch z)⟩)) (fun d hd => ?_) fun s' p out c zs' k g os hp hg ho' pm sr => ?_
  · show X.A.units + 3 + (PyData.str d).depth < cLine
    simp only [PyData.depth]
    omega
  · have hn : H p = none := I.hok.fresh hp
    have hv : Vals (zs'.map V.str) out.toList := texts_vals ho'
    have hl : zs'.length = ms.length := by rw [pm.length_eq, zl]
    have hlen : (zs'.map V.str).length ≤ sizeLine := by
      rw [List.length_map, sizeLine_eq]
      omega
    have J : Inv X pins σ (upd H p (.lst (zs'.map V.str))) { s with heap := s'.heap, gens := s'.gens, drawn := s'.drawn, toks := s'.toks } :=
      I.call (ch := []) (Un.laid k hp hn) (I.hok.laid k hp ⟨hlen, out.toList, c, hv, hg⟩) (by rw [g]; exact I.bare) (fun _ z => nomatch z)
    have e : s' = { s with heap := s'.heap, gens := s'.gens, drawn := s'.drawn, toks := s'.toks } := by
      cases s'
      cases s
      cases os
      rfl
    rw [e]
    rw [PySem.W.dataLe_str fun z : Str => z] at sr
    have mem' : ∀ z, z ∈ zs' ↔ z ∈ ms := fun z => by rw [pm.mem_iff]; exact mem z
    exact ⟨.ref p, _, J, rfl, q zs' p mem' (nodup_of_len R.nd (fun z hz => (mem' z).mpr hz) (Nat.le_of_eq hl)) (Nat.le_of_eq hl) sr hn⟩
/-- sorted(a list of tuples) -/
def rSortL (K : PySem.W.Frag) : List V → Hp → VK → Prop := fun vs H Q => ∃ (a : Addr) (xs : List V) (ds : List PyData), vs = [V.ref a] ∧ SqL K H a xs ∧ DpAll K H xs ds ∧ (∀ d ∈ ds, Good d) ∧ PySem.W.AllAlike ds ∧
  ∀ (ys : List V) (es : List PyData) (p : Addr), es.Perm ds → Rising es → DpAll K H ys es → H p = none → Q (.ref p) (upd H p (.lst ys))
theorem cr_sortL (hu : X.A.units + 64 < cLine) : CallR X (.builtin "sorted") (rSortL X.K) := by
  intro pins s σ H vs us Q I r h
  obtain ⟨a, xs, ds, rfl, ha, hd, hg, hal, q⟩ := h
  rw [Vals.ref1 r]
  obtain ⟨its, rv, pl, hz⟩ := I.list ha
  have both : ∀ {xs : List V} {ds : List PyData} {its : List Value}, Vals xs its → DpAll X.K H xs ds → (∀ d ∈ ds, Good d) → PySem.W.EachIs (fun u d => (∃ x, RelV x u ∧ Dp X.K H x d) ∧ ∃ as, Reads s.heap u (id d) as) its ds := by
    intro xs ds its rv
    induction rv generalizing ds with
    | nil =>
      intro hd _
      cases hd
      exact .nil
    | cons r _ ih =>
      intro hd hg
      cases hd with
      | cons h1 h2 => exact .cons ⟨⟨_, r, h1⟩, Dp.reads I _ _ _ h1 r⟩ (ih h2 fun d hd => hg d (List.mem_cons_of_mem _ hd))
  have e0 := both rv hd hg
  have il : its.length = ds.length := e0.length
  have sl := sizeLine_eq
  have xl := rv.length
  have er' : PySem.W.EachIs (fun v d => ∃ as, Reads (PySem.W.sortingHeap (PySem.W.copyHeap s.heap its) (s.heap.objs.size + 1) its) v (id d) as) its ds := e0.mono fun _ _ z => by
    obtain ⟨_, as, rd⟩ := z
    exact ⟨as, PyProof.Rows.Reads.keeps (fun _ _ => PySem.W.sorting_copy_old) rd⟩
  have can : PySem.W.SortsAt X.prog X.w X.A.in1.in1 { s with heap := PySem.W.sortingHeap (PySem.W.copyHeap s.heap its) (s.heap.objs.size + 1) its } (PySem.W.dataKind (PySem.W.sortingHeap (PySem.W.copyHeap s.heap its) (s.heap.objs.size + 1) its) ds) its :=
    SortsAt.tups (s := { s with heap := PySem.W.sortingHeap (PySem.W.copyHeap s.heap its) (s.heap.objs.size + 1) its }) er' hal (fun d hd => (hg d hd).tu) fun d hd => by
      have z := (hg d hd).dp
      simp only [Around.in1_units]
      omega
  refine PySem.W.sorted_vals pl.isList can (by omega) ?_
  have eo : PySem.W.EachIs (fun u d => ∃ x, RelV x u ∧ Dp X.K H x d) (PySem.W.sortVals (PySem.W.dataKind (PySem.W.sortingHeap (PySem.W.copyHeap s.heap its) (s.heap.objs.size + 1) its) ds) false its its) (ds.mergeSort (PySem.W.dataLe false id)) := by
    have z := PySem.W.sortVals_data (h' := PySem.W.sortingHeap (PySem.W.copyHeap s.heap its) (s.heap.objs.size + 1) its) (enc := id) false (e0.mono fun _ _ z => z.1) er' (by rw [List.map_id]; exact hal)
    rw [List.map_id] at z
    exact z
  obtain ⟨ys, hv, hd'⟩ := each_vals eo
  have sf := sort_facts id ds
  generalize hout : PySem.W.sortVals (PySem.W.dataKind (PySem.W.sortingHeap (PySem.W.copyHeap s.heap its) (s.heap.objs.size + 1) its) ds) false its its = out at eo hv
  have hn : H (s.heap.objs.size + 1) = none := I.hok.fresh (Nat.le_succ _)
  obtain ⟨c, hcc⟩ := sortedAll_at s.heap its out.toArray
  have hlen : ys.length ≤ sizeLine := by
    rw [dpAll_len hd', sf.1.length_eq]
    omega
  exact ⟨.ref (s.heap.objs.size + 1), upd H (s.heap.objs.size + 1) (.lst ys), I.laid (t' := s.toks) (fun b o e => sortedAll_old e) (Nat.le_succ _) ⟨hlen, out, c, hv, hcc⟩, rfl, q ys _ _ sf.1 sf.2 hd' hn⟩
end
end Rw
namespace Rw
open PySem PySem.Spec PyProof.Rows L2
/-! ### dicts whose keys are tuples of texts and of such tuples -/
abbrev Ent := PyData × Addr × V
def RelE (p : Ent) (q : NK × Addr × Value) : Prop := toK p.1 = q.1 ∧ p.2.1 = q.2.1 ∧ RelV p.2.2 q.2.2
def NDO (P : Program) (w : World) (d : Addr) (kvs : List Ent) : HO := .ext fun h => kvs.length ≤ 100000 ∧ (d == sysModules) = false ∧ ∃ xs : List (NK × Addr × Value), Paired RelE kvs xs ∧
  ∃ o es ep, h.get? d = some o ∧ o.ExactDict ∧ o.data = .dict es ep ∧ es.toList = xs.map (entryOfKey (nestedKind P w)) ∧ (xs.map (·.1)).Nodup
/-- the entries' keys stand -/
abbrev KeysOk (K : PySem.W.Frag) (H : Hp) (kvs : List Ent) : Prop := ∀ p ∈ kvs, Good p.1 ∧ Dp K H (.ref p.2.1) p.1
theorem KeysOk.stay {K : PySem.W.Frag} {H H' : Hp} {kvs : List Ent} (h : KeysOk K H kvs) (e : Stay H H') : KeysOk K H' kvs := fun p hp => ⟨(h p hp).1, e.dp _ _ (h p hp).1.ok (h p hp).2⟩
theorem paired_mem {α β : Type} {F : α → β → Prop} : ∀ {l : List α} {m : List β}, Paired F l m → ∀ y ∈ m, ∃ x ∈ l, F x y
  | _, _, .nil, y, h => nomatch h
  | _, _, .cons r t, y, h => by
    rcases List.mem_cons.mp h with e | h
    · subst e
      exact ⟨_, List.mem_cons_self, r⟩
    · obtain ⟨x, hx, hr⟩ := paired_mem t y h
      exact ⟨x, List.mem_cons_of_mem _ hx, hr⟩
theorem paired_snoc {α β : Type} {F : α → β → Prop} {x : α} {y : β} (r : F x y) : ∀ {l : List α} {m : List β}, Paired F l m → Paired F (l ++ [x]) (m ++ [y])
  | _, _, .nil => .cons r .nil
  | _, _, .cons q t => .cons q (paired_snoc r t)
/-- what a look-up finds -/
theorem nd_look {kvs : List Ent} {xs : List (NK × Addr × Value)} (p : Paired RelE kvs xs) (hk : ∀ p ∈ kvs, Good p.1) {k : PyData} (g : Good k) :
    (∀ q, atKey xs (toK k) = some q → ∃ z ∈ kvs, z.1 = k ∧ RelV z.2.2 q.2) ∧ (atKey xs (toK k) = none → ∀ z ∈ kvs, z.1 ≠ k) := by
  induction p with
  | nil => exact ⟨fun q h => by simp [atKey] at h, fun _ z hz => nomatch hz⟩
  | @cons a b as bs r t ih =>
    obtain ⟨r1, r2, r3⟩ := r
    obtain ⟨i1, i2⟩ := ih fun p hp => hk p (List.mem_cons_of_mem _ hp)
    by_cases e : b.1 = toK k
    · have ek : a.1 = k := toK_inj (hk a List.mem_cons_self).ok g.ok (r1.trans e)
      have ea : atKey (b :: bs) (toK k) = some b.2 := by simp [atKey, e]
      refine ⟨fun q h => ?_, fun h => ?_⟩
      · rw [ea] at h
        cases h
        exact ⟨a, List.mem_cons_self, ek, r3⟩
      · rw [ea] at h
        cases h
    · have ea : atKey (b :: bs) (toK k) = atKey bs (toK k) := by simp [atKey, e]
      have ne : a.1 ≠ k := fun z => e (by rw [← r1, z])
      refine ⟨fun q h => ?_, fun h z hz => ?_⟩
      · rw [ea] at h
        obtain ⟨z, hz, h1⟩ := i1 q h
        exact ⟨z, List.mem_cons_of_mem _ hz, h1⟩
      · rw [ea] at h
        rcases List.mem_cons.mp hz with e' | hz
        · rw [e']
          exact ne
        · exact i2 h z hz
section
variable {X : Cx} {pins : List (Addr × Obj)} {σ : L2.St} {H : Hp} {s : Shared} {d : Addr} {kvs : List Ent} {E : Value → Shared → Prop}
theorem nd_get (I : Inv X pins σ H s) (hd : H d = some (NDO X.prog X.w d kvs)) (hk : KeysOk X.K H kvs) : kvs.length ≤ 100000 ∧ (d == sysModules) = false ∧ ∃ xs, Paired RelE kvs xs ∧ s.heap.DictOfH (nestedKind X.prog X.w) d xs := by
  obtain ⟨hz, hs, xs, p, o, es, ep, h1, h2, h3, h4, h5⟩ := (I.hok d _ hd).1
  refine ⟨hz, hs, xs, p, o, es, ep, h1, h2, h3, h4, fun x hx => ?_, h5⟩
  obtain ⟨q, hq, r1, r2, _⟩ := paired_mem p x hx
  have := key_at I (hk q hq).2 (hk q hq).1
  rw [r1, r2] at this
  exact this
theorem nd_new {kvs : List Ent} {xs : List (NK × Addr × Value)} {h' : Heap} {H' : Hp} (hz : kvs.length ≤ 100000) (hs : (d == sysModules) = false) (p : Paired RelE kvs xs) (m : h'.DictOfH (nestedKind X.prog X.w) d xs) : ObjOk X.prog X.w H' h' d (NDO X.prog X.w d kvs) := by
  obtain ⟨o, es, ep, h1, h2, h3, h4, _, h5⟩ := m
  refine ⟨⟨hz, hs, xs, p, o, es, ep, h1, h2, h3, h4, h5⟩, ⟨o, h1⟩, fun a b ⟨z1, z2, xs', p', o', es', ep', k1, k2⟩ kk => ⟨z1, z2, xs', p', o', es', ep', kk o' k1, k2⟩⟩
/-- k in d, k not in d -/
def rInN (K : PySem.W.Frag) (P : Program) (w : World) (neg : Bool) : R2 := fun x y H Q => ∃ (a d : Addr) (kvs : List Ent) (k : PyData), x = .ref a ∧ y = .ref d ∧ H d = some (NDO P w d kvs) ∧ KeysOk K H kvs ∧ Good k ∧ Dp K H (.ref a) k ∧
  ∀ b : Bool, (b = true ↔ k ∈ kvs.map (·.1)) → Q (.bl (if neg then !b else b)) H
theorem nd_isSome {xs : List (NK × Addr × Value)} (p : Paired RelE kvs xs) (hk : ∀ p ∈ kvs, Good p.1) {k : PyData} (g : Good k) : (atKey xs (toK k)).isSome = true ↔ k ∈ kvs.map (·.1) := by
  obtain ⟨l1, l2⟩ := nd_look p hk g
  cases e : atKey xs (toK k) with
  | none => exact ⟨(fun h => nomatch h), fun h => by
      obtain ⟨z, hz, ez⟩ := List.mem_map.mp h
      exact absurd ez (l2 e z hz)⟩
  | some q => exact ⟨fun _ => by
      obtain ⟨z, hz, h1, _⟩ := l1 q e
      exact List.mem_map.mpr ⟨z, hz, h1⟩, fun _ => rfl⟩
theorem op_inN (hu : X.A.units + 64 < cLine) : OpR X (compareOp .In) (rInN X.K X.prog X.w false) := by
  intro pins s σ H x y v u Q I rx ry h
  obtain ⟨a, d, kvs, k, rfl, rfl, hd, hk, g, da, q⟩ := h
  cases rx
  cases ry
  obtain ⟨hz, hs, xs, p, m⟩ := nd_get I hd hk
  refine wpAny_in_heap (knd := nestedKind X.prog X.w) (by show X.A.units + 1 + 8 < cLine; omega) (key_at I da g) hs m ?_
  exact ⟨.bl _, H, I.tok _, rfl, q _ (nd_isSome p (fun z hz => (hk z hz).1) g)⟩
theorem op_notInN (hu : X.A.units + 64 < cLine) : OpR X (compareOp .NotIn) (rInN X.K X.prog X.w true) := by
  intro pins s σ H x y v u Q I rx ry h
  obtain ⟨a, d, kvs, k, rfl, rfl, hd, hk, g, da, q⟩ := h
  cases rx
  cases ry
  obtain ⟨hz, hs, xs, p, m⟩ := nd_get I hd hk
  refine wpAny_notIn_heap (knd := nestedKind X.prog X.w) (by show X.A.units + 1 + 8 < cLine; omega) (key_at I da g) hs m ?_
  exact ⟨.bl _, H, I.tok _, rfl, q _ (nd_isSome p (fun z hz => (hk z hz).1) g)⟩
/-- d[k], k is there -/
def rGetN (K : PySem.W.Frag) (P : Program) (w : World) : R2 := fun x y H Q => ∃ (a d : Addr) (kvs : List Ent) (k : PyData), x = .ref d ∧ y = .ref a ∧ H d = some (NDO P w d kvs) ∧ KeysOk K H kvs ∧ Good k ∧ Dp K H (.ref a) k ∧ k ∈ kvs.map (·.1) ∧
  ∀ z ∈ kvs, z.1 = k → Q z.2.2 H
theorem pe_getN {o i : Expr} {td ty : TE} {pos : Pos} (hu : X.A.units + 64 < cLine) (hr : PE X o td) (hi : PE X i ty) (hs : NoSl i) : PE X (.Subscript o i pos) (tOp (rGetN X.K X.prog X.w) td ty) := by
  refine ⟨fun pins s σ H Q I h => ?_⟩
  refine subD_of PySem.F.slot_dict_getitem.lookup hs (thn (hr.run pins s σ H _ I h) fun v s1 ⟨x, H1, I1, r1, q1⟩ => thn (hi.run pins s1 σ H1 _ I1 q1) fun u s2 ⟨y, H2, I2, r2, a, d, kvs, k, ex, ey, hd, hk, g, da, hm, q⟩ => ?_)
  subst ex ey
  cases r1
  cases r2
  obtain ⟨hz, hs', xs, p, m⟩ := nd_get I2 hd hk
  obtain ⟨l1, l2⟩ := nd_look p (fun z hz => (hk z hz).1) g
  refine ⟨m.typeIs, ?_⟩
  cases e : atKey xs (toK k) with
  | none =>
    obtain ⟨z, hz, ez⟩ := List.mem_map.mp hm
    exact absurd ez (l2 e z hz)
  | some pv =>
    obtain ⟨z, hz, ez, rz⟩ := l1 pv e
    exact wpAny_getItem_heap (knd := nestedKind X.prog X.w) (by show X.A.units + 1 + 8 < cLine; omega) (key_at I2 da g) m e ⟨z.2.2, H2, I2.tok _, rz, q z hz ez⟩
/-- {} -/
theorem pe_dnewN {pos : Pos} : PE X (.Dict [] [] pos) (fun _ H Q => ∀ p, H p = none → Q (.ref p) (upd H p (NDO X.prog X.w p []))) := ⟨fun pins s σ H Q I h =>
  wpAny_Dict_empty ⟨.ref s.heap.objs.size, _, I.laid (a := s.heap.objs.size) (o := NDO X.prog X.w s.heap.objs.size []) (t' := s.toks) (fun _ _ q => Heap.get?_push_of_some _ q) (Nat.le_refl _)
    (nd_new (X := X) (Nat.zero_le _) (by have := I.big; exact beq_eq_false_iff_ne.mpr (Nat.ne_of_gt this)) .nil (Heap.DictOfH.new _)), rfl, h _ (I.hok.fresh (Nat.le_refl _))⟩⟩
/-- an entry more -/
theorem nd_put {a : Addr} {k : PyData} {x : V} {u : Value} {A : Around} {Q : Unit → Shared → Prop} (hu : A.units + 8 < cLine) (I : Inv X pins σ H s) (hd : H d = some (NDO X.prog X.w d kvs)) (hk : KeysOk X.K H kvs) (g : Good k) (da : Dp X.K H (.ref a) k) (new : k ∉ kvs.map (·.1)) (few : kvs.length < 100000) (r : RelV x u)
    (h : ∀ s', Inv X pins σ (upd H d (NDO X.prog X.w d (kvs ++ [(k, a, x)]))) s' → (∀ b o, b ≠ d → s.heap.get? b = some o → s'.heap.get? b = some o) → Q () s') : wpAny (model X.prog X.w) A (dictSet d (.ref a) u) Q E s := by
  obtain ⟨hz, hs, xs, p, m⟩ := nd_get I hd hk
  have xl : xs.length = kvs.length := (Paired.length p).symm
  have none_ : atKey xs (toK k) = none := by
    cases e : atKey xs (toK k) with
    | none => rfl
    | some q => exact absurd ((nd_isSome p (fun z hz => (hk z hz).1) g).mp (by rw [e]; rfl)) new
  refine wpAny_dictSet_heap (knd := nestedKind X.prog X.w) (hsz := by rw [sizeLine_eq]; omega) hu (key_at I da g) m fun h' m' sb => ?_
  rw [storedH_new none_] at m'
  have ex : ∃ q, h'.get? d = some q := let ⟨q, _, _, hq, _⟩ := m'; ⟨q, hq⟩
  refine h _ (d_write (t' := _) I (by rw [hd]; exact True.intro) sb ex (nd_new (by rw [List.length_append, List.length_singleton]; omega) hs (paired_snoc ⟨rfl, rfl, r⟩ p) m')) fun b o hb e => (sb.2 b hb).trans e
/-- d.setdefault(k, x) -/
def tSetdN (K : PySem.W.Frag) (P : Program) (w : World) (td ty tx : TE) : TE := fun σ H Q => td σ H fun x H1 => ∃ d kvs0, x = .ref d ∧ H1 d = some (NDO P w d kvs0) ∧ ty σ H1 fun y H2 => tx σ H2 fun z H3 => ∃ (a : Addr) (kvs : List Ent) (k : PyData), y = .ref a ∧ H3 d = some (NDO P w d kvs) ∧ KeysOk K H3 kvs ∧
  Good k ∧ Dp K H3 (.ref a) k ∧ kvs.length < 100000 ∧ (∀ e ∈ kvs, e.1 = k → Q e.2.2 H3) ∧ (k ∉ kvs.map (·.1) → Q z (upd H3 d (NDO P w d (kvs ++ [(k, a, z)]))))
theorem pe_setdN {o e f : Expr} {td ty tx : TE} {apos cpos : Pos} (hu : X.A.units + 64 < cLine) (ho : PE X o td) (he : PE X e ty) (hf : PE X f tx) (m : M2 X o "setdefault" apos e f cpos) : PE X (.Call (.Attribute o "setdefault" apos) [e, f] [] cpos) (tSetdN X.K X.prog X.w td ty tx) := by
  refine ⟨fun pins s σ H Q I h => ?_⟩
  refine wpAny_Call_method m.base m.few m.line PySem.F.plainAttrs_dict PySem.F.slot_dict_setdefault PySem.F.type_dict_setdefault (thn (ho.run pins s σ H _ I h) fun u s1 ⟨x, H1, I1, rx, d, kvs0, ex, d0, q1⟩ => ?_)
  subst ex
  obtain rfl : u = Value.ref d := rx
  have ty0 : ∃ o, s1.heap.get? d = some o ∧ o.cls = .type "dict" ∧ o.dict = none := by
    obtain ⟨_, _, xs, _, o, es, ep, h1, h2, _⟩ := (I1.hok d _ d0).1
    exact ⟨o, h1, h2.1, h2.2.1⟩
  obtain ⟨ob, ho1, ho2, ho3⟩ := ty0
  refine ⟨⟨ob, ho1, ho2⟩, fun b eb => ?_, ?_⟩
  · cases eb
    exact ⟨ob, ho1, ho3⟩
  rw [m.trees]
  refine Calls.callWith_builtin rfl (Calls.evalArgs_plain (Calls.spliced_cons (thn (he.run pins s1 σ H1 _ I1 q1) fun iv s2 ⟨y, H2, I2, ry, q2⟩ =>
    Calls.spliced_cons (thn (hf.run pins s2 σ H2 _ I2 q2) fun fv s3 ⟨z, H3, I3, rz, a, kvs, k, ey, hd, hk, g, da, few, q3, q4⟩ => Calls.spliced_nil ?_))))
  subst ey
  obtain rfl : iv = Value.ref a := ry
  obtain ⟨hz, hs, xs, p, mm⟩ := nd_get I3 hd hk
  have xl : xs.length = kvs.length := (Paired.length p).symm
  obtain ⟨l1, l2⟩ := nd_look p (fun z hz => (hk z hz).1) g
  refine call_setdefault_heap (knd := nestedKind X.prog X.w) (hsz := by rw [sizeLine_eq]; omega) (by show X.A.units + 1 + 8 < cLine; omega) (key_at I3 da g) hs mm (fun pv hp => ?_) fun hn h' m' sb => ?_
  · obtain ⟨z', hz', ez, rz'⟩ := l1 pv hp
    exact ⟨z'.2.2, H3, I3.tok _, rz', q3 z' hz' ez⟩
  · rw [storedH_new hn] at m'
    have ex : ∃ q, h'.get? d = some q := let ⟨q, _, _, hq, _⟩ := m'; ⟨q, hq⟩
    refine ⟨z, _, d_write (t' := _) I3 (by rw [hd]; exact True.intro) sb ex (nd_new (by rw [List.length_append, List.length_singleton]; omega) hs (paired_snoc ⟨rfl, rfl, rz⟩ p) m'), rz, q4 fun hm => ?_⟩
    obtain ⟨z', hz', ez⟩ := List.mem_map.mp hm
    exact l2 hn z' hz' ez
end
end Rw
namespace Rw
open PySem PySem.Spec PyProof.Rows L2
/-! ### y = {x: True for x in xs}, xs a list of tuples, no two alike -/
theorem idx_new {ds : List PyData} (hn : ds.Nodup) {i : Nat} {d : PyData} (h : ds[i]? = some d) : d ∉ ds.take i := fun hm => by
  have z := take_snoc h
  have nd : (ds.take (i + 1)).Nodup := List.Nodup.sublist (List.take_sublist _ _) hn
  rw [z] at nd
  obtain ⟨_, _, h3⟩ := List.nodup_append.mp nd
  exact h3 d hm d (List.mem_singleton.mpr rfl) rfl
theorem vals_at : ∀ {xs : List V} {us : List Value} {i : Nat} {u : Value}, Vals xs us → us[i]? = some u → ∃ x, xs[i]? = some x ∧ RelV x u
  | _, _, _, _, .nil, e => by simp at e
  | _, _, 0, _, .cons r _, e => by
    simp at e
    subst e
    exact ⟨_, rfl, r⟩
  | _, _, i + 1, _, .cons _ t, e => by
    obtain ⟨x, h1, h2⟩ := vals_at (i := i) t (by simpa using e)
    exact ⟨x, by simpa using h1, h2⟩
section
variable {X : Cx}
def tSetD (K : PySem.W.Frag) (P : Program) (w : World) (ti : TE) : TE := fun σ H Q => ti σ H fun v H1 => ∃ (l : Addr) (xs : List V) (ds : List PyData), v = .ref l ∧ SqL K H1 l xs ∧ DpAll K H1 xs ds ∧ (∀ d ∈ ds, Good d) ∧ ds.Nodup ∧ ds.length ≤ 1000 ∧
  ∀ D kvs, H1 D = none → kvs.map (·.1) = ds → KeysOk K H1 kvs → Q (.ref D) (upd H1 D (NDO P w D kvs))
theorem ps_setDictTrue {i : Nat} {y x : Str} {py p1 p2 p3 pos spos : Pos} {kk : Nat} {iter : Expr} {scope : Scope} {own : List (Str × Nat)} {ti : TE} (hc : X.calm = true) (hu : X.A.units + 64 < cLine) (hN : X.N.Nodup) (hy : X.N[i]? = some y) (hyl : X.env.scope.names.lookup y = some .local)
    (hsw : swapsWith (.DictComp (.Name x p1) (.Constant (.bool true) kk p2) [⟨.Name x p3, iter, [], 0⟩] scope pos) (some (.Name y py)) spos.line X.env = pure true) (hi : PE X iter ti) (ok : BlkOk X.N X.env.scope scope own)
    (hx : scope.names.lookup x = some .local) (hdeb : (x == ("__debug__" : Str)) = false) (hcell : ∀ z ∈ scope.names, z.2 ≠ .cell) (hs : ∀ x, foldedSetIterable iter X.env x = pure x := by intro _; rfl) :
    PS X (.Assign [.Name y py] (.DictComp (.Name x p1) (.Constant (.bool true) kk p2) [⟨.Name x p3, iter, [], 0⟩] scope pos) spos) (tAsg (tSetD X.K X.prog X.w ti) (gName i)) := by
  refine ⟨fun pins s σ H D I h => ?_⟩
  have h : tSetD X.K X.prog X.w ti σ H (fun x H1 => gName i x σ H1 D.nx) := h
  have hfree : ∀ y ∈ scope.names, y.2 = .free → ∃ c, X.env.cells.lookup y.1 = some c := fun y hy e => by
    rcases ok.free y hy e with k | k
    · exact I.ok.has _ (.inl k)
    · exact I.ok.has _ (.inr k)
  rw [exec_Assign_Name_used _ _ _ _ hsw]
  refine wpAny_bind (wpAny_standAt (wpAny_bind ?_))
  show wpAny _ X.A (do let _ ← comprehension (.DictComp (.Name x p1) (.Constant (.bool true) kk p2) [⟨.Name x p3, iter, [], 0⟩] scope pos) scope X.env _ newDict false (eval iter X.env) (some (assign (.Name y py) X.env))) _ _ s
  have main : wpAny (model X.prog X.w) X.A (eval iter X.env) (fun xv s₁ => wpAny (model X.prog X.w) X.A (pyIter xv)
      (DcGoes X.prog X.w X.A X.xe X.env scope (cloFrom X.env.cells scope.names []) (.Name x p3) [] (.Name x p1) (.Constant (.bool true) kk p2) (some (assign (.Name y py) X.env)) (fun _ s' => SP X pins D .next s')) X.xe s₁) X.xe s := by
    refine thn (hi.run pins s σ H _ I h) fun xv s1 ⟨v, H1, I1, rv, l, xs, ds, ev, hl, hd, hg, hnd, hlen, q⟩ => ?_
    subst ev
    obtain rfl : xv = Value.ref l := rv
    obtain ⟨its, rvs, pl, _⟩ := I1.list hl
    have hl0 : s1.heap.IsList l its.toArray := pl.isList
    have hlt : (l : Nat) < s1.heap.objs.size := by
      obtain ⟨o, ho, _⟩ := hl0
      exact Heap.lt_size ho
    have il : its.length = ds.length := by rw [← rvs.length, dpAll_len hd]
    refine wpAny_pyIter_list hl0 ?_
    refine ⟨s1.heap.objs.size, [s1.heap.objs.size, l], [s1.heap.objs.size], its.toArray.size, _, _, rfl, Goes.list (I1.ok.hd hc) s1.heap.objs.size l (Nat.ne_of_lt hlt) its.toArray, ⟨⟨_, Heap.get?_push_size _ rfl, rfl, rfl⟩, hl0.push _⟩, ?_⟩
    intro D0 C s3 hB hDobj
    obtain ⟨⟨h3, tk3, rfl⟩, old, nD, nC, hDC, hnm⟩ := hB
    have szp : (s1.heap.push { cls := .type "list_iterator", data := .fields #[.ref l, .int 0 0] }).objs.size = s1.heap.objs.size + 1 := Heap.size_push ..
    have nD' : s1.heap.objs.size + 1 ≤ D0 := by
      have q := nD
      rw [szp] at q
      exact q
    have nC' : s1.heap.objs.size + 1 ≤ C := by
      have q := nC
      rw [szp] at q
      exact q
    have sD : s1.heap.objs.size ≤ D0 := Nat.le_trans (Nat.le_succ _) nD'
    have sC : s1.heap.objs.size ≤ C := Nat.le_trans (Nat.le_succ _) nC'
    have neDI : s1.heap.objs.size ≠ D0 := Nat.ne_of_lt nD'
    have neCI : s1.heap.objs.size ≠ C := Nat.ne_of_lt nC'
    have neDl : (l : Nat) ≠ D0 := Nat.ne_of_lt (Nat.lt_of_lt_of_le hlt sD)
    have neCl : (l : Nat) ≠ C := Nat.ne_of_lt (Nat.lt_of_lt_of_le hlt sC)
    have hDn : H1 D0 = none := I1.hok.fresh sD
    have hIn : H1 s1.heap.objs.size = none := I1.hok.fresh (Nat.le_refl _)
    have hCn : H1 C = none := I1.hok.fresh sC
    have all3 : ∀ b o, s1.heap.get? b = some o → h3.get? b = some o := fun b o e => old b o (Heap.get?_push_of_some _ e)
    have kx : (compEnvC scope (cloFrom X.env.cells scope.names []) C X.env).kindOf x = some .local := lookup_relabel_local hx
    have hp : ((compEnvC scope (cloFrom X.env.cells scope.names []) C X.env).scope.kind == .class || ((compEnvC scope (cloFrom X.env.cells scope.names []) C X.env).scope.kind == .module && (compEnvC scope (cloFrom X.env.cells scope.names []) C X.env).locals != (compEnvC scope (cloFrom X.env.cells scope.names []) C X.env).globals)) = false := by
      show (scope.kind == .class || (scope.kind == .module && _)) = false
      rw [ok.kind]
      rfl
    have fpI : ∀ kvs, FpOk X pins (upd H1 D0 (NDO X.prog X.w D0 kvs)) s1.heap.objs.size := fun kvs => I1.fpOk (Nat.le_refl _) (by rw [upd_ne neDI]; exact hIn)
    have fpC : ∀ kvs, FpOk X pins (upd H1 D0 (NDO X.prog X.w D0 kvs)) C := fun kvs => I1.fpOk sC (by rw [upd_ne (fun e => hDC e.symm)]; exact hCn)
    refine ⟨fun i s₁ => ∃ kvs m, Inv X pins σ (upd H1 D0 (NDO X.prog X.w D0 kvs)) s₁ ∧ s₁.heap.Ns C m ∧ kvs.map (·.1) = ds.take i ∧ KeysOk X.K H1 kvs, ?_, ?_, ?_, ?_⟩
    · -- at the start
      refine ⟨[], _, I1.laid (t' := tk3) all3 sD (nd_new (X := X) (Nat.zero_le _) ?_ .nil ?_), hnm, rfl, fun p hp => nomatch hp⟩
      · exact beq_eq_false_iff_ne.mpr (Nat.ne_of_gt (Nat.lt_of_lt_of_le I1.big sD))
      · exact ⟨_, #[], 0, hDobj, ⟨rfl, rfl, rfl⟩, rfl, rfl, (fun _ z => nomatch z), List.nodup_nil⟩
    · -- the iterator turns
      rintro i s₁ h' tk ⟨kvs, m, J, hn, e, ko⟩ kp _
      obtain ⟨f0, f1, f2, f3, f4, f5⟩ := fpI kvs
      exact ⟨kvs, m, J.turned (t' := tk) (fun b o hb q => kp b o (by simpa using hb) q) f0 f1 f3 f4 f5, hn.at' fun o q => kp _ o (by simpa using (fun z => neCI z.symm)) q, e, ko⟩
    · -- one turn
      rintro i v s₁ hi' hv st ⟨kvs, m, J, hn, e, ko⟩
      have hv' : its[i]? = some v := by simpa using hv
      obtain ⟨x0, hx0, rx0⟩ := vals_at rvs hv'
      obtain ⟨d, hd0, dd⟩ := dpAll_at' hd hx0
      have gd := hg d (List.mem_of_getElem? hd0)
      obtain ⟨a, rfl⟩ := gd.ref dd
      obtain rfl : v = Value.ref a := rx0
      refine wpAny_assign_Name (wpAny_storeName_local kx hn (fun h5 n5 s5 => ?_) hp)
      refine wpAny_tests_nil ?_
      show wpAny _ _ _ _ _ _
      obtain ⟨f0, f1, f2, f3, f4, f5⟩ := fpC kvs
      have J5 : Inv X pins σ (upd H1 D0 (NDO X.prog X.w D0 kvs)) { s₁ with heap := h5, toks := s₁.toks + 1 } := J.turned (t' := s₁.toks + 1) (fun b o hb q => (s5.2 b hb).trans q) f0 f1 f3 f4 f5
      rw [eval_Name _ _ _ hdeb]
      refine wpAny_bind (wpAny_standAt (wpAny_loadName_local ok.kind kx n5 (v := .ref a) (if_pos rfl) ?_))
      refine Constant_bool ?_
      have st5 : h5.IsListIter s1.heap.objs.size l (i + 1) ∧ h5.IsList l its.toArray := ⟨st.1.at fun o q => (s5.2 _ neCI).trans q, st.2.at fun o q => (s5.2 _ neCl).trans q⟩
      have sty : Stay H1 (upd H1 D0 (NDO X.prog X.w D0 kvs)) := Stay.new hDn _
      refine nd_put (s := { s₁ with heap := h5, toks := s₁.toks + 1 }) (by omega) J5 upd_same (ko.stay sty) gd (sty.dp _ _ gd.ok dd) (by rw [e]; exact idx_new hnd hd0) ?_ (x := .bl true) rfl fun s' J' kept => ?_
      · have z := congrArg List.length e
        rw [List.length_map, List.length_take] at z
        omega
      · rw [upd_upd] at J'
        refine ⟨⟨_, _, J', n5.at' fun o q => kept _ o (fun z => hDC z.symm) q, ?_, ?_⟩, st5.1.at fun o q => kept _ o neDI q, st5.2.at fun o q => kept _ o neDl q⟩
        · rw [List.map_append, e, take_snoc hd0]
          rfl
        · intro p hp
          rcases List.mem_append.mp hp with hp | hp
          · exact ko p hp
          · rw [List.mem_singleton.mp hp]
            exact ⟨gd, dd⟩
    · -- behind the last
      rintro s₁ ⟨kvs, m, J, hn, e, ko⟩
      have e' : kvs.map (·.1) = ds := by
        rw [e, List.size_toArray, il, List.take_length]
      show wpAny _ X.A (assign (.Name y py) X.env (.ref D0)) _ _ _
      obtain ⟨f0, f1, f2, f3, f4, f5⟩ := fpC kvs
      refine wpAny_assign_Name (store_ok2 (v := V.ref D0) J hN hy (.inl hyl) rfl (fun s2 J2 ⟨a, sb, ha⟩ => ?_) (.inr hyl))
      have haC : C ≠ a := by
        rcases ha with z | z
        · rw [z]
          exact f1
        · exact fun e => f4 y a z e.symm
      exact ⟨m, hn.sameBut sb haC, fun h3' sb3 => ⟨_, _, J2.turned (t' := s2.toks) (fun b o hb q => (sb3.2 b hb).trans q) f0 f1 f3 f4 f5, q D0 kvs hDn e' ko⟩⟩
  refine wpAny_bind (wpAny_mono (comprehension_at (use := some (assign (.Name y py) X.env)) (Q := fun _ s' => SP X pins D .next s') rfl hs (closure_ok hfree) ok.kind (fun z hz e => by rw [ok.uniq z hz, e])
    (wpAny_mono main (fun xv s₁ h₁ => wpAny_mono h₁ (fun it s₂ h₂ => compBlock_dict hcell ok.kind h₂) fun _ _ e => e) fun _ _ e => e)) (fun _ s' hq => wpAny_pure (wpAny_pure hq)) fun _ _ e => e)
end
end Rw
namespace Rw
open PySem PySem.Spec PyProof.Rows L2
/-! ### names, worlds, pairs -/
def letter (c : Nat) : Bool := decide (97 ≤ c) && decide (c ≤ 122)
def notS : Str := ("not" : Str)
def nameB (x : Str) : Bool := x.cps.toList.all letter && decide (1 ≤ x.cps.size) && decide (x.cps.size ≤ 8) && !decide (x = notS)
theorem nameB_iff {x : Str} : nameB x = true ↔ (∀ c ∈ x.cps.toList, letter c = true) ∧ 1 ≤ x.cps.size ∧ x.cps.size ≤ 8 ∧ x ≠ notS := by
  unfold nameB
  simp only [Bool.and_eq_true, List.all_eq_true, decide_eq_true_eq, Bool.not_eq_true', decide_eq_false_iff_not]
  exact ⟨fun ⟨⟨⟨a, b⟩, c⟩, d⟩ => ⟨a, b, c, d⟩, fun ⟨a, b, c, d⟩ => ⟨⟨⟨a, b⟩, c⟩, d⟩⟩
theorem name_strOk {x : Str} (h : nameB x = true) : PyData.strOk x = true := by
  obtain ⟨h1, _⟩ := nameB_iff.mp h
  unfold PyData.strOk
  rw [← Array.all_toList, List.all_eq_true]
  intro c hc
  have := h1 c hc
  unfold letter at this
  simp only [Bool.and_eq_true, decide_eq_true_eq] at this
  exact decide_eq_true (by omega)
abbrev W := List Str
abbrev Pr := W × W
/-- strictly rising -/
abbrev UpX (ns : W) : Prop := ns.Pairwise fun a b => a.cps.toList < b.cps.toList
structure IsW (ns : W) : Prop where
  names : ∀ x ∈ ns, nameB x = true
  up : UpX ns
  few : ns.length ≤ 40
def wd (ns : W) : PyData := .tuple (ns.map .str)
def pd (p : Pr) : PyData := .tuple [wd p.1, wd p.2]
theorem str_inj : ∀ {a b : W}, a.map PyData.str = b.map PyData.str → a = b
  | [], [], _ => rfl
  | [], _ :: _, h => by simp at h
  | _ :: _, [], h => by simp at h
  | x :: a, y :: b, h => by
    simp only [List.map_cons, List.cons.injEq, PyData.str.injEq] at h
    rw [h.1, str_inj h.2]
theorem wd_inj {a b : W} (h : wd a = wd b) : a = b := by
  unfold wd at h
  injection h with h
  exact str_inj h
theorem pd_inj {p q : Pr} (h : pd p = pd q) : p = q := by
  unfold pd at h
  injection h with h
  injection h with h1 h2
  injection h2 with h2 _
  exact Prod.ext (wd_inj h1) (wd_inj h2)
theorem okDs_str : ∀ ns : W, okDs (ns.map .str) = true
  | [] => rfl
  | x :: ns => by
    rw [List.map_cons, okDs, okDs_str ns]
    rfl
theorem depth_str : ∀ ns : W, PyData.depthAll (ns.map .str) = 0
  | [] => by simp [PyData.depthAll]
  | x :: ns => by
    rw [List.map_cons, PyData.depthAll, depth_str ns]
    simp [PyData.depth]
theorem ok_wd (ns : W) : okD (wd ns) = true := by
  unfold wd
  rw [okD]
  exact okDs_str ns
theorem depth_wd (ns : W) : (wd ns).depth = 1 := by
  unfold wd
  rw [PyData.depth, depth_str]
theorem good_wd (ns : W) : Good (wd ns) := ⟨ok_wd ns, by rw [depth_wd]; decide, ⟨_, rfl⟩⟩
theorem ok_pd (p : Pr) : okD (pd p) = true := by
  unfold pd
  rw [okD, okDs, okDs, okDs, ok_wd, ok_wd]
  rfl
theorem depth_pd (p : Pr) : (pd p).depth = 2 := by
  unfold pd
  simp [PyData.depth, PyData.depthAll, depth_wd]
theorem good_pd (p : Pr) : Good (pd p) := ⟨ok_pd p, by rw [depth_pd]; decide, ⟨_, rfl⟩⟩
theorem lay_strs : ∀ {ns : W}, (∀ x ∈ ns, nameB x = true) → PyData.canLayAll0 (ns.map .str) = true
  | [], _ => by simp [PyData.canLayAll0]
  | x :: ns, h => by
    rw [List.map_cons, PyData.canLayAll0, lay_strs fun y hy => h y (List.mem_cons_of_mem _ hy), PyData.canLay0, name_strOk (h x List.mem_cons_self)]
    rfl
theorem lay_wd {ns : W} (h : ∀ x ∈ ns, nameB x = true) : (wd ns).canLay0 = true := by
  unfold wd
  rw [PyData.canLay0]
  exact lay_strs h
theorem shaped_wd {ns : W} (h : IsW ns) : SeqAt.shaped (wd ns) = true := by
  unfold SeqAt.shaped
  rw [lay_wd h.names, depth_wd]
  rfl
theorem lay_pd {p : Pr} (h1 : IsW p.1) (h2 : IsW p.2) : (pd p).canLay0 = true := by
  unfold pd
  rw [PyData.canLay0, PyData.canLayAll0, PyData.canLayAll0, PyData.canLayAll0, lay_wd h1.names, lay_wd h2.names]
  rfl
theorem shaped_pd {p : Pr} (h1 : IsW p.1) (h2 : IsW p.2) : SeqAt.shaped (pd p) = true := by
  unfold SeqAt.shaped
  rw [lay_pd h1 h2, depth_pd]
  rfl
theorem alike_strs : ∀ a b : W, PySem.W.alikeAll (a.map .str) (b.map .str) = true
  | [], _ => by simp [PySem.W.alikeAll]
  | _ :: _, [] => by simp [PySem.W.alikeAll]
  | x :: a, y :: b => by
    rw [List.map_cons, List.map_cons, PySem.W.alikeAll, alike_strs a b]
    simp [PySem.W.alike]
theorem alike_wd (a b : W) : PySem.W.alike (wd a) (wd b) = true := by
  unfold wd
  rw [PySem.W.alike]
  exact alike_strs a b
theorem alike_pd (p q : Pr) : PySem.W.alike (pd p) (pd q) = true := by
  unfold pd
  rw [PySem.W.alike, PySem.W.alikeAll, PySem.W.alikeAll, PySem.W.alikeAll, alike_wd, alike_wd]
  rfl
theorem eqv_strs : ∀ a b : W, PyData.eqvAll (a.map .str) (b.map .str) = decide (a = b)
  | [], [] => by simp [PyData.eqvAll]
  | [], _ :: _ => by simp [PyData.eqvAll]
  | _ :: _, [] => by simp [PyData.eqvAll]
  | x :: a, y :: b => by
    rw [List.map_cons, List.map_cons, PyData.eqvAll, eqv_strs a b, PyData.eqv]
    by_cases h : x = y
    · subst h
      by_cases h2 : a = b <;> simp [h2]
    · simp [h]
theorem eqv_wd (a b : W) : PyData.eqv (wd a) (wd b) = decide (a = b) := by
  unfold wd
  rw [PyData.eqv]
  exact eqv_strs a b
theorem eqv_pd (p q : Pr) : PyData.eqv (pd p) (pd q) = decide (p = q) := by
  unfold pd
  rw [PyData.eqv, PyData.eqvAll, PyData.eqvAll, PyData.eqvAll, eqv_wd, eqv_wd]
  obtain ⟨a, b⟩ := p
  obtain ⟨c, d⟩ := q
  by_cases h1 : a = c
  · by_cases h2 : b = d <;> simp [h1, h2]
  · simp [h1]
/-! ### sorted lists are told by their members -/
theorem toks_ne {d e : PyData} (h : PySem.W.alike d e = true) (he : PyData.eqv d e = false) : PySem.W.keyToks d ≠ PySem.W.keyToks e := fun t => by
  have z := (PySem.W.toks_eqv d e h).2 he [.inl 0] [.inl 1]
  rw [t, PySem.W.lex_pre, lex_irrefl] at z
  exact absurd z (by decide)
theorem lt_or {d e : PyData} (h : PySem.W.alike d e = true) (he : PyData.eqv d e = false) : PySem.W.dataLt d e = true ∨ PySem.W.dataLt e d = true := by
  cases h1 : PySem.W.dataLt d e with
  | true => exact .inl rfl
  | false =>
    cases h2 : PySem.W.dataLt e d with
    | true => exact .inr rfl
    | false => exact absurd (lex_total _ _ h1 h2) (toks_ne h he)
/-- rising and without repetition: told by the members -/
theorem rising_one {α : Type} {enc : α → PyData} (al : ∀ a b, PySem.W.alike (enc a) (enc b) = true) (inj : ∀ a b, PyData.eqv (enc a) (enc b) = true → a = b) :
    ∀ {l m : List α}, Rising (l.map enc) → Rising (m.map enc) → l.Nodup → m.Nodup → (∀ a, a ∈ l ↔ a ∈ m) → l = m
  | [], [], _, _, _, _, _ => rfl
  | [], b :: m, _, _, _, _, h => absurd ((h b).mpr List.mem_cons_self) (List.not_mem_nil)
  | a :: l, [], _, _, _, _, h => absurd ((h a).mp List.mem_cons_self) (List.not_mem_nil)
  | a :: l, b :: m, r1, r2, n1, n2, h => by
    have le_of : ∀ {x y : α} {k : List α}, Rising ((x :: k).map enc) → y ∈ x :: k → y = x ∨ PySem.W.dataLt (enc y) (enc x) = false := by
      intro x y k r hy
      rcases List.mem_cons.mp hy with e | hy
      · exact .inl e
      · right
        have z := (List.pairwise_cons.mp r).1 (enc y) (List.mem_map.mpr ⟨y, hy, rfl⟩)
        have z' : (!PySem.W.dataLt (enc y) (enc x)) = true := z
        simpa using z'
    have e : a = b := by
      have h1 := le_of r1 ((h b).mpr List.mem_cons_self)
      have h2 := le_of r2 ((h a).mp List.mem_cons_self)
      rcases h1 with e | h1
      · exact e.symm
      · rcases h2 with e | h2
        · exact e
        · cases ev : PyData.eqv (enc a) (enc b) with
          | true => exact inj a b ev
          | false =>
            rcases lt_or (al a b) ev with z | z
            · rw [h2] at z
              exact nomatch z
            · rw [h1] at z
              exact nomatch z
    subst e
    obtain ⟨a1, a2⟩ := List.nodup_cons.mp n1
    obtain ⟨b1, b2⟩ := List.nodup_cons.mp n2
    rw [rising_one al inj (List.pairwise_cons.mp r1).2 (List.pairwise_cons.mp r2).2 a2 b2 fun x => ?_]
    constructor
    · intro hx
      rcases List.mem_cons.mp ((h x).mp (List.mem_cons_of_mem _ hx)) with e | z
      · rw [e] at hx
        exact absurd hx a1
      · exact z
    · intro hx
      rcases List.mem_cons.mp ((h x).mpr (List.mem_cons_of_mem _ hx)) with e | z
      · rw [e] at hx
        exact absurd hx b1
      · exact z
theorem pairs_one {R R' : List Pr} (r1 : Rising (R.map pd)) (r2 : Rising (R'.map pd)) (n1 : R.Nodup) (n2 : R'.Nodup) (h : ∀ p, p ∈ R ↔ p ∈ R') : R = R' :=
  rising_one alike_pd (fun p q e => by rw [eqv_pd] at e; exact of_decide_eq_true e) r1 r2 n1 n2 h
theorem worlds_one {R R' : List W} (r1 : Rising (R.map wd)) (r2 : Rising (R'.map wd)) (n1 : R.Nodup) (n2 : R'.Nodup) (h : ∀ p, p ∈ R ↔ p ∈ R') : R = R' :=
  rising_one alike_wd (fun p q e => by rw [eqv_wd] at e; exact of_decide_eq_true e) r1 r2 n1 n2 h
/-- texts: likewise -/
theorem upX_one : ∀ {l m : W}, UpX l → UpX m → (∀ a, a ∈ l ↔ a ∈ m) → l = m
  | [], [], _, _, _ => rfl
  | [], b :: m, _, _, h => absurd ((h b).mpr List.mem_cons_self) (List.not_mem_nil)
  | a :: l, [], _, _, h => absurd ((h a).mp List.mem_cons_self) (List.not_mem_nil)
  | a :: l, b :: m, r1, r2, h => by
    obtain ⟨p1, q1⟩ := List.pairwise_cons.mp r1
    obtain ⟨p2, q2⟩ := List.pairwise_cons.mp r2
    have e : a = b := by
      rcases List.mem_cons.mp ((h a).mp List.mem_cons_self) with e | z
      · exact e
      · rcases List.mem_cons.mp ((h b).mpr List.mem_cons_self) with e | z'
        · exact e.symm
        · exact absurd (p1 b z') (List.lt_asymm (p2 a z))
    subst e
    have na : ∀ {k : W}, (∀ x ∈ k, a.cps.toList < x.cps.toList) → a ∉ k := fun h hm => List.lt_irrefl _ (h a hm)
    rw [upX_one q1 q2 fun x => ?_]
    constructor
    · intro hx
      rcases List.mem_cons.mp ((h x).mp (List.mem_cons_of_mem _ hx)) with e | z
      · rw [e] at hx
        exact absurd hx (na p1)
      · exact z
    · intro hx
      rcases List.mem_cons.mp ((h x).mpr (List.mem_cons_of_mem _ hx)) with e | z
      · rw [e] at hx
        exact absurd hx (na p2)
      · exact z
/-- ≤ and without repetition: strictly rising -/
theorem upX_of {zs : W} (h : RisingX zs) (n : zs.Nodup) : UpX zs := by
  induction zs with
  | nil => exact List.Pairwise.nil
  | cons x zs ih =>
    obtain ⟨p, q⟩ := List.pairwise_cons.mp h
    obtain ⟨n1, n2⟩ := List.nodup_cons.mp n
    refine List.pairwise_cons.mpr ⟨fun y hy => ?_, ih q n2⟩
    have le := of_decide_eq_true (p y hy)
    refine Classical.byContradiction fun c => ?_
    have ge : y.cps.toList ≤ x.cps.toList := List.not_lt.mp c
    have e : x.cps.toList = y.cps.toList := List.le_antisymm le ge
    exact n1 ((PySem.W.str_of_cps e) ▸ hy)
theorem upX_nodup {zs : W} (h : UpX zs) : zs.Nodup := List.Pairwise.imp (fun {a b} h e => by subst e; exact List.lt_irrefl _ h) h
end Rw
namespace Rw
open PySem PySem.Spec PyProof.Rows L2
def lettersS : Str := ("abcdefghijklmnopqrstuvwxyz" : Str)
theorem in_letters {c : Nat} (h : letter c = true) : c ∈ lettersS.cps.toList := by
  have all : ((List.range 123).all fun c => !letter c || decide (c ∈ lettersS.cps.toList)) = true := by decide +kernel
  have z := h
  unfold letter at z
  simp only [Bool.and_eq_true, decide_eq_true_eq] at z
  have q := List.all_eq_true.mp all c (List.mem_range.mpr (by omega))
  rw [h] at q
  simpa using q
/-- a comprehension over a text's signs -/
theorem lc_sgn {x : Str} {g : TG} {tt : TT} {te : TE} {vs : List Nat} {σ : L2.St} {H1 : Hp} {D : Addr} {Qd : Hp → Prop} (Pv : Nat → Hp → Prop) (h0 : Pv 0 (upd H1 D (.lst [])))
    (hs : ∀ i c H, x.cps[i]? = some c → Pv i H → g (.str ⟨#[c]⟩) (wipe σ vs) H fun σ2 H2 => wipe σ2 vs = wipe σ vs ∧ tt σ2 H2 fun b H3 =>
      if b = true then te σ2 H3 fun y H4 => ∃ acc, H4 D = some (.lst acc) ∧ acc.length < sizeLine ∧ Pv (i + 1) (upd H4 D (.lst (acc ++ [y]))) else Pv (i + 1) H3) (hd : ∀ H, Pv x.cps.size H → Qd H) :
    ∃ W : Nat → Nat → Hp → Prop, (∃ m, W 0 m (upd H1 D (.lst []))) ∧ ∀ i m H, W i m H →
      ((Its x).stop i H ∧ Qd H) ∨ ((Its x).go i H ∧ ∃ Nx : Hp → Prop, (∀ H', Nx H' → ∃ m', m' < m ∧ W (i + 1) m' H') ∧ ∀ y H', (Its x).yld i H y H' → g y (wipe σ vs) H' fun σ2 H2 => wipe σ2 vs = wipe σ vs ∧ tt σ2 H2 fun b H3 =>
        if b = true then te σ2 H3 fun y H4 => ∃ acc, H4 D = some (.lst acc) ∧ acc.length < sizeLine ∧ Nx (upd H4 D (.lst (acc ++ [y]))) else Nx H3) := by
  refine ⟨fun i m H => m = x.cps.size - i ∧ i ≤ x.cps.size ∧ Pv i H, ⟨x.cps.size, by simp, Nat.zero_le _, h0⟩, ?_⟩
  rintro i m H ⟨rfl, hi, p⟩
  by_cases hlt : i < x.cps.size
  · refine .inr ⟨hlt, Pv (i + 1), fun H' p' => ⟨x.cps.size - (i + 1), by omega, rfl, hlt, p'⟩, fun y H' yy => ?_⟩
    obtain ⟨rfl, c, hc, rfl⟩ := yy
    exact hs i c _ hc p
  · have e : i = x.cps.size := by omega
    subst e
    exact .inl ⟨Nat.le_refl _, hd H p⟩
theorem small_line {n : Nat} (h : n ≤ 10000) : n ≤ sizeLine := by
  rw [sizeLine_eq]
  omega
theorem small_line' {n : Nat} (h : n ≤ 10000) : n < sizeLine := by
  rw [sizeLine_eq]
  omega
theorem map_at {α β : Type} {l : List α} {f : α → β} {i : Nat} {y : β} (h : (l.map f)[i]? = some y) : ∃ x, l[i]? = some x ∧ y = f x := by
  rw [List.getElem?_map] at h
  cases e : l[i]? with
  | none => rw [e] at h; simp at h
  | some x =>
    rw [e] at h
    exact ⟨x, rfl, (Option.some.inj h).symm⟩
theorem same_put {H H1 : Hp} {D : Addr} {o : HO} (sm : Same H H1) (hD : H D = none) : Same H (upd H1 D o) := fun b u e => by
  rw [upd_ne (ne_of_none e hD)]
  exact sm b u e
theorem dps_str {K : PySem.W.Frag} {H : Hp} : ∀ {ns : W} {xs : List V}, DpAll K H xs (ns.map .str) → xs = ns.map V.str
  | [], _, h => by cases h; rfl
  | x :: ns, _, h => by
    cases h with
    | cons h1 h2 =>
      cases h1
      rw [dps_str h2]
      rfl
theorem dps_strs {K : PySem.W.Frag} {H : Hp} : ∀ ns : W, DpAll K H (ns.map V.str) (ns.map .str)
  | [] => .nil
  | x :: ns => .cons (.str x) (dps_strs ns)
theorem of_wd {K : PySem.W.Frag} {H : Hp} {x : V} {ns : W} (h : Dp K H x (wd ns)) : ∃ a, x = .ref a ∧ SqT K H a (ns.map V.str) := by
  unfold wd at h
  cases h with
  | tup h1 h2 =>
    rw [dps_str h2] at h1
    exact ⟨_, rfl, h1⟩
theorem to_wd {K : PySem.W.Frag} {H : Hp} {a : Addr} {ns : W} (h : SqT K H a (ns.map V.str)) : Dp K H (.ref a) (wd ns) := .tup h (dps_strs ns)
theorem Stay.wd {K : PySem.W.Frag} {H H' : Hp} {x : V} {ns : W} (e : Stay H H') (h : Dp K H x (Rw.wd ns)) : Dp K H' x (Rw.wd ns) := e.dp _ _ (ok_wd ns) h
theorem tyx_tup {K : PySem.W.Frag} {H : Hp} {a : Addr} {xs : List V} (h : SqT K H a xs) : TyX K H (.ref a) (.type "tuple") := by
  rcases h with (h | ⟨o, h⟩) | ⟨o, its, n, h1, h2, _⟩
  · exact .base (.tup h)
  · exact .fTuple h
  · exact .kTuple h1 h2
/-- all of ms are in ns -/
def sub (ms ns : W) : Bool := ms.all fun z => decide (z ∈ ns)
theorem inV_str (z : Str) : ∀ ns : W, inV (.str z) (ns.map V.str) = decide (z ∈ ns)
  | [] => by simp [inV]
  | x :: ns => by
    have ih := inV_str z ns
    unfold inV at ih ⊢
    rw [List.map_cons, List.any_cons, ih]
    show ((x == z) || decide (z ∈ ns)) = decide (z ∈ x :: ns)
    by_cases h : x = z
    · subst h
      simp
    · have h' : z ≠ x := fun e => h e.symm
      simp [h, h']
theorem flat_strs (ns : W) : (ns.map V.str).all flatV = true := by
  rw [List.all_map, List.all_eq_true]
  exact fun _ _ => rfl
/-- the first that is told -/
theorem first_at {α β : Type} {f : α → Option β} {y : β} : ∀ {l : List α} {i : Nat} {p : α}, (∀ q ∈ l.take i, f q = none) → l[i]? = some p → f p = some y → l.findSome? f = some y
  | [], _, _, _, h, _ => by simp at h
  | a :: l, 0, p, _, h, e => by
    simp at h
    subst h
    rw [List.findSome?_cons, e]
  | a :: l, i + 1, p, h0, h, e => by
    rw [List.findSome?_cons, h0 a (by simp)]
    exact first_at (i := i) (fun q hq => h0 q (by rw [List.take_succ_cons]; exact List.mem_cons_of_mem _ hq)) (by simpa using h) e
theorem first_none {α β : Type} {f : α → Option β} {l : List α} (h : ∀ q ∈ l, f q = none) : l.findSome? f = none := List.findSome?_eq_none_iff.mpr h
theorem none_snoc {α β : Type} {f : α → Option β} {l : List α} {i : Nat} {p : α} (h0 : ∀ q ∈ l.take i, f q = none) (h : l[i]? = some p) (e : f p = none) : ∀ q ∈ l.take (i + 1), f q = none := fun q hq => by
  rw [take_snoc h] at hq
  rcases List.mem_append.mp hq with hq | hq
  · exact h0 q hq
  · rw [List.mem_singleton.mp hq]
    exact e
theorem filt_t {α : Type} {p : α → Bool} {l : List α} {i : Nat} {z : α} (hz : l[i]? = some z) (e : p z = true) : (l.take (i + 1)).filter p = (l.take i).filter p ++ [z] := by
  rw [take_snoc hz, List.filter_append]
  simp [e]
theorem filt_f {α : Type} {p : α → Bool} {l : List α} {i : Nat} {z : α} (hz : l[i]? = some z) (e : p z = false) : (l.take (i + 1)).filter p = (l.take i).filter p := by
  rw [take_snoc hz, List.filter_append]
  simp [e]
theorem okDs_wd (L : List W) : okDs (L.map wd) = true := okDs_all fun d hd => by
  obtain ⟨q, _, rfl⟩ := List.mem_map.mp hd
  exact ok_wd q
theorem none_back {H0 H : Hp} (h : Same H0 H) {o : Addr} (n : H o = none) : H0 o = none := by
  cases e : H0 o with
  | none => rfl
  | some u =>
    rw [h _ _ e] at n
    cases n
theorem map_inj_nodup {α β : Type} {f : α → β} : ∀ {l : List α}, (l.map f).Nodup → ∀ a ∈ l, ∀ b ∈ l, f a = f b → a = b
  | [], _, a, h, _, _, _ => nomatch h
  | x :: l, hn, a, ha, b, hb, e => by
    rw [List.map_cons] at hn
    obtain ⟨h1, h2⟩ := List.nodup_cons.mp hn
    rcases List.mem_cons.mp ha with ea | ha
    · rcases List.mem_cons.mp hb with eb | hb
      · rw [ea, eb]
      · exact absurd (List.mem_map.mpr ⟨b, hb, by rw [← e, ea]⟩) h1
    · rcases List.mem_cons.mp hb with eb | hb
      · exact absurd (List.mem_map.mpr ⟨a, ha, by rw [e, eb]⟩) h1
      · exact map_inj_nodup h2 a ha b hb e
theorem sw_trueD {key val : Expr} {gs : List Comprehension} {scope : Scope} {pos py : Pos} {y : Str} {l : Nat} {env : Env} (hk : env.scope.kind = .function) (hy : env.scope.names.lookup y = some .local) (hl : (py.line == pos.line) = true)
    (ha : (scope.names.any fun (n, k) => n == y && (k == .local || k == .cell)) = false) : swapsWith (.DictComp key val gs scope pos) (some (.Name y py)) l env = pure true :=
  (show swapsWith (.DictComp key val gs scope pos) (some (.Name y py)) l env = swapsWith (.ListComp key gs scope pos) (some (.Name y py)) l env from rfl).trans (sw_true hk hy hl ha)
theorem op_powB {X : Cx} : OpR X (binaryOp .Pow) (rI (fun i j => 0 ≤ j ∧ (Builtin.Int.intBits i : Int) * j ≤ 2 ^ 27) fun i j => .int (i ^ j.toNat)) := opI fun _ _ _ _ _ _ _ hc q => pow_int hc.1 hc.2 q
theorem b64 {i : Int} (h0 : 0 ≤ i) (h1 : i < 2147483647) : -(2 ^ 64) < i ∧ i < 2 ^ 64 := ⟨by omega, by omega⟩
/-- a purse: three numbers -/
def Pur (H : Hp) (p : Addr) (c : Int) : Prop := ∃ a b e : Int, H p = some (.lst [.int a, .int b, .int e]) ∧ 0 ≤ a ∧ 0 ≤ b ∧ b < 2147483647 ∧ 0 ≤ e ∧ e ≤ c
def subsR : W → List W
  | [] => [[]]
  | x :: r => subsR r ++ (subsR r).map fun t => t ++ [x]
def subs (ns : W) : List W := subsR ns.reverse
theorem mem_subsR : ∀ {r t : W}, t ∈ subsR r ↔ t.Sublist r.reverse
  | [], t => by
    rw [subsR, List.mem_singleton, List.reverse_nil, List.sublist_nil]
  | x :: r, t => by
    rw [subsR, List.mem_append, List.mem_map, List.reverse_cons, List.sublist_append_iff]
    constructor
    · rintro (h | ⟨s, hs, rfl⟩)
      · exact ⟨t, [], by simp, mem_subsR.mp h, by simp⟩
      · exact ⟨s, [x], rfl, mem_subsR.mp hs, List.Sublist.refl _⟩
    · rintro ⟨a, b, rfl, ha, hb⟩
      cases hb with
      | cons _ h =>
        left
        rw [List.sublist_nil.mp h, List.append_nil]
        exact mem_subsR.mpr ha
      | cons_cons _ h =>
        right
        exact ⟨a, mem_subsR.mpr ha, by rw [List.sublist_nil.mp h]⟩
theorem mem_subs {ns t : W} : t ∈ subs ns ↔ t.Sublist ns := by
  unfold subs
  rw [mem_subsR, List.reverse_reverse]
theorem subsR_nodup : ∀ {r : W}, r.Nodup → (subsR r).Nodup
  | [], _ => by simp [subsR]
  | x :: r, h => by
    obtain ⟨h1, h2⟩ := List.nodup_cons.mp h
    have ih := subsR_nodup h2
    rw [subsR]
    refine List.nodup_append.mpr ⟨ih, ?_, fun a ha b hb e => ?_⟩
    · exact List.Pairwise.map _ (fun a b (hab : a ≠ b) (e : a ++ [x] = b ++ [x]) => hab (List.append_cancel_right e)) ih
    · subst e
      obtain ⟨s, hs, rfl⟩ := List.mem_map.mp hb
      have z := (mem_subsR.mp ha).subset (List.mem_append_right s (List.mem_singleton.mpr rfl))
      exact h1 (List.mem_reverse.mp z)
theorem subs_nodup {ns : W} (h : ns.Nodup) : (subs ns).Nodup := subsR_nodup (List.pairwise_reverse.mpr (h.imp fun hne e => hne e.symm))
theorem subsR_len : ∀ r : W, (subsR r).length = 2 ^ r.length
  | [] => rfl
  | x :: r => by
    rw [subsR, List.length_append, List.length_map, subsR_len r, List.length_cons, Nat.pow_succ]
    omega
theorem subs_len (ns : W) : (subs ns).length = 2 ^ ns.length := by
  unfold subs
  rw [subsR_len, List.length_reverse]
theorem subs_snoc (ns : W) (x : Str) : subs (ns ++ [x]) = subs ns ++ (subs ns).map fun t => t ++ [x] := by
  unfold subs
  rw [List.reverse_append, List.reverse_singleton]
  rfl
theorem sub_mem {a b : W} (h : sub a b = true) : ∀ x ∈ a, x ∈ b := fun x hx => by
  unfold sub at h
  exact of_decide_eq_true (List.all_eq_true.mp h x hx)
theorem sub_of {a b : W} (h : ∀ x ∈ a, x ∈ b) : sub a b = true := by
  unfold sub
  exact List.all_eq_true.mpr fun x hx => decide_eq_true (h x hx)
/-- the parts of a world are the worlds within it -/
theorem parts_iff {ns t : W} (h : IsW ns) : t ∈ subs ns ↔ IsW t ∧ sub t ns = true := by
  rw [mem_subs]
  constructor
  · intro s
    exact ⟨⟨fun x hx => h.names x (s.subset hx), h.up.sublist s, Nat.le_trans s.length_le h.few⟩, sub_of fun x hx => s.subset hx⟩
  · rintro ⟨hw, hs⟩
    have e : ns.filter (fun x => decide (x ∈ t)) = t := upX_one (h.up.sublist List.filter_sublist) hw.up fun a => by
      rw [List.mem_filter, decide_eq_true_iff]
      exact ⟨fun z => z.2, fun z => ⟨sub_mem hs a z, z⟩⟩
    rw [← e]
    exact List.filter_sublist
/-- the list of worlds at l -/
def WL (K : PySem.W.Frag) (H : Hp) (l : Addr) (S : List W) : Prop := ∃ ys, H l = some (.lst ys) ∧ DpAll K H ys (S.map wd)
theorem WL.same {K : PySem.W.Frag} {H H' : Hp} {l : Addr} {R : List W} (h : WL K H l R) (e : Same H H') : WL K H' l R := by
  obtain ⟨xs, h1, h2⟩ := h
  exact ⟨xs, e _ _ h1, (Stay.same e).dpAll _ _ (okDs_wd R) h2⟩
theorem all_wd : ∀ {ds : List PyData}, (∀ d ∈ ds, ∃ p, d = wd p) → ∃ R : List W, ds = R.map wd
  | [], _ => ⟨[], rfl⟩
  | d :: ds, h => by
    obtain ⟨p, rfl⟩ := h d List.mem_cons_self
    obtain ⟨R, rfl⟩ := all_wd fun e he => h e (List.mem_cons_of_mem _ he)
    exact ⟨p :: R, rfl⟩
theorem perm_of_map {α β : Type} {f : α → β} (inj : ∀ a b, f a = f b → a = b) : ∀ {l m : List α}, (l.map f).Perm (m.map f) → l.Perm m := by
  intro l m h
  classical
  refine List.perm_iff_count.mpr fun a => ?_
  have z := List.perm_iff_count.mp h (f a)
  have c : ∀ k : List α, List.count (f a) (k.map f) = List.count a k := fun k => by
    induction k with
    | nil => rfl
    | cons x k ih =>
      rw [List.map_cons, List.count_cons, List.count_cons, ih]
      by_cases e : x = a
      · subst e
        simp
      · have e' : f x ≠ f a := fun z => e (inj _ _ z)
        simp [e, e']
  rw [c, c] at z
  exact z
theorem shaped_strs {ns : W} (h : ∀ x ∈ ns, nameB x = true) : SeqAt.shaped (.list (ns.map .str)) = true := by
  unfold SeqAt.shaped
  rw [PyData.canLay0, lay_strs h, PyData.depth, depth_str]
  rfl
theorem first_map {α β γ : Type} {f : β → Option γ} {g : α → β} : ∀ {l : List α}, (l.map g).findSome? f = l.findSome? fun a => f (g a)
  | [] => rfl
  | a :: l => by
    rw [List.map_cons, List.findSome?_cons, List.findSome?_cons, first_map (l := l)]
theorem first_filter {α γ : Type} {f : α → Option γ} {p : α → Bool} : ∀ {l : List α}, (l.filter p).findSome? f = l.findSome? fun a => if p a = true then f a else none
  | [] => rfl
  | a :: l => by
    rw [List.findSome?_cons, ← first_filter (l := l)]
    by_cases h : p a = true
    · rw [List.filter_cons_of_pos h, List.findSome?_cons, if_pos h]
    · rw [List.filter_cons_of_neg h, if_neg h]
theorem first_congr {α γ : Type} {f g : α → Option γ} {l : List α} (h : ∀ a ∈ l, f a = g a) : l.findSome? f = l.findSome? g := by
  induction l with
  | nil => rfl
  | cons a l ih =>
    rw [List.findSome?_cons, List.findSome?_cons, h a List.mem_cons_self, ih fun b hb => h b (List.mem_cons_of_mem _ hb)]
theorem sub_self (t : W) : sub t t = true := sub_of fun _ h => h
theorem sub_trans {a b c : W} (h : sub a b = true) (h2 : sub b c = true) : sub a c = true := sub_of fun x hx => sub_mem h2 x (sub_mem h x hx)
theorem room65 {k : Nat} {A : Around} (hr : Room k A) : A.units + 65 < cLine := by
  have := hr.un
  omega
theorem len_le {α : Type} [DecidableEq α] : ∀ {l m : List α}, l.Nodup → (∀ z ∈ l, z ∈ m) → l.length ≤ m.length
  | [], _, _, _ => Nat.zero_le _
  | x :: l, m, hn, hs => by
    obtain ⟨h1, h2⟩ := List.nodup_cons.mp hn
    have hx : x ∈ m := hs x List.mem_cons_self
    have ih := len_le (l := l) (m := m.erase x) h2 fun y hy => (List.mem_erase_of_ne (show y ≠ x from fun e => h1 (by rw [← e]; exact hy))).2 (hs y (List.mem_cons_of_mem _ hy))
    rw [List.length_erase_of_mem hx] at ih
    have := List.length_pos_of_mem hx
    rw [List.length_cons]
    omega
theorem prod_len {α β : Type} (m : List β) : ∀ l : List α, (l.flatMap fun a => m.map fun b => (a, b)).length = l.length * m.length
  | [] => by simp
  | a :: l => by
    rw [List.flatMap_cons, List.length_append, prod_len m l, List.length_map, List.length_cons, Nat.succ_mul]
    omega
theorem prod_mem {α β : Type} {l : List α} {m : List β} {a : α} {b : β} (ha : a ∈ l) (hb : b ∈ m) : (a, b) ∈ l.flatMap fun a => m.map fun b => (a, b) :=
  List.mem_flatMap.mpr ⟨a, ha, List.mem_map.mpr ⟨b, hb, rfl⟩⟩
def meet (ns ms : W) : W := ns.filter fun z => decide (z ∈ ms)
theorem isW_meet {a b : W} (h : IsW a) : IsW (meet a b) := ⟨fun x hx => h.names x (List.mem_filter.mp hx).1, h.up.sublist List.filter_sublist, Nat.le_trans (List.length_filter_le _ _) h.few⟩
theorem nodup_snoc {α : Type} {L : List α} {p : α} (n : L.Nodup) (h : p ∉ L) : (L ++ [p]).Nodup := List.nodup_append.mpr ⟨n, by simp, fun a ha b hb e => by
  rw [List.mem_singleton] at hb
  subst hb
  exact h (e ▸ ha)⟩
def Bar (p : Addr) (H H' : Hp) : Prop := ∀ b u, b ≠ p → H b = some u → H' b = some u
theorem Bar.same {p : Addr} {H H' : Hp} (h : Same H H') : Bar p H H' := fun b u _ e => h b u e
theorem Bar.trans {p : Addr} {H H1 H2 : Hp} (a : Bar p H H1) (b : Bar p H1 H2) : Bar p H H2 := fun c u n e => b c u n (a c u n e)
theorem Bar.draw {p : Addr} {H : Hp} {o : HO} : Bar p H (upd H p o) := fun b u n e => by
  rw [upd_ne n]
  exact e
theorem Bar.put {p l : Addr} {H H' : Hp} (h : Bar p H H') (n : H l = none) {o : HO} : Bar p H (upd H' l o) := fun b u nb e => by
  rw [upd_ne (ne_of_none e n)]
  exact h b u nb e
theorem Pur.mut {H : Hp} {p : Addr} {c : Int} (h : Pur H p c) : Mut (H p) := by
  obtain ⟨a, b, e, h, _⟩ := h
  rw [h]
  exact True.intro
theorem Pur.some {H : Hp} {p : Addr} {c : Int} (h : Pur H p c) {q : Addr} (n : H q = none) : q ≠ p := fun e => by
  obtain ⟨a, b, e', h, _⟩ := h
  rw [e, h] at n
  cases n
theorem Pur.same {H H' : Hp} {p : Addr} {c : Int} (h : Pur H p c) (e : Same H H') : Pur H' p c := by
  obtain ⟨a, b, e', h, g⟩ := h
  exact ⟨a, b, e', e _ _ h, g⟩
theorem Pur.put {H : Hp} {p l : Addr} {c : Int} (h : Pur H p c) (n : l ≠ p) {o : HO} : Pur (upd H l o) p c := by
  obtain ⟨a, b, e', h, g⟩ := h
  refine ⟨a, b, e', ?_, g⟩
  rw [upd_ne n.symm]
  exact h
theorem Pur.le {H : Hp} {p : Addr} {c d : Int} (h : Pur H p c) (l : c ≤ d) : Pur H p d := by
  obtain ⟨a, b, e', h, g1, g2, g3, g4, g5⟩ := h
  exact ⟨a, b, e', h, g1, g2, g3, g4, Int.le_trans g5 l⟩
theorem Bar.stay {p : Addr} {H H' : Hp} (h : Bar p H H') (m : Mut (H p)) : Stay H H' := fun b xs r => by
  have ne : b ≠ p := fun z => by
    subst z
    rcases r with r | ⟨u, r⟩
    · rw [r] at m; exact m
    · rw [r] at m; exact m
  rcases r with r | ⟨o, r⟩
  · exact .inl (h _ _ ne r)
  · exact .inr ⟨o, h _ _ ne r⟩
theorem idx_new' {α : Type} {ds : List α} (hn : ds.Nodup) {i : Nat} {d : α} (h : ds[i]? = some d) : d ∉ ds.take i := fun hm => by
  have z := take_snoc h
  have nd : (ds.take (i + 1)).Nodup := List.Nodup.sublist (List.take_sublist _ _) hn
  rw [z] at nd
  obtain ⟨_, _, h3⟩ := List.nodup_append.mp nd
  exact h3 d hm d (List.mem_singleton.mpr rfl) rfl
theorem evalArgs_kw0 {M : Model} {A : Around} {E : Value → Shared → Prop} {s : Shared} {f : Value} {kwl : List (Option Str × Sem Value)} {Q : Args → Shared → Prop} (hall : (kwl.all fun x => x.1.isSome) = true)
    (h : wpAny M A (evalAll (kwl.map fun x => x.2)) (fun ks s₂ => Q { pos := [], kw := (kwl.filterMap fun x => x.1).zip ks } s₂) E s) : wpAny M A (evalArgs f true [] kwl) Q E s := by
  unfold evalArgs
  refine wpAny_bind (Calls.spliced_nil ?_)
  refine wpAny_bind (wpAny_pure ?_)
  refine wpAny_holding ?_
  rw [if_pos hall]
  refine wpAny_bind (wpAny_mono h (fun ks s2 q => ?_) fun _ _ e => e)
  exact wpAny_bind (wpAny_pure (wpAny_pure q))
theorem pe_callK0 {X : Cx} {CX : CXT} {k : Nat} {f : Addr} {fd : FuncData} {ps ks : List Str} {sp : Sp} {E : XK} {x : Str} {p pos : Pos} {kws : List Keyword} {tk : TA} {g : List Value → List Value → List Value} {gV : List V → List V → List V}
    (F : FnOk X.prog X.w X.K X.mg X.base CX k f fd ps sp) (hr : Room k X.A) (hg : Gl X x) (hm : X.mg x = some (.ref f)) (hk : PySem.W.keepIn X.K (.ref f) = true) (hb : KBn X.K fd ps 0 ks g gV) (hx : Passes CX X E) (hkw : PK X kws tk)
    (hall : ((backToKw pos (keywordEach kws X.env)).all fun x => x.1.isSome) = true) (hks : (backToKw pos (keywordEach kws X.env)).filterMap (fun x => x.1) = ks) (hdb : (x == ("__debug__" : Str)) = false)
    (hpl : ((([] : List (Bool × Sem Value)).any fun x => x.1) || (backToKw pos (keywordEach kws X.env)).any fun x => x.1.isNone) = false) (hst : backTo pos (starEach [] X.env) = []) :
    PE X (.Call (.Name x p) [] kws pos) (fun σ H Q => tk σ H fun zs H1 => zs.length = ks.length ∧ sp (gV [] zs) H1 Q E) := by
  refine ⟨fun pins s σ H Q I h => wpAny_Call_Name_kw (ld_glob I hg hm ?_ hdb)⟩
  rw [hst]
  refine PySem.W.callWith_of hpl (PySem.W.keeps_K hk) (evalArgs_kw0 hall (thn (hkw.run pos pins s σ H (fun zs H1 => zs.length = ks.length ∧ sp (gV [] zs) H1 Q E) I h) fun ws s2 ⟨zs, H2, I2, rz, l2, q2⟩ => ⟨Inv.kIn I2, ?_⟩))
  rw [hks]
  exact run_fnN F hr hb hx I2 .nil rz rfl l2 q2
def tMid (t u : TS) : TS := fun D σ H => ∃ I : L2.St → Hp → Prop, t { nx := I, rt := D.rt, bk := D.bk, ct := D.ct } σ H ∧ ∀ σ' H', I σ' H' → u D σ' H'
/-- the first statement up to a mark of one's own, then the rest from it -/
theorem pss_mid {X : Cx} {st : Stmt} {rest : List Stmt} {t u : TS} (h1 : PS X st t) (h2 : PSs X rest u) : PSs X (st :: rest) (tMid t u) := by
  refine ⟨fun pins s σ H D I ⟨J, a, b⟩ => ?_⟩
  refine wpAny_execs_cons (thn (h1.run pins s σ H _ I a) fun f s1 q => ?_)
  cases f with
  | next =>
    obtain ⟨σ', H', I', q⟩ := q
    exact h2.run pins s1 σ' H' D I' (b σ' H' q)
  | brk => exact q
  | cont => exact q
  | ret v => exact q
/-- a def with defaults, called by names -/
theorem kbn_def {K : PySem.W.Frag} {x qual : Str} {params : Arguments} {body : List Stmt} {scope : Scope} {dvs : List V} {kws : List (Str × V)} {f : Addr} {fd : FuncData} {ps : List Str} (F : FunD K x qual params body scope dvs kws f fd) (hd : dvs ≠ []) (n : Nat) (ks : List Str) (g : List Value → List Value → List Value → List Value) (gV : List V → List V → List V)
    (h : ∀ (T : Addr) (kV doc pm : Value) (an : Option Addr) (cdv ct : Value) (us its ws : List Value), us.length = n → its.length = dvs.length → ws.length = ks.length → ∃ k, bindArgs (PySem.W.fnOf x qual params body scope (.ref T) kV doc pm an cdv ct) { pos := us, kw := ks.zip ws } = seqItems? (.ref T) >>= k ∧ k (some its.toArray) = pure (ps.zip (g us its ws)))
    (rel : ∀ {vs : List V} {us its : List Value} {zs : List V} {ws : List Value}, Vals vs us → Vals dvs its → Vals zs ws → Vals (gV vs zs) (g us its ws)) : ∃ its, Vals dvs its ∧ KBn K fd ps n ks (fun us ws => g us its ws) gV := by
  obtain ⟨oc, od, dV, kV, doc, pm, an, cdv, ct, osl, rfl, lk, hcd, hD, hK⟩ := F.ex
  rcases hD with ⟨e, _⟩ | ⟨_, T, o, its, m, rfl, lT, oT, rT⟩
  · exact absurd e hd
  · refine ⟨its, rT, ⟨fun s us ws X l1 l2 => ?_, fun a b => rel a rT b⟩⟩
    intro M A E Q q
    obtain ⟨k, e1, e2⟩ := h T kV doc pm an cdv ct us its ws l1 rT.length.symm l2
    rw [e1]
    refine wpAny_bind (wpAny_seqItems (X T o lT) oT ?_)
    rw [e2]
    exact wpAny_pure q
theorem shaped_of {d : PyData} (h : d.canLay0 = true) (n : d.depth ≤ 64) : SeqAt.shaped d = true := by
  unfold SeqAt.shaped
  rw [h, decide_eq_true n]
  rfl
theorem eqv_self {d : PyData} (h : SeqAt.shaped d = true) : PyData.eqv d d = true := by
  unfold SeqAt.shaped at h
  rw [Bool.and_eq_true] at h
  exact SeqAt.eqv_refl d h.1
theorem dpAll_drop {K : PySem.W.Frag} {H : Hp} : ∀ {xs : List V} {ds : List PyData} (n : Nat), DpAll K H xs ds → DpAll K H (xs.drop n) (ds.drop n)
  | _, _, 0, h => h
  | _, _, _ + 1, .nil => .nil
  | _, _, n + 1, .cons _ t => dpAll_drop n t
theorem dpAll_take {K : PySem.W.Frag} {H : Hp} : ∀ {xs : List V} {ds : List PyData} (n : Nat), DpAll K H xs ds → DpAll K H (xs.take n) (ds.take n)
  | _, _, 0, _ => by
    rw [List.take_zero, List.take_zero]
    exact .nil
  | _, _, _ + 1, .nil => .nil
  | _, _, n + 1, .cons h t => .cons h (dpAll_take n t)
theorem dpAll_rev {K : PySem.W.Frag} {H : Hp} : ∀ {xs : List V} {ds : List PyData}, DpAll K H xs ds → DpAll K H xs.reverse ds.reverse
  | _, _, .nil => .nil
  | _, _, .cons h t => by
    rw [List.reverse_cons, List.reverse_cons]
    exact dpAll_app (dpAll_rev t) (.cons h .nil)
theorem dpAll_erase {K : PySem.W.Frag} {H : Hp} : ∀ {xs : List V} {ds : List PyData} (n : Nat), DpAll K H xs ds → DpAll K H (xs.eraseIdx n) (ds.eraseIdx n)
  | _, _, 0, .cons _ t => t
  | _, _, _ + 1, .cons h t => .cons h (dpAll_erase _ t)
  | _, _, _, .nil => .nil
theorem map_erase {α β : Type} (f : α → β) : ∀ (l : List α) (n : Nat), (l.map f).eraseIdx n = (l.eraseIdx n).map f
  | [], _ => rfl
  | _ :: _, 0 => rfl
  | a :: l, n + 1 => congrArg (f a :: ·) (map_erase f l n)
theorem none_bar {p l : Addr} {H H' : Hp} {c : Int} (b : Bar p H H') (pu : Pur H' p c) (n : H' l = none) : H l = none := by
  have ne := pu.some n
  cases e : H l with
  | none => rfl
  | some u =>
    rw [b l u ne e] at n
    cases n
theorem vals_app : ∀ {xs ys : List V} {us ws : List Value}, Vals xs us → Vals ys ws → Vals (xs ++ ys) (us ++ ws)
  | _, _, _, _, .nil, h => h
  | _, _, _, _, .cons r t, h => .cons r (vals_app t h)
theorem fun_of {K : PySem.W.Frag} {x qual : Str} {st : Stmt} {f : Addr} {fd : FuncData} (F : FunD K x qual (defArgs st) (defBody st) (defScope st) [] [] f fd) : Fun K x qual st f fd := by
  obtain ⟨oc, od, dV, kV, doc, pm, an, cdv, ct, osl, e, lk, hcd, hD, hK⟩ := F.ex
  rcases hD with ⟨_, rfl⟩ | ⟨h, _⟩
  · exact ⟨⟨oc, od, kV, doc, pm, an, cdv, ct, osl, e, lk, hcd⟩, F.kp⟩
  · exact absurd rfl h
end Rw
namespace Rw
open PySem PySem.Spec PyProof.Rows L2
/-! ### enumerate of a tuple -/
theorem meets_enumT (l : Addr) (items : Array Value) : Meets (Builtin.«enumerate.__new__» { pos := [Value.type "enumerate", Value.ref l] }) fun _ R s =>
    s.heap.IsTuple l items ∧ R (Except.ok (Flow.ret (Value.ref (s.heap.push { cls := Value.type "tuple_iterator", data := Data.fields #[Value.ref l, Value.int 0 0] }).objs.size)))
        { heap := (s.heap.push { cls := Value.type "tuple_iterator", data := Data.fields #[Value.ref l, Value.int 0 0] }).push
              { cls := Value.type "enumerate", data := Data.fields #[Value.none, Value.bool false, Value.ref s.heap.objs.size, rawInt 0, Value.none, Value.none] },
          gens := s.gens, drawn := s.drawn, toks := s.toks, os := s.os } := by
  refine Meets.of_wp fun prog w A R s h => ?_
  obtain ⟨hl, h⟩ := h
  have hsub := sub_enumerate
  unfold Builtin.«enumerate.__new__»
  refine wpAny_bind ?_
  unfold Builtin.SmallTypes.newClass
  refine wpAny_bind (wpAny_pure (wpAny_ite_false rfl (wpAny_bind (wpAny_of_eq hsub (wpAny_ite_false rfl (wpAny_pure (wpAny_ite_true rfl (wpAny_bind ?_))))))))
  unfold Builtin.SmallTypes.calledThroughType
  refine wpAny_bind (wpAny_stack_any fun st => wpAny_pure ?_)
  have fin : wpAny (model prog w) A.in1 (do
      let it ← pyIter (.ref l)
      let r ← Builtin.SmallTypes.newRecord (.type "enumerate") (Builtin.SmallTypes.ownedTupleFields ++ [it, rawInt 0, Value.none, Value.none])
      ret r) (fun fin s' => ∃ v, fin = Fin.done (Flow.ret v) ∧ R (Except.ok (Flow.ret v)) s') (fun e s' => R (Except.error e) s') s := by
    refine wpAny_bind (wpAny_pyIter_tuple hl ?_)
    refine wpAny_bind ?_
    unfold Builtin.SmallTypes.newRecord
    refine wpAny_bind (wpAny_alloc ?_)
    refine wpAny_pure ?_
    exact wpAny_pure ⟨_, rfl, h⟩
  split
  · generalize (_ == Value.type "enumerate") = b
    cases b
    · refine wpAny_ite_false rfl (wpAny_bind (wpAny_of_eq (a := (Value.ref l, none)) rfl fin))
    · refine wpAny_ite_true rfl (wpAny_bind (wpAny_of_eq (a := (Value.ref l, none)) rfl fin))
  · refine wpAny_ite_false rfl (wpAny_bind (wpAny_of_eq (a := (Value.ref l, none)) rfl fin))
theorem call_enumT {prog : Program} {w : World} {A : Around} {E : Value → Shared → Prop} {s : Shared} {l : Addr} {items : Array Value} {Q : Value → Shared → Prop} (hT : s.heap.IsTuple l items)
    (h : ∀ h' : Heap, IsEnum h' (s.heap.objs.size + 1) s.heap.objs.size 0 Value.none → h'.IsTupleIter s.heap.objs.size l 0 → h'.objs.size = s.heap.objs.size + 2 → (∀ (b : Addr) (o : Obj), s.heap.get? b = some o → h'.get? b = some o) →
      Q (.ref (s.heap.objs.size + 1)) { heap := h', gens := s.gens, drawn := s.drawn, toks := s.toks, os := s.os }) : wpAny (model prog w) A (call (.type "enumerate") [.ref l]) Q E s := by
  refine callType_new F.called_enumerate (by decide) (F.typeCall_enumerate_1 (.ref l)) (F.newCall_enumerate_1 (.ref l)) (fun obj => F.args_object_init_2 obj (.ref l)) F.entry_enumerate_new (meets_enumT l items) ⟨hT, ?_⟩
  have hz := Heap.size_push s.heap { cls := .type "tuple_iterator", data := .fields #[.ref l, .int 0 0] }
  show _ ∧ _
  rw [hz]
  have he := Heap.get?_push_size (s.heap.push { cls := .type "tuple_iterator", data := .fields #[.ref l, .int 0 0] }) (o := { cls := .type "enumerate", data := .fields #[.none, .bool false, .ref s.heap.objs.size, rawInt 0, .none, .none] }) rfl
  rw [hz] at he
  refine ⟨⟨_, he, rfl⟩, h _ he ⟨_, Heap.get?_push_of_some _ (Heap.get?_push_size s.heap rfl), rfl, rfl⟩ ?_ fun b o e => Heap.get?_push_of_some _ (Heap.get?_push_of_some _ e)⟩
  rw [Heap.size_push, hz]
/-- enumerate of a tuple: what it gives -/
def Ietup (K : PySem.W.Frag) (a : Addr) : It where
  go := fun i H => ∃ xs x, SqT K H a xs ∧ xs[i]? = some x
  yld := fun i H v H' => ∃ T x, v = .ref T ∧ H T = none ∧ H' = upd H T (.tup [.int (i : Int), x]) ∧ ∀ xs, SqT K H a xs → xs[i]? = some x
  stop := fun i H => ∃ xs, SqT K H a xs ∧ xs.length = i
theorem tup_enum_ne {h : Heap} {a e it : Addr} {items : Array Value} {i : Int} {old : Value} (ht : h.IsTuple a items) (he : IsEnum h e it i old) : e ≠ a := fun z => by
  obtain ⟨o, h1, h2, _⟩ := ht
  rw [← z, he] at h1
  cases h1
  exact absurd (show Value.type "enumerate" = Value.type "tuple" from h2) (by decide)
theorem tup_iter_ne {h : Heap} {a it l : Addr} {items : Array Value} {i : Nat} (ht : h.IsTuple a items) (he : h.IsTupleIter it l i) : a ≠ it := fun z => by
  obtain ⟨o, h1, h2, _⟩ := ht
  obtain ⟨o', h3, h4, _⟩ := he
  rw [z, h3] at h1
  cases h1
  rw [h4] at h2
  exact absurd h2 (by decide)
theorem turn_enumT {P : Program} {w : World} {K : PySem.W.Frag} {elts : List Expr} {kk : Nat} {tpos : Pos} (a e it : Addr) : Turn P w K (.Tuple elts kk tpos) (Ietup K a) [e, it] e (fun i h => (∃ old, IsEnum h e it (i : Int) old) ∧ h.IsTupleIter it a i ∧ e ≠ it) := by
  refine ⟨by simp, fun i h st b hb => ?_, fun i h h' st k => ?_, fun X hP hw hK hc i pins s σ H E I hf st hg => ?_, fun X hP hw hK hc i pins s σ H E I hf st hg => ?_, fun A i s Q E st h => ?_⟩
  · obtain ⟨⟨old, he⟩, ⟨o, ho, hcl, hd⟩, _⟩ := st
    rcases List.mem_cons.mp hb with z | hb
    · subst z
      exact ⟨_, he, fun v q => nomatch q⟩
    · rw [List.mem_singleton.mp hb]
      refine ⟨o, ho, fun v q => ?_⟩
      rw [hd] at q
      cases q
  · obtain ⟨⟨old, he⟩, hi, hne⟩ := st
    exact ⟨⟨old, k e (by simp) _ he⟩, hi.at fun o q => k it (by simp) o q, hne⟩
  · subst hP hw hK
    obtain ⟨⟨old, he⟩, hit, hne⟩ := st
    obtain ⟨xs, x, hq, hx⟩ := hg
    obtain ⟨its, rv, p, hz⟩ := I.tuple hq
    have ht : s.heap.IsTuple a its.toArray := p
    have ea := tup_enum_ne ht he
    have ai := tup_iter_ne ht hit
    have hl := rv.length
    have hin : i < its.toArray.size := by
      rw [List.size_toArray, ← hl]
      exact (List.getElem?_eq_some_iff.mp hx).1
    refine wpAny_pyNext_enum_itemD (Draws.tuple (A := X.A.in1) (I.ok.hd hc) it a ai its.toArray) he ⟨hit, ht⟩ hin hne (by simp [hne, ea]) fun u h' tk hu ho st' hT hsz hk => ⟨.ref s.heap.objs.size, rfl, ?_⟩
    refine wpAny_letOwnedTupleGo_enum ho fun h'' he' sb => ?_
    have hel : e < s.heap.objs.size := Heap.lt_size he
    have hil : it < s.heap.objs.size := by
      obtain ⟨o, ho, _⟩ := hit
      exact Heap.lt_size ho
    have hT2 : h''.get? s.heap.objs.size = _ := (sb.2 s.heap.objs.size (Nat.ne_of_gt hel)).trans hT
    have hu' : its[i]? = some u := by simpa using hu
    obtain ⟨x', hx', ru⟩ := vals_at rv hu'
    have exx : x' = x := Option.some.inj (hx'.symm.trans hx)
    subst exx
    have new : ObjOk X.prog X.w (upd H s.heap.objs.size (.tup [.int (i : Int), x'])) h'' s.heap.objs.size (.tup [.int (i : Int), x']) :=
      ⟨by show 2 ≤ sizeLine; decide, [.int (i : Int) tk, u], .cons ⟨tk, rfl⟩ (.cons ru .nil), ⟨_, hT2, rfl, 0, rfl⟩⟩
    have kept : ∀ (b : Addr) (o : Obj), b ∉ [e, it] → s.heap.get? b = some o → h''.get? b = some o := fun b o hb q => by
      have n1 : b ≠ e := fun z => hb (by simp [z])
      have n2 : b ≠ it := fun z => hb (by simp [z])
      exact (sb.2 b n1).trans (hk b o n1 n2 q)
    have I1 := I.turnedNew (t' := tk + 1) kept hf (Nat.le_refl _) new
    refine ⟨.ref s.heap.objs.size, _, I1, rfl, ⟨s.heap.objs.size, x', rfl, I.hok.fresh (Nat.le_refl _), rfl, fun ys hy => ?_⟩, ⟨⟨u, ?_⟩, st'.1.at fun o q => (sb.2 it hne.symm).trans q, hne⟩, fun b hb => ?_⟩
    · obtain ⟨its2, rv2, p2, _⟩ := I.tuple hy
      have ht2 : s.heap.IsTuple a its2.toArray := p2
      have ei : its2.toArray = its.toArray := by
        obtain ⟨o, a1, a2, n, a3⟩ := ht
        obtain ⟨o', b1, b2, n', b3⟩ := ht2
        rw [a1] at b1
        cases b1
        rw [a3] at b3
        cases b3
        rfl
      have ei' : its2 = its := by
        have := congrArg Array.toList ei
        simpa using this
      subst ei'
      obtain ⟨y, hy1, ry⟩ := vals_at rv2 hu'
      rw [RelV.inj ru ry]
      exact hy1
    · have e1 : ((i : Int) + 1) = ((i + 1 : Nat) : Int) := rfl
      rw [← e1]
      exact he'
    · have hb' : b < s.heap.objs.size := by
        rcases List.mem_cons.mp hb with z | hb
        · rw [z]
          exact hel
        · rw [List.mem_singleton.mp hb]
          exact hil
      rw [upd_ne (Nat.ne_of_lt hb')]
      exact (hf b hb).1
  · subst hP hw hK
    obtain ⟨⟨old, he⟩, hit, hne⟩ := st
    obtain ⟨xs, hq, hx⟩ := hg
    obtain ⟨its, rv, p, hz⟩ := I.tuple hq
    have ht : s.heap.IsTuple a its.toArray := p
    have ai := tup_iter_ne ht hit
    obtain ⟨f0, f1, f2, f3, f4, f5⟩ := hf it (by simp)
    have sz : its.toArray.size = i := by rw [List.size_toArray, ← rv.length, hx]
    refine wpAny_pyNext_enum_endD (Draws.tuple (A := X.A.in1) (I.ok.hd hc) it a ai its.toArray) he ⟨by rw [sz]; exact hit, ht⟩ fun h' eb => ⟨rfl, I.turned (fun b o hb q => eb b o hb q) f0 f1 f3 f4 f5⟩
  · obtain ⟨⟨_, he⟩, _⟩ := st
    exact wpAny_pyIter_enum he h
def iEnumT (K : PySem.W.Frag) (ta : TA) : TI := fun σ H R => ta σ H fun vs H1 => ∃ a xs, vs = [.ref a] ∧ SqT K H1 a xs ∧ R (Ietup K a) H1
theorem pi_enumT {X : Cx} {e : Expr} {ta : TA} {p pos tpos : Pos} {elts : List Expr} {kk : Nat} (hg : Gl X "enumerate") (hm : X.mg "enumerate" = none) (ha : PA X [e] ta) (hs : starEach [e] X.env = [(false, eval e X.env)] := by rfl) : PI X (.Tuple elts kk tpos) (.Call (.Name "enumerate" p) [e] [] pos) (iEnumT X.K ta) := by
  refine ⟨fun pins s σ H R I h => Call_ (ld_blt I hg hm boot_enumerate (PyProof.Rows.callWith_type1 (thn (ha.run pos pins s σ H _ I h) fun us s1 ⟨vs, H1, I1, r1, a, xs, ex, hq, q⟩ => ?_) hs rfl) (by decide) (by decide)) rfl⟩
  subst ex
  rw [Vals.ref1 r1]
  obtain ⟨its, rv, p', hz⟩ := I1.tuple hq
  refine call_enumT p' fun h' he hit hsz hk => ?_
  refine wpAny_pyIter_enum he ?_
  have I2 := I1.kept (t' := s1.toks) hk
  refine ⟨s1.heap.objs.size + 1, [s1.heap.objs.size + 1, s1.heap.objs.size], _, Ietup X.K a, H1, rfl, I2, turn_enumT a (s1.heap.objs.size + 1) s1.heap.objs.size, ⟨⟨_, he⟩, hit, Nat.succ_ne_self _⟩, fun b hb => ?_, q⟩
  rcases List.mem_cons.mp hb with z | hb
  · subst z
    exact I1.fpOk (Nat.le_succ _) (I1.hok.fresh (Nat.le_succ _))
  · rw [List.mem_singleton.mp hb]
    exact I1.fpOk (Nat.le_refl _) (I1.hok.fresh (Nat.le_refl _))
end Rw
namespace Rw
open PySem PySem.Spec PyProof.Rows L2
/-! ### walks over enumerate(tuple); instances made of starred arguments -/
theorem for_enumT {K : PySem.W.Frag} {a : Addr} {xs : List V} {g : TG} {tb : TS} {D : Ends} {σ : L2.St} {H : Hp} (Pv : Nat → L2.St → Hp → Prop) (h0 : Pv 0 σ H) (hl : ∀ i σ H, i ≤ xs.length → Pv i σ H → SqT K H a xs)
    (hs : ∀ i x σ H T, xs[i]? = some x → Pv i σ H → H T = none → g (.ref T) σ (upd H T (.tup [.int (i : Int), x])) fun σ2 H2 => tb { nx := Pv (i + 1), rt := D.rt, bk := D.nx, ct := Pv (i + 1) } σ2 H2) (hd : ∀ σ H, Pv xs.length σ H → D.nx σ H) :
    ∃ W : Nat → Nat → L2.St → Hp → Prop, (∃ m, W 0 m σ H) ∧ ∀ i m σ H, W i m σ H → ((Ietup K a).stop i H ∧ D.nx σ H) ∨ ((Ietup K a).go i H ∧ ∃ N : L2.St → Hp → Prop, (∀ σ' H', N σ' H' → ∃ m', m' < m ∧ W (i + 1) m' σ' H') ∧
      ∀ x H', (Ietup K a).yld i H x H' → g x σ H' fun σ2 H2 => tb { nx := N, rt := D.rt, bk := D.nx, ct := N } σ2 H2) := by
  refine ⟨fun i m σ H => m = xs.length - i ∧ i ≤ xs.length ∧ Pv i σ H, ⟨xs.length, by simp, Nat.zero_le _, h0⟩, ?_⟩
  rintro i m σ H ⟨rfl, hi, p⟩
  have hS := hl i σ H hi p
  by_cases hlt : i < xs.length
  · refine .inr ⟨⟨xs, xs[i], hS, List.getElem?_eq_getElem hlt⟩, Pv (i + 1), fun σ' H' p' => ⟨xs.length - (i + 1), by omega, rfl, hlt, p'⟩, fun y H' yy => ?_⟩
    obtain ⟨T, x, rfl, hT, rfl, hx⟩ := yy
    exact hs i x σ H T (hx xs hS) p hT
  · have e : i = xs.length := by omega
    subst e
    exact .inl ⟨⟨xs, hS, rfl⟩, hd σ H p⟩
def tMakeS (K : PySem.W.Frag) (C : Addr) (sp : Sp) (E : XK) (te : TE) : TE := fun σ H Q => te σ H fun y H1 => ∃ a xs, y = V.ref a ∧ (SqT K H1 a xs ∨ SqL K H1 a xs) ∧ ∀ x dx, H1 x = none → H1 dx = none → dx ≠ x → sp (V.ref x :: xs) (upd (upd H1 dx (.own x)) x (.ins C dx [])) (fun v H2 => v = .non ∧ Q (.ref x) H2) E
/-- C(*e), C a class of the module -/
theorem pe_makeS {X : Cx} {CX : CXT} {k : Nat} {f C : Addr} {sp : Sp} {E : XK} {x : Str} {e : Expr} {te : TE} {p sp_ pos : Pos} (M : Mk X.K C f) (F : FnR X.prog X.w X.K X.mg X.base CX k f sp) (hr : Room (k + 1) X.A) (hg : Gl X x) (hm : X.mg x = some (.ref C)) (hx : Passes CX X E) (he : PE X e te)
    (hd : (x == ("__debug__" : Str)) = false := by rfl) (hst : starEach [e.Starred sp_] X.env = [(true, eval e X.env)] := by rfl) : PE X (.Call (.Name x p) [.Starred e sp_] [] pos) (tMakeS X.K C sp E te) :=
  ⟨fun pins s σ H Q I h => wpAny_Call_Name_kw (ld_glob I hg hm (PySem.W.callWith_S I.ok.mod.kin M.kp (thn (he.run pins s σ H _ I h) fun v s1 ⟨y, H1, I1, ry, a, xs, ey, hxs, q⟩ => by
    subst ey
    obtain rfl : v = Value.ref a := ry
    exact StX.star_any I1 hxs fun us s2 I2 rv => ⟨Inv.kIn I2, StX.run_makeR M F hr hx I2 rv q⟩) hst) hd)⟩
/-- cls(*e), cls a local name that holds the class -/
theorem pe_makeSL {X : Cx} {CX : CXT} {k i : Nat} {f C : Addr} {sp : Sp} {E : XK} {x : Str} {e : Expr} {te : TE} {p sp_ pos : Pos} (M : Mk X.K C f) (F : FnR X.prog X.w X.K X.mg X.base CX k f sp) (hr : Room (k + 1) X.A) (hN : X.N[i]? = some x) (hv : Vis X.env.scope x) (hx : Passes CX X E) (he : PE X e te)
    (hd : (x == ("__debug__" : Str)) = false := by rfl) (hcd : (x == ("__classdict__" : Str)) = false := by rfl) (hst : starEach [e.Starred sp_] X.env = [(true, eval e X.env)] := by rfl) :
    PE X (.Call (.Name x p) [.Starred e sp_] [] pos) (fun σ H Q => σ[i]? = some (some (.ref C)) ∧ tMakeS X.K C sp E te σ H Q) := by
  refine ⟨fun pins s σ H Q I ⟨hs, h⟩ => wpAny_Call_Name_kw (thn ((pe_var hN hv hd hcd).run pins s σ H (fun v H1 => v = V.ref C ∧ H1 = H) I ⟨.ref C, hs, rfl, rfl⟩) fun u s1 ⟨v, H0, I1, r1, ev, eH⟩ => ?_)⟩
  subst ev eH
  obtain rfl : u = Value.ref C := r1
  exact PySem.W.callWith_S I1.ok.mod.kin M.kp (thn (he.run pins s1 σ _ _ I1 h) fun v s1 ⟨y, H1, I1, ry, a, xs, ey, hxs, q⟩ => by
    subst ey
    obtain rfl : v = Value.ref a := ry
    exact StX.star_any I1 hxs fun us s2 I2 rv => ⟨Inv.kIn I2, StX.run_makeR M F hr hx I2 rv q⟩) hst
theorem fnr_of {P : Program} {w : World} {K : PySem.W.Frag} {mg : Str → Option Value} {base : Heap} {CX : CXT} {k : Nat} {f : Addr} {fd : FuncData} {ps : List Str} {sp : Sp} (F : FnOk P w K mg base CX k f fd ps sp) (b : Binds K fd ps []) : FnR P w K mg base CX k f sp := fun A outer s H us vs Q E hr e0 r h => by
  have hl := F.len vs H Q E h
  have ul : us.length = ps.length := by rw [← r.length, hl]
  have z := b s us (PySem.W.Frag.In.keeps e0.mod.kin fun b o e => (e0.bs b o e).1) (by rw [List.append_nil]; exact ul)
  rw [List.append_nil] at z
  exact F.run A outer s H _ us vs Q E hr e0 z r h
end Rw
namespace Rw
open PySem PySem.Spec PyProof.Rows L2
/-! ### rules: heads, denied, needs, bars -/
abbrev Rl := W × W × W × W
def parts (r : Rl) : List W := [r.1, r.2.1, r.2.2.1, r.2.2.2]
def rd (r : Rl) : PyData := .tuple ((parts r).map wd)
structure IsR (r : Rl) : Prop where
  h : IsW r.1
  d : IsW r.2.1
  n : IsW r.2.2.1
  b : IsW r.2.2.2
theorem IsR.all {r : Rl} (h : IsR r) : ∀ t ∈ parts r, IsW t := fun t ht => by
  unfold parts at ht
  simp only [List.mem_cons, List.mem_nil_iff, or_false] at ht
  rcases ht with e | e | e | e <;> subst e
  · exact h.h
  · exact h.d
  · exact h.n
  · exact h.b
theorem wds_inj : ∀ {a b : List W}, a.map wd = b.map wd → a = b
  | [], [], _ => rfl
  | [], _ :: _, h => by simp at h
  | _ :: _, [], h => by simp at h
  | x :: a, y :: b, h => by
    simp only [List.map_cons, List.cons.injEq] at h
    rw [wd_inj h.1, wds_inj h.2]
theorem rd_inj {p q : Rl} (h : rd p = rd q) : p = q := by
  unfold rd at h
  injection h with h
  have z := wds_inj h
  unfold parts at z
  simp only [List.cons.injEq, and_true] at z
  obtain ⟨h1, h2, h3, h4⟩ := z
  exact Prod.ext h1 (Prod.ext h2 (Prod.ext h3 h4))
theorem ok_rd (r : Rl) : okD (rd r) = true := by
  unfold rd
  rw [okD]
  exact okDs_wd _
theorem depthAll_wd : ∀ L : List W, PyData.depthAll (L.map wd) ≤ 1
  | [] => by simp [PyData.depthAll]
  | x :: L => by
    have := depthAll_wd L
    rw [List.map_cons, PyData.depthAll, depth_wd]
    omega
theorem depth_rd (r : Rl) : (rd r).depth ≤ 2 := by
  have := depthAll_wd (parts r)
  unfold rd
  rw [PyData.depth]
  omega
theorem good_rd (r : Rl) : Good (rd r) := ⟨ok_rd r, Nat.le_trans (depth_rd r) (by decide), ⟨_, rfl⟩⟩
theorem lay_wds : ∀ {L : List W}, (∀ t ∈ L, IsW t) → PyData.canLayAll0 (L.map wd) = true
  | [], _ => by simp [PyData.canLayAll0]
  | t :: L, h => by
    rw [List.map_cons, PyData.canLayAll0, lay_wds fun y hy => h y (List.mem_cons_of_mem _ hy), lay_wd (h t List.mem_cons_self).names]
    rfl
theorem lay_rd {r : Rl} (h : IsR r) : (rd r).canLay0 = true := by
  unfold rd
  rw [PyData.canLay0]
  exact lay_wds h.all
theorem shaped_rd {r : Rl} (h : IsR r) : SeqAt.shaped (rd r) = true := shaped_of (lay_rd h) (Nat.le_trans (depth_rd r) (by decide))
theorem alike_wds : ∀ a b : List W, PySem.W.alikeAll (a.map wd) (b.map wd) = true
  | [], _ => by simp [PySem.W.alikeAll]
  | _ :: _, [] => by simp [PySem.W.alikeAll]
  | x :: a, y :: b => by
    rw [List.map_cons, List.map_cons, PySem.W.alikeAll, alike_wds a b, alike_wd]
    rfl
theorem alike_rd (p q : Rl) : PySem.W.alike (rd p) (rd q) = true := by
  unfold rd
  rw [PySem.W.alike]
  exact alike_wds _ _
theorem eqv_wds : ∀ a b : List W, PyData.eqvAll (a.map wd) (b.map wd) = decide (a = b)
  | [], [] => by simp [PyData.eqvAll]
  | [], _ :: _ => by simp [PyData.eqvAll]
  | _ :: _, [] => by simp [PyData.eqvAll]
  | x :: a, y :: b => by
    rw [List.map_cons, List.map_cons, PyData.eqvAll, eqv_wds a b, eqv_wd]
    by_cases h : x = y
    · subst h
      by_cases h2 : a = b <;> simp [h2]
    · simp [h]
theorem eqv_rd (p q : Rl) : PyData.eqv (rd p) (rd q) = decide (p = q) := by
  have e : (p = q) ↔ (parts p = parts q) := ⟨fun h => by rw [h], fun h => rd_inj (by unfold rd; rw [h])⟩
  unfold rd
  rw [PyData.eqv, eqv_wds]
  by_cases h : parts p = parts q
  · rw [decide_eq_true h, decide_eq_true (e.mpr h)]
  · rw [decide_eq_false h, decide_eq_false fun z => h (e.mp z)]
theorem rules_one {R R' : List Rl} (r1 : Rising (R.map rd)) (r2 : Rising (R'.map rd)) (n1 : R.Nodup) (n2 : R'.Nodup) (h : ∀ p, p ∈ R ↔ p ∈ R') : R = R' :=
  rising_one alike_rd (fun p q e => by rw [eqv_rd] at e; exact of_decide_eq_true e) r1 r2 n1 n2 h
theorem okDs_rd (R : List Rl) : okDs (R.map rd) = true := okDs_all fun d hd => by
  obtain ⟨p, _, rfl⟩ := List.mem_map.mp hd
  exact ok_rd p
theorem all_rd : ∀ {ds : List PyData}, (∀ d ∈ ds, ∃ p, d = rd p) → ∃ R : List Rl, ds = R.map rd
  | [], _ => ⟨[], rfl⟩
  | d :: ds, h => by
    obtain ⟨p, rfl⟩ := h d List.mem_cons_self
    obtain ⟨R, rfl⟩ := all_rd fun e he => h e (List.mem_cons_of_mem _ he)
    exact ⟨p :: R, rfl⟩
theorem rd_mem {R : List Rl} {p : Rl} : rd p ∈ R.map rd ↔ p ∈ R :=
  ⟨fun h => by obtain ⟨q, hq, e⟩ := List.mem_map.mp h; rw [← rd_inj e]; exact hq, fun h => List.mem_map.mpr ⟨p, h, rfl⟩⟩
theorem Stay.rd {K : PySem.W.Frag} {H H' : Hp} {x : V} {r : Rl} (e : Stay H H') (h : Dp K H x (Rw.rd r)) : Dp K H' x (Rw.rd r) := e.dp _ _ (ok_rd r) h
theorem of_rd {K : PySem.W.Frag} {H : Hp} {x : V} {r : Rl} (h : Dp K H x (rd r)) : ∃ a v1 v2 v3 v4, x = .ref a ∧ SqT K H a [v1, v2, v3, v4] ∧ Dp K H v1 (wd r.1) ∧ Dp K H v2 (wd r.2.1) ∧ Dp K H v3 (wd r.2.2.1) ∧ Dp K H v4 (wd r.2.2.2) := by
  unfold rd parts at h
  cases h with
  | tup h1 h2 =>
    cases h2 with
    | cons a1 t =>
      cases t with
      | cons a2 t =>
        cases t with
        | cons a3 t =>
          cases t with
          | cons a4 t =>
            cases t
            exact ⟨_, _, _, _, _, rfl, h1, a1, a2, a3, a4⟩
theorem to_rd {K : PySem.W.Frag} {H : Hp} {a : Addr} {v1 v2 v3 v4 : V} {r : Rl} (h : SqT K H a [v1, v2, v3, v4]) (h1 : Dp K H v1 (wd r.1)) (h2 : Dp K H v2 (wd r.2.1)) (h3 : Dp K H v3 (wd r.2.2.1)) (h4 : Dp K H v4 (wd r.2.2.2)) : Dp K H (.ref a) (rd r) :=
  .tup h (.cons h1 (.cons h2 (.cons h3 (.cons h4 .nil))))
/-- a sorted list without repetition -/
structure Srt (S L : List Rl) : Prop where
  nd : S.Nodup
  ris : Rising (S.map rd)
  mem : ∀ p, p ∈ S ↔ p ∈ L
theorem Srt.one {S S' L L' : List Rl} (a : Srt S L) (b : Srt S' L') (h : ∀ p, p ∈ L ↔ p ∈ L') : S = S' := rules_one a.ris b.ris a.nd b.nd fun p => (a.mem p).trans ((h p).trans (b.mem p).symm)
/-! ### sorted(set(xs)) of rules -/
section
variable {X : Cx}
/-- set(xs), xs a list or a tuple of rules -/
def rSetR (K : PySem.W.Frag) (w : World) : List V → Hp → VK → Prop := fun vs H Q => ∃ (l : Addr) (xs : List V) (L : List Rl), vs = [.ref l] ∧ (SqL K H l xs ∨ SqT K H l xs) ∧ DpAll K H xs (L.map rd) ∧ L.length < 64 ∧
  ∀ a M, H a = none → (∀ p ∈ M, Good p.2 ∧ Dp K H (.ref p.1) p.2) → (∀ p ∈ M, ∃ r ∈ L, p.2 = rd r) → (∀ r ∈ L, rd r ∈ M.map (·.2)) → Q (.ref a) (upd H a (TSetO w a M))
theorem cr_setR (hc : X.calm = true) (hu : X.A.units + 64 < cLine) : CallR X (.type "set") (rSetR X.K X.w) := fun pins s σ H vs us Q I r ⟨l, xs, L, e, hl, hd, few, q⟩ =>
  cr_setT hc hu pins s σ H vs us Q I r ⟨l, xs, L.map rd, e, hl, hd, (fun d hd => by obtain ⟨p, _, rfl⟩ := List.mem_map.mp hd; exact good_rd p), by rw [List.length_map]; exact few, fun a M ha hM hall => by
    have isP : ∀ e ∈ M, ∃ p ∈ L, e.2 = rd p := fun e he => by
      obtain ⟨p, hp, ep⟩ := List.mem_map.mp (hM e he).1
      exact ⟨p, hp, ep.symm⟩
    refine q a M ha (fun e he => ?_) isP fun r hr => hall _ (List.mem_map.mpr ⟨r, hr, rfl⟩)
    obtain ⟨p, _, ep⟩ := isP e he
    exact ⟨by rw [ep]; exact good_rd p, (hM e he).2⟩⟩
/-- sorted(a set of rules) -/
def rSortR (K : PySem.W.Frag) (w : World) : List V → Hp → VK → Prop := fun vs H Q => ∃ (a : Addr) (M : List (Addr × PyData)) (L : List Rl), vs = [.ref a] ∧ H a = some (TSetO w a M) ∧ (∀ p ∈ M, Good p.2 ∧ Dp K H (.ref p.1) p.2) ∧ (∀ p ∈ M, ∃ r ∈ L, p.2 = rd r) ∧ (∀ r ∈ L, rd r ∈ M.map (·.2)) ∧
  ∀ (ys : List V) (S : List Rl) (p : Addr), Srt S L → S.length < 64 → DpAll K H ys (S.map rd) → H p = none → Q (.ref p) (upd H p (.lst ys))
theorem cr_sortR (hc : X.calm = true) (hu : X.A.units + 64 < cLine) : CallR X (.builtin "sorted") (rSortR X.K X.w) := fun pins s σ H vs us Q I r ⟨a, M, L, e, ha, hM, isP, hall, q⟩ =>
  cr_sortT hc hu pins s σ H vs us Q I r ⟨a, M, e, ha, hM, (fun d hd d' hd' => by
    obtain ⟨e, he, rfl⟩ := List.mem_map.mp hd
    obtain ⟨e', he', rfl⟩ := List.mem_map.mp hd'
    obtain ⟨p, _, ep⟩ := isP e he
    obtain ⟨p', _, ep'⟩ := isP e' he'
    rw [ep, ep']
    exact alike_rd p p'), fun ys ds p perm nd lt ris hys hp' => by
    obtain ⟨S, rfl⟩ := all_rd (ds := ds) fun d hd => by
      obtain ⟨e, he, rfl⟩ := List.mem_map.mp (perm.mem_iff.mp hd)
      obtain ⟨p, _, ep⟩ := isP e he
      exact ⟨p, ep⟩
    rw [List.length_map] at lt
    refine q ys S p ⟨nodup_of_map nd, ris, fun p => ?_⟩ lt hys hp'
    rw [← rd_mem, perm.mem_iff]
    constructor
    · intro hm
      obtain ⟨e, he, ee⟩ := List.mem_map.mp hm
      obtain ⟨p', hp', ep⟩ := isP e he
      rw [← rd_inj (ep.symm.trans ee)]
      exact hp'
    · intro hm
      exact hall _ hm⟩
end
end Rw
namespace Rw
open PySem PySem.Spec PyProof.Rows L2
/-! ### an error that was caught and kept -/
/-- an error of the class cls at a, whose own dict is d -/
def ExH (cls : Value) (d : Option Addr) (a : Addr) : HO := .ext fun h => ∃ oe vs, h.get? a = some oe ∧ Zc cls d oe ∧ oe.data = .fields vs
def wKeep (K : PySem.W.Frag) (c : Value) (i j : Nat) (D : Ends) : WX := fun cls d σ H => PySem.W.exmOne K cls c = some true ∧ ∀ a, H a = none → D.nx (((σ.set i (some (.ref a))).set j (some (.ref a))).set i none) (upd H a (ExH cls d a))
/-- an error's object is tracked from now on -/
theorem keep_inv {X : Cx} {pins : List (Addr × Obj)} {σ : L2.St} {H : Hp} {s : Shared} {a : Addr} {oe : Obj} {cls : Value} {d : Option Addr} {vs : Array Value} (I : Inv X pins σ H s) (he : s.heap.get? a = some oe) (hz : Zc cls d oe) (hd : oe.data = .fields vs) (hH : H a = none) (nL : a ≠ X.env.locals)
    (h0 : X.s_0.heap.get? a = none) (hp : ∀ p ∈ X.pn ++ pins, p.1 ≠ a) : Inv X pins σ (upd H a (ExH cls d a)) s := by
  have cell : ∀ x c, X.env.cells.lookup x = some c → c ≠ a := fun x c e z => by
    obtain ⟨v, o, h1, h2⟩ := I.cell x c e
    rw [z, he] at h1
    cases h1
    rw [hd] at h2
    cases h2
  refine ⟨I.ok, I.os, I.bare, ?_, I.loc, I.cell, ?_, fun x c e => ?_, fun p hpm => ?_, fun b o hb => ?_, I.len⟩
  · have u := I.base
    refine ⟨u.keep, u.slot, fun b o e1 e2 e3 => ?_, u.there, fun b xs e => ?_, fun b o w' e => ?_, fun b ps e => ?_⟩
    · have nb : b ≠ a := fun z => by
        rw [z, h0] at e1
        cases e1
      rw [upd_ne nb]
      exact u.free b o e1 e2 e3
    · have z := u.tups b xs e
      rw [upd_ne (ne_of_none z hH)]
      exact z
    · have z := u.frzs b o w' e
      rw [upd_ne (ne_of_none z hH)]
      exact z
    · obtain ⟨more, z⟩ := u.tbls b ps e
      refine ⟨more, ?_⟩
      rw [upd_ne (ne_of_none z hH)]
      exact z
  · rw [upd_ne nL.symm]
    exact I.free
  · rw [upd_ne (cell x c e)]
    exact I.freeC x c e
  · obtain ⟨p1, p2, p3⟩ := I.pin p hpm
    refine ⟨p1, ?_, p3⟩
    rw [upd_ne (hp p hpm)]
    exact p2
  · have new : ObjOk X.prog X.w (upd H a (ExH cls d a)) s.heap a (ExH cls d a) := ⟨⟨oe, vs, he, hz, hd⟩, ⟨oe, he⟩, fun h1 h2 ⟨oe', vs', e1, e2⟩ kk => ⟨oe', vs', kk oe' e1, e2⟩⟩
    by_cases e : b = a
    · subst e
      rw [upd_same] at hb
      cases hb
      exact new
    · rw [upd_ne e] at hb
      have same : ∀ (b' : Addr) (u : HO), H b' = some u → (upd H a (ExH cls d a)) b' = some u := fun b' u h => by
        rw [upd_ne (ne_of_none h hH)]
        exact h
      exact (I.hok b o hb).stay (fun _ _ _ e => e) (fun b' h => same b' _ h) fun b' xs h => same b' _ h
/-- try: body except x as n: y = n (every error of the body is an x) -/
theorem ps_try_keep {X : Cx} {x n y : Str} {c : Value} {i j : Nat} {body : List Stmt} {np pos pos' p1 p2 p3 : Pos} {tb : WX → TS} (hs : X.stack = X.env :: X.outer) (hf : X.env.frame = some X.env.locals) (hN : X.N.Nodup) (hi : X.N[i]? = some n) (hln : X.env.kindOf n = some .local) (hc : Names X x c)
    (hj : X.N[j]? = some y) (hyl : X.env.scope.names.lookup y = some .local) (hnl : X.env.scope.names.lookup n = some .local) (hex : X.ex = []) (hdb : (n == ("__debug__" : Str)) = false) (hcd : (n == ("__classdict__" : Str)) = false) (hsw : swapsWith (.Name n p2) (some (.Name y p1)) p3.line X.env = pure false)
    (hb : ∀ (W : WX) (pn : List (Addr × Obj)) (xe : Value → Shared → Prop), Takes (X.tr pn xe) W → PassesOwn (model X.prog X.w) X.A X.env xe → PSs (X.tr pn xe) body (tb W)) :
    PS X (.Try body [.ExceptHandler (some (.Name x np)) (some n) [.Assign [.Name y p1] (.Name n p2) p3] pos'] [] [] pos) (fun D σ H => tb (wKeep X.K c i j D) D σ H) := by
  refine ⟨fun pins s σ H D I h => ?_⟩
  have ok := I.ok
  have hfr : X.A.frames = some (X.env :: X.outer) := by rw [ok.frames, hs]
  have hloc : L2.Loc X.env.scope n := Or.inl hln
  refine wpAny_Try_except (wpAny_mono ((hb (wKeep X.K c i j D) (X.pn ++ pins) (fun e s₁ => wpAny (model X.prog X.w) X.A (noteFrame e X.env) (fun _ s₂ => wpAny (model X.prog X.w) X.A (setFlight e none) (fun _ s₃ => wpAny (model X.prog X.w) X.A (handleBy e X.env [.ExceptHandler (some (.Name x np)) (some n) [.Assign [.Name y p1] (.Name n p2) p3] pos']) (SP X pins D) X.xe s₃) X.xe s₂) X.xe s₁) ?_ PassesOwn.looking).run [] s σ H D (I.toTry _) h) ?_ fun e s1 he => he)
  · rintro u s' ⟨a, B, sI, pins', σ', H', cls, d, rfl, J', nb, up, sky, na, os, ag, hb1, hyes⟩
    have J := J'.ofTry ok
    have sky' : Sky B (X.env :: X.outer) a (Zc cls d) X.env.locals s'.heap := by
      rw [← hs]
      exact sky
    refine Sky.land Zc.steady hfr hf sky' fun h3 fl3 up3 => ?_
    have J3 := J.landed (s' := { heap := h3, gens := s'.gens, drawn := s'.drawn, toks := s'.toks, os := s'.os }) nb fl3.left (up.trans up3) os ag
    obtain ⟨oe3, vs3, he3, hz3, hd3⟩ := fl3.there
    have notFr : ∀ {h : Heap} {o : Obj} {vs : Array Value}, h.FunFrames B (X.env :: X.outer) → h.get? a = some o → o.data = .fields vs → a ∉ frs (X.env :: X.outer) := fun ff e dd hm => by
      obtain ⟨_, o', e', hnf⟩ := ff.mem hm
      rw [e] at e'
      cases e'
      exact hnf _ dd
    have nfr := notFr fl3.2.2.1 he3 hd3
    have nL : a ≠ X.env.locals := fun z => nfr (List.mem_filterMap.mpr ⟨X.env, List.mem_cons_self, by rw [hf, z]⟩)
    have nF : a ∉ X.fs := fun hm => by
      obtain ⟨e, he, q⟩ := List.mem_filterMap.mp hm
      exact nfr (List.mem_filterMap.mpr ⟨e, List.mem_cons_of_mem _ he, q⟩)
    have Ba : B.get? a = none := fl3.2.1
    have nfr' : a ∉ frs X.stack := by
      rw [hs]
      exact nfr
    have sIa : sI.heap.get? a = none := by
      cases e : sI.heap.get? a with
      | none => rfl
      | some o =>
        rw [nb a o e nfr'] at Ba
        cases Ba
    have h0 : X.s_0.heap.get? a = none := by
      cases e : X.s_0.heap.get? a with
      | none => rfl
      | some o =>
        obtain ⟨o', e'⟩ := J.base.there a o e (by rw [hex]; exact List.not_mem_nil)
        rw [sIa] at e'
        cases e'
    have hp : ∀ p ∈ X.pn ++ pins, p.1 ≠ a := fun p hpm z => by
      have := (J.pin p hpm).1
      rw [z, sIa] at this
      cases this
    have S3 := J3.suite he3 hd3 na nL nF
    have LT : ∀ (A : Around) (Q : Value → Shared → Prop) (E : Value → Shared → Prop) (s : Shared), (∀ b o, h3.get? b = some o → s.heap.get? b = some o) → Q cls s → wpAny (model X.prog X.w) A (typeOf (.ref a)) Q E s := fun A Q E s k q => wpAny_typeOf_ref (k a oe3 he3) (by rw [hz3.1]; exact q)
    refine wpAny_handleBy_cons (codeAny_handlers_test ?_) (by intro z; cases z)
    have LM := PySem.W.exm_one J3.kIn LT hb1
    have test : ∀ {Q : Value → Shared → Prop} {E : Value → Shared → Prop}, Q c { heap := h3, gens := s'.gens, drawn := s'.drawn, toks := s'.toks, os := s'.os } → wpAny (model X.prog X.w) (X.A.mark (some (.ref a))) (eval (.Name x np) X.env) Q E { heap := h3, gens := s'.gens, drawn := s'.drawn, toks := s'.toks, os := s'.os } := fun {Q E} q => by
      obtain ⟨hg, hdbg, hm | ⟨hm, hv, hnn⟩⟩ := hc
      · exact ld_glob (X := X.suite a ((a, oe3) :: (X.pn ++ pins))) S3 hg hm q hdbg
      · exact ld_blt (X := X.suite a ((a, oe3) :: (X.pn ++ pins))) S3 hg hm hv q hnn hdbg
    refine test (PySem.W.Looks.here LM ?_)
    refine codeAny_handlers_suite_as (HandSPX.lands_againZ fl3 fun h4 fl4 up4 => ?_)
    have J4 := J.landed (s' := { heap := h4, gens := s'.gens, drawn := s'.drawn, toks := s'.toks, os := s'.os }) nb fl4.left ((up.trans up3).trans up4) os ag
    obtain ⟨oe4, vs4, he4, hz4, hd4⟩ := fl4.there
    have S4 := J4.suite he4 hd4 na nL nF
    refine store_ok (X := X.suite a ((a, oe4) :: (X.pn ++ pins))) (v := .ref a) S4 hN hi hloc rfl (fun s5 S5 => ?_) (.inr hnl)
    have suite : PSs (X.suite a ((a, oe4) :: (X.pn ++ pins))) [.Assign [.Name y p1] (.Name n p2) p3] _ := pss_one (ps_asg (pe_var (i := i) hi (.inl hnl) hdb hcd) (pg_name (i := j) hN hj (.inl hyl) (.inr hyl)) hsw)
    have il : i < σ'.length := by
      rw [J.len]
      exact (List.getElem?_eq_some_iff.mp hi).1
    refine wpAny_mono (suite.run [] s5 (σ'.set i (some (.ref a))) H' { nx := fun σ6 H6 => σ6 = (σ'.set i (some (.ref a))).set j (some (.ref a)) ∧ H6 = H', rt := fun _ _ => False } S5 ⟨.ref a, by rw [List.getElem?_set_self il], rfl, rfl⟩) (fun f s6 hsp => ?_) fun e s' z => z.elim
    cases f with
    | next =>
      obtain ⟨σ6, H6, S6, rfl, rfl⟩ := hsp
      have he6 := (S6.pin (a, oe4) (List.mem_append_left _ List.mem_cons_self)).1
      have K6 := keep_inv (Inv.unsuite S6 ok) he6 hz4 hd4 na nL h0 hp
      exact gone_ok K6 hN hi hln fun s7 J7 => ⟨_, _, J7, hyes a na⟩
    | brk =>
      obtain ⟨_, _, _, z⟩ := hsp
      exact z.elim
    | cont =>
      obtain ⟨_, _, _, z⟩ := hsp
      exact z.elim
    | ret v =>
      obtain ⟨_, _, _, _, _, z⟩ := hsp
      exact z.elim
  · intro f s1 hsp
    cases f with
    | next =>
      obtain ⟨σ', H', J', q⟩ := hsp
      exact wpAny_execs_nil ⟨σ', H', J'.ofTry ok, q⟩
    | brk =>
      obtain ⟨σ', H', J', q⟩ := hsp
      exact ⟨σ', H', J'.ofTry ok, q⟩
    | cont =>
      obtain ⟨σ', H', J', q⟩ := hsp
      exact ⟨σ', H', J'.ofTry ok, q⟩
    | ret v =>
      obtain ⟨v', σ', H', J', r, q⟩ := hsp
      exact ⟨v', σ', H', J'.ofTry ok, r, q⟩
end Rw
namespace Rw
open PySem PySem.Spec PyProof.Rows L2
/-! ### what is asked of a kept error -/
open PySem.W in
theorem kin_classD {prog : Program} {w : World} {A : Around} {E : Value → Shared → Prop} {s : Shared} {K : PySem.W.Frag} {x D : Addr} {ox od : Obj} {Q : Option Value → Shared → Prop} (hga : PySem.W.findIn K (.ref D) "__getattribute__" = some (some (.builtin "BaseException.__getattribute__"))) (hgt : PySem.W.findIn K (.ref D) "__getattr__" = some none)
    (hsub : PySem.W.subIn K (.ref D) (.type "BaseException") = some true) (hdct : PySem.W.hasDictIn K D = true) (ha : PySem.W.findIn K (.ref D) "__class__" = some (some (.builtin "object.__class__"))) (hn : PySem.W.specialIn K (.builtin "object.__class__") "__get__" = some (some (.builtin "getset_descriptor.__get__"))) (htk : PySem.W.takesIn K (.builtin "object.__class__") = some true) (hm : PySem.W.mroIn K D (.type "object") = some true)
    (X : K.In s.heap) (I : PySem.W.InstAt s.heap x ox D (some od)) (h : Q (some (.ref D)) { heap := s.heap, gens := s.gens, drawn := s.drawn, toks := s.toks + 1, os := s.os }) : wpAny (model prog w) A (getAttr? (.ref x) "__class__") Q E s := by
  have hf := PySem.W.findObj_data (K := K) (C := D) (od := od) (by obtain ⟨cd, hc, _⟩ := PySem.W.any_some hdct; rw [hc]; rfl) ha hn htk
  obtain ⟨hp, g, d, t, os⟩ := s
  have L0 := PySem.W.InstAt.type (M := model prog w) I
  have L1 := PySem.W.looks_findIn (M := model prog w) X hga
  have L2 := PySem.W.looks_findIn (M := model prog w) X hgt
  have L3 := PySem.W.looks_find (M := model prog w) X I hf
  have sub : PySem.W.Looks (model prog w) hp (typeOf (.ref x) >>= fun t => isSubtype t (.type "BaseException")) true := PySem.W.Looks.andThen L0 (PySem.W.looks_subIn X hsub)
  unfold getAttr?
  refine wpAny_bind (wpAny_mkText (wpAny_bind (wpAny_attempt (wpAny_holding ?_))))
  refine wpAny_bind (PySem.W.Looks.at L0 (wpAny_bind (PySem.W.Looks.at L1 ?_)))
  have c1 : (onTheHeap (Value.ref D) && (Value.builtin "BaseException.__getattribute__" == Value.builtin "object.__getattribute__")) = false := by
    rw [show (Value.builtin "BaseException.__getattribute__" == Value.builtin "object.__getattribute__") = false by decide]
    rfl
  show wpAny _ _ (if (onTheHeap (Value.ref D) && (Value.builtin "BaseException.__getattribute__" == Value.builtin "object.__getattribute__")) = true then _ else _) _ _ _
  rw [c1, if_neg Bool.false_ne_true]
  unfold getAttrByItsOwn
  refine wpAny_bind ?_
  unfold hookBefore
  rw [if_pos (show onTheHeap (Value.ref D) = true from rfl)]
  refine PySem.W.Looks.at L2 (wpAny_bind (wpAny_attempt (wpAny_holding ?_)))
  unfold callGetattribute
  rw [if_neg (show ¬ ((false && onTheHeap (Value.builtin "BaseException.__getattribute__")) = true) from Bool.false_ne_true)]
  unfold boundAndCalled
  rw [F.excAttr_ValueError.ga.bind (Value.ref x)]
  refine wpAny_bind (wpAny_pure ?_)
  show wpAny _ _ (call (Value.builtin "BaseException.__getattribute__") [.ref x, .str "__class__" t]) _ _ _
  refine wpAny_call ?_
  refine codeAny_call_builtin (id := "BaseException.__getattribute__") (b := Builtin.«object.__getattribute__») F.excAttr_ValueError.ga.plain F.entry_bexc_ga ?_
  refine PySem.W.check_slot (i := "BaseException.__getattribute__") (owner := "BaseException") (n := "__getattribute__") (self := .ref x) (rest := [.str "__class__" t]) (kw := []) PySem.W.kin_classE._proof_2 PySem.W.kin_classE._proof_3 sub (F.args_bexc_ga (.ref x) (.str "__class__" t)) ?_
  unfold Builtin.«object.__getattribute__»
  refine wpAny_bind ?_
  refine wpAny_of_eq (a := (Value.ref x, [Value.str "__class__" t])) rfl ?_
  refine wpAny_bind (wpAny_pure (wpAny_bind (PySem.W.Looks.at L0 (wpAny_bind (PySem.W.Looks.at L3 ?_)))))
  unfold Builtin.ObjectAttr.bindTo
  refine wpAny_bind (wpAny_holding (wpAny_call (PySem.W.class_get X I hm (wpAny_pure ?_))))
  show wpAny (model prog w) A (handedOut (.ref D)) _ _ _
  rw [PySem.W.handedOut_of rfl]
  exact wpAny_pure (wpAny_pure h)
theorem cls_at {K : PySem.W.Frag} {D : Addr} (h : PySem.W.hasDictIn K D = true) : ∃ o cd, K.lookup D = some o ∧ o.data = .cls cd := by
  obtain ⟨cd, hc, _⟩ := PySem.W.any_some h
  unfold PySem.W.clsIn at hc
  split at hc
  · rename_i heq
    exact ⟨_, _, heq, rfl⟩
  · cases hc
theorem kitx_excD {K : PySem.W.Frag} {x D : Addr} {ox od : Obj} (C : ExcC K D) : PySem.W.KitX K (.ref x) (.ref D) (fun h => PySem.W.InstAt h x ox D (some od)) := by
  obtain ⟨⟨cl, dc, da, sl⟩, cd, ho, hd⟩ := cls_at C.hd
  refine ⟨fun M h X I => PySem.W.InstAt.type I, fun M h X _ => ?_, fun h tp dd its n sl' X htp => ?_, fun X I k => kin_classD C.hg C.hk C.hs C.hd C.ha C.hn C.ht C.hm X I k⟩
  · subst hd
    intro A' Q' E' s' k q
    exact wpAny_bind (wpAny_loadPart (k D _ (X D _ ho)) (wpAny_pure q))
  · refine Bool.eq_false_iff.mpr fun q => ?_
    have e := Value.ref.inj (beq_iff_eq.mp q)
    subst e
    have z := (X D _ ho).symm.trans htp
    cases z
    cases hd
/-- isinstance(caught, C): None, or a kept error -/
def rIsH (K : PySem.W.Frag) : List V → Hp → VK → Prop := fun xs H Q => ∃ (x c : V) (u : Value), xs = [x, c] ∧ (∀ v, RelV c v → v = u) ∧
  ((x = .non ∧ ∃ b, PySem.W.kitOne K (.type "NoneType") u = some b ∧ Q (.bl b) H) ∨
   (∃ (a D dd : Addr) (fs : List (Str × V)) (b : Bool), x = .ref a ∧ H a = some (ExH (.ref D) (some dd) a) ∧ H dd = some (.xd fs) ∧ ExcC K D ∧ PySem.W.kitOne K (.ref D) u = some b ∧ Q (.bl b) H))
theorem call_isH {X : Cx} : CallR X (.builtin "isinstance") (rIsH X.K) := by
  intro pins s σ H xs us Q I r h
  obtain ⟨x, c, u, rfl, hu, h⟩ := h
  cases r with
  | cons r1 r2 =>
    cases r2 with
    | cons r2 r3 =>
      cases r3
      obtain rfl := hu _ r2
      rcases h with ⟨rfl, b, hk, q⟩ | ⟨a, D, dd, fs, b, rfl, ha, hd, C, hk, q⟩
      · cases r1
        exact PySem.W.kia_one PySem.W.kitx_none I.kIn trivial hk (fun z => nomatch z) fun tk => ⟨.bl b, H, I.tok _, rfl, q⟩
      · obtain ⟨oe, vs, hget, hz, hdat⟩ := (I.hok a _ ha).1
        obtain ⟨mA, hns, hr⟩ := I.hok dd _ hd
        obtain ⟨od, ho, hl⟩ := lookIn_ns hns
        have J : PySem.W.InstAt s.heap a oe D (some od) := ⟨hget, hz.1, by unfold PySem.W.notCls; rw [hdat] <;> rfl, by rw [hz.2]; exact ho⟩
        rw [show _ = Value.ref a from r1]
        exact PySem.W.kia_one (kitx_excD C) I.kIn J hk (fun z => nomatch z) fun tk => ⟨.bl b, H, I.tok _, rfl, q⟩
/-- caught.n -/
def tFldH (C : Addr) (n : Str) (te : TE) : TE := fun σ H Q => te σ H fun x H1 => ∃ (a dd : Addr) (fs : List (Str × V)) (v : V), x = .ref a ∧ H1 a = some (ExH (.ref C) (some dd) a) ∧ H1 dd = some (.xd fs) ∧ fs.lookup n = some v ∧ Q v H1
theorem pe_fldH {X : Cx} {C : Addr} {e : Expr} {te : TE} {pos : Pos} {n : Str} (T : XfC X.K C) (hno : PySem.W.findIn X.K (.ref C) n = some none) (he : PE X e te) (hb : attributeBase e n X.env (eval e X.env) = eval e X.env := by rfl) : PE X (.Attribute e n pos) (tFldH C n te) := by
  refine ⟨fun pins s σ H Q I h => attr_of hb (thn (he.run pins s σ H _ I h) fun u s1 ⟨x, H1, I1, rx, a, dd, fs, v, ex, ha, hdd, l, q⟩ => ?_)⟩
  subst ex
  obtain rfl : u = Value.ref a := rx
  obtain ⟨oe, vs, hget, hz, hdat⟩ := (I1.hok a _ ha).1
  obtain ⟨mA, hns, hr⟩ := I1.hok dd _ hdd
  obtain ⟨od, ho, hl⟩ := lookIn_ns hns
  obtain ⟨u, hu, ru⟩ := RelO.some_of (v := v) (o := mA n) (by rw [← l]; exact hr n)
  have J : PySem.W.InstAt s1.heap a oe C (some od) := ⟨hget, hz.1, by unfold PySem.W.notCls; rw [hdat] <;> rfl, by rw [hz.2]; exact ho⟩
  exact HandSPX.exc_get I1.kIn J T.ga T.gg T.exC (PySem.W.findObj_own T.hdC hno rfl (by rw [hl, hu])) (handed_of ru) ⟨v, H1, I1.tok _, ru, q⟩
end Rw
namespace Rw
open PySem PySem.Spec PyProof.Rows L2
/-! ### own errors with one field -/
/-- __init__(self, n): self.n = n -/
def spErr (C : Addr) (n : Str) : Sp := fun vs H Q _ => ∃ (a : Addr) (v : V), vs = [.ref a, v] ∧ H a = some (exo a C none) ∧ ∀ dx, H dx = none → dx ≠ a → Q .non (upd (upd H dx (exd dx [(n, v)])) a (exo a C (some dx)))
/-- C(v) made: what its making asks -/
theorem err_made {C : Addr} {n : Str} {v : V} {H1 : Hp} {Q : XK} (h : ∀ d, H1 d = none → Q (.ref C) (some d) (upd H1 d (.xd [(n, v)]))) : [v].length ≤ 1000 ∧ ∀ a : Addr, H1 a = none → spErr C n (.ref a :: ([v] ++ [])) (upd H1 a (exo a C none))
    (fun u H2 => u = .non ∧ ∃ d fs, H2 a = some (exo a C (some d)) ∧ H2 d = some (exd d fs) ∧ H1 d = none ∧ Q (.ref C) (some d) (upd (del H2 a) d (.xd fs))) (fun _ _ _ => False) := by
  refine ⟨by simp, fun a ha => ⟨a, v, rfl, upd_same, fun dx hdx ne => ?_⟩⟩
  have hd1 : H1 dx = none := by
    rw [upd_ne ne] at hdx
    exact hdx
  refine ⟨rfl, dx, [(n, v)], upd_same, ?_, hd1, ?_⟩
  · rw [upd_ne ne, upd_same]
  · have e : upd (del (upd (upd (upd H1 a (exo a C none)) dx (exd dx [(n, v)])) a (exo a C (some dx))) a) dx (.xd [(n, v)]) = upd H1 dx (.xd [(n, v)]) := by
      funext b
      by_cases h1 : b = dx
      · subst h1
        rw [upd_same, upd_same]
      · rw [upd_ne h1, upd_ne h1]
        by_cases h2 : b = a
        · subst h2
          unfold del
          rw [ha]
          simp
        · unfold del
          rw [if_neg h2, upd_ne h2, upd_ne h1, upd_ne h2]
    rw [e]
    exact h dx hd1
end Rw
namespace Rw
open PySem PySem.Spec PyProof.Rows L2 PySem.Froz
/-! ### comprehensions of any depth: one level of their loops -/
def turnOf (tg : Expr) (ifs : List Expr) (pos : Pos) (it : Value) (env : Env) (bk : Sem PySem.Fin) (c : Code) : Sem PySem.Fin := do
  standAt pos
  let r ← pyNext it
  match r with
  | none => pure (PySem.Fin.done Flow.next)
  | some v => do
    letOwnedTupleGo tg it v
    assign tg env v
    let ok ← forIn ifs true fun c r => if r = true then do let ok ← PySem.isTrue c env (eval c env); pure (ForInStep.yield ok) else pure (ForInStep.yield r)
    if ok = true then bk else again c
def Le (σ σ' : L2.St) : Prop := σ.length = σ'.length ∧ ∀ (i : Nat) (v : V), σ[i]? = some (some v) → σ'[i]? = some (some v)
theorem Le.refl (σ : L2.St) : Le σ σ := ⟨rfl, fun _ _ e => e⟩
theorem Le.trans {a b c : L2.St} (h : Le a b) (g : Le b c) : Le a c := ⟨h.1.trans g.1, fun i v e => g.2 i v (h.2 i v e)⟩
theorem Le.wipe (σ : L2.St) (vs : List Nat) : Le (wipe σ vs) σ := ⟨wipe_length σ vs, fun i v e => (wipe_some e).1⟩
theorem Le.wipes {σ : L2.St} {vs vs1 : List Nat} (h : ∀ i ∈ vs1, i ∈ vs) : Le (L2.wipe σ vs) (L2.wipe σ vs1) := ⟨(wipe_length σ vs).trans (wipe_length σ vs1).symm, fun i v e => by
  obtain ⟨h1, h2⟩ := wipe_some e
  rw [wipe_out fun z => h2 (h i z)]
  exact h1⟩
theorem loop_lvl {Y : Cx} {elt : Expr} {gens : List Comprehension} {scope : Scope} {ep : Pos} {d : Nat} {tg : Expr} {ifs : List Expr} {pos : Pos} {it : Addr} {acc : Value} {bk : Sem PySem.Fin} {fp : List Addr} {tn : Nat → Heap → Prop} {J : It} {pins : List (Addr × Obj)} {σ0 : L2.St} {g : TG} {tt : TT} {B : L2.St → Hp → (Hp → Prop) → Prop} {C : L2.St → Prop} {R : Result → Shared → Prop} {N : Hp → Prop} {W : Nat → Nat → Hp → Prop}
    (hc : Y.calm = true) (hxe : ∀ e s, ¬ Y.xe e s) (hT : compTurn (.SetComp elt gens scope ep) d (.ref it) acc Y.env = turnOf tg ifs pos (.ref it) Y.env bk (.compLoop (.SetComp elt gens scope ep) d (.ref it) acc Y.env)) (T : Turn Y.prog Y.w Y.K tg J fp it tn) (hg : PG Y tg g) (ht : PTs Y ifs tt)
    (hb : ∀ pl s σ H (Nx : Hp → Prop) (Q : PySem.Fin → Shared → Prop) (E : Value → Shared → Prop), L2.Inv Y (pins ++ pl) σ H s → C σ → B σ H Nx → (∀ σ' H' s', L2.Inv Y (pins ++ pl) σ' H' s' → Le σ0 σ' → Nx H' → Q (.again (.compLoop (.SetComp elt gens scope ep) d (.ref it) acc Y.env)) s') → wpAny (model Y.prog Y.w) Y.A bk Q E s)
    (hC : ∀ σ, C σ → Le σ0 σ)
    (turn : ∀ i m H, W i m H → (J.stop i H ∧ N H) ∨ (J.go i H ∧ ∃ Nx : Hp → Prop, (∀ H', Nx H' → ∃ m', m' < m ∧ W (i + 1) m' H') ∧ ∀ x H', J.yld i H x H' → g x σ0 H' fun σ2 H2 => C σ2 ∧ tt σ2 H2 fun b H3 => if b = true then B σ2 H3 Nx else Nx H3))
    (hR : ∀ s' H', L2.Inv Y pins σ0 H' s' → N H' → R (.ok .next) s') :
    ∀ (n i : Nat) (H : Hp) (s : Shared), L2.Inv Y pins σ0 H s → tn i s.heap → (∀ b ∈ fp, FpOk Y pins H b) → W i n H → codeAny (model Y.prog Y.w) Y.A (.compLoop (.SetComp elt gens scope ep) d (.ref it) acc Y.env) R s := by
  intro n i H s I0 t0 f0 w0
  refine codeAny_loop (c := .compLoop (.SetComp elt gens scope ep) d (.ref it) acc Y.env) rfl (fun n s' => ∃ i H', L2.Inv Y pins σ0 H' s' ∧ tn i s'.heap ∧ (∀ b ∈ fp, FpOk Y pins H' b) ∧ W i n H') (fun n s5 ⟨i, H5, I5, st5, n5, w5⟩ => ?_) n ⟨i, H, I0, t0, f0, w0⟩
  show wpAny (model Y.prog Y.w) Y.A (Sem.onRaise (compTurn (.SetComp elt gens scope ep) d (.ref it) acc Y.env) fun x => do noteFrame x Y.env; theTreesLotGoes x) _ _ s5
  refine wpAny_noted ?_
  rw [hT]
  unfold turnOf
  refine wpAny_bind (wpAny_standAt (wpAny_bind ?_))
  rcases turn i n H5 w5 with ⟨stop, qq⟩ | ⟨go, Nx, hNx, step⟩
  · refine thnF (T.done Y rfl rfl rfl hc i pins s5 σ0 H5 (fun _ _ => False) I5 n5 st5 stop) fun r s6 ⟨hr, I6⟩ => ?_
    subst hr
    exact wpAny_pure (hR s6 H5 I6 qq)
  · refine thnF (T.item Y rfl rfl rfl hc i pins s5 σ0 H5 (fun _ _ => False) I5 n5 st5 go) fun r s6 ⟨u, hr, h6⟩ => ?_
    subst hr
    refine wpAny_bind (thnF h6 fun _ s7 ⟨x, H7, I7, r7, y7, st7, n7⟩ => ?_)
    have fp7 : ∀ b ∈ fp, FpOk Y pins H7 b := fun b hb => ⟨n7 b hb, (n5 b hb).2⟩
    have I7' := Inv.pinned I7 fp7 (T.obj (i + 1) s7.heap st7)
    refine wpAny_bind (wpAny_mono (hg.run (pins ++ pinsAt fp s7.heap) s7 σ0 H7 x u _ I7' r7 (step x H7 y7)) (fun _ s8 ⟨σ8, H8, I8, hw8, q8⟩ => ?_) fun e s z => (hxe e s z).elim)
    have fin : ∀ {s' : Shared} {H' : Hp} {σ' : L2.St}, L2.Inv Y (pins ++ pinsAt fp s7.heap) σ' H' s' → Le σ0 σ' → Nx H' → ∃ m, m < n ∧ ∃ i H', L2.Inv Y pins σ0 H' s' ∧ tn i s'.heap ∧ (∀ b ∈ fp, FpOk Y pins H' b) ∧ W i m H' := fun {s' H' σ'} I' le nx => by
      obtain ⟨m', hm, w'⟩ := hNx H' nx
      have pin' : ∀ b ∈ fp, ∀ o, s7.heap.get? b = some o → s'.heap.get? b = some o ∧ H' b = none := fun b hb o e => by
        have z := I'.pin (b, o) (List.mem_append_right Y.pn (List.mem_append_right pins (mem_pinsAt hb e)))
        exact ⟨z.1, z.2.1⟩
      refine ⟨m', hm, i + 1, H', Inv.weak (Inv.unpinned I') le.1 le.2, T.keep (i + 1) s7.heap s'.heap st7 fun b hb o e => (pin' b hb o e).1, fun b hb => ?_, w'⟩
      obtain ⟨o, e, _⟩ := T.obj (i + 1) s7.heap st7 b hb
      exact ⟨(pin' b hb o e).2, (n5 b hb).2⟩
    refine wpAny_bind (wpAny_mono (ht.run _ s8 σ8 H8 _ I8 q8) (fun b s9 ⟨H9, I9, q9⟩ => ?_) fun e s z => (hxe e s z).elim)
    cases b with
    | false =>
      have q9' : Nx H9 := q9
      exact wpAny_pure ⟨rfl, fin I9 (hC σ8 hw8) q9'⟩
    | true =>
      have q9' : B σ8 H9 Nx := q9
      exact hb (pinsAt fp s7.heap) s9 σ8 H9 Nx _ _ I9 hw8 q9' fun σ' H' s' I' le nx => ⟨rfl, fin I' le nx⟩
/-- the start of a level -/
theorem start_lvl {P : Program} {w : World} {A : Around} {R : Result → Shared → Prop} {s : Shared} {elt : Expr} {gens : List Comprehension} {scope : Scope} {ep : Pos} {d : Nat} {t i : Expr} {ifs : List Expr} {it acc : Value} {env : Env} (hcl : gens[d]? = some ⟨t, i, ifs, 0⟩)
    (h0 : codeAny (model P w) A (.compLoop (.SetComp elt gens scope ep) d it acc env) R s) (h : wpAny (model P w) A (pyIter it) (fun it' s' => codeAny (model P w) A (.compLoop (.SetComp elt gens scope ep) d it' acc env) R s') (notedBy (model P w) A env fun x s' => R (.error x) s') s) :
    codeAny (model P w) A (.compStart (.SetComp elt gens scope ep) d it acc env) R s := by
  refine codeAny_of_tree ?_
  show wpAny (model P w) A (Sem.onRaise (compStart (.SetComp elt gens scope ep) d it acc env) fun x => do noteFrame x env; standAt theWindowsPlace) _ _ s
  refine wpAny_notedAt ?_
  unfold compStart
  rw [show (clausesOf (.SetComp elt gens scope ep))[d]? = some ⟨t, i, ifs, 0⟩ from hcl]
  show wpAny (model P w) A (ask >>= _) _ _ s
  refine wpAny_bind (wpAny_askSetting ?_)
  split
  · exact wpAny_pure ⟨rfl, h0⟩
  · refine wpAny_bind (wpAny_rule ?_)
    refine wpAny_bind (wpAny_standAt (wpAny_bind (wpAny_mono h (fun it' s' h' => wpAny_pure ⟨rfl, h'⟩) fun _ _ z => z)))
/-! ### a set of texts, one more put in -/
theorem addX_ok {X : Cx} {pins : List (Addr × Obj)} {σ : L2.St} {H : Hp} {s : Shared} {E : Value → Shared → Prop} {D : Addr} {ms : List Str} {z : Str} {u : Tok} {Q : Value → Shared → Prop} (I : L2.Inv X pins σ H s) (hD : H D = some (XSetO X.prog X.w D ms)) (room : ms.length + 1 < scanBound)
    (h : ∀ s' ms', ms'.Nodup → (∀ y, y ∈ ms' ↔ y = z ∨ y ∈ ms) → ms'.length ≤ ms.length + 1 → L2.Inv X pins σ (upd H D (XSetO X.prog X.w D ms')) s' → Q .none s') : wpAny (model X.prog X.w) X.A (call (.builtin "set.add") [.ref D, .str z u]) Q E s := by
  obtain ⟨es, ep, t, R⟩ := (I.hok D _ hD).1
  refine wpAny_call_entry PySem.F.slot_set_add ⟨_, R.ob, rfl⟩ PySem.F.entry_set_add ?_ (PySem.F.args_set_add_2 _ _)
  unfold Builtin.«set.add»
  show wpAny _ _ (Builtin.Frozenset.oneOther "add" _ >>= _) _ _ _
  unfold Builtin.Frozenset.oneOther
  refine wpAny_bind (wpAny_bind (wpAny_pure (wpAny_bind (wpAny_pure (wpAny_pure ?_)))))
  unfold setAdd
  refine wpAny_bind (wpAny_holding (wpAny_bind ((strKind X.prog X.w).pyHash (k := z) (is_str _ _) ?_)))
  refine put_text (s := { s with toks := s.toks + 1 }) R room fun b h' ms' es' ep' t' sb R' hm hl' => ?_
  refine wpAny_pure ⟨.none, rfl, h _ ms' R'.nd hm hl' ?_⟩
  exact Inv.write (I.tok (s.toks + 1)) (by rw [hD]; exact True.intro) (Or.inl rfl) (fun b u hb hu => (sb.2 b hb).trans hu) ⟨_, R'.ob⟩ ⟨⟨es', ep', t', R'⟩, ⟨_, R'.ob⟩, fun h1 h2 ⟨a1, a2, a3, a4⟩ kk => ⟨a1, a2, a3, a4.moved kk⟩⟩
/-! ### {e for x in a for y in b for z in c}, of texts -/
def lvlR (wi : TI) (g : TG) (vs : List Nat) (B : L2.St → Hp → (Hp → Prop) → Prop) : L2.St → Hp → (Hp → Prop) → Prop := fun σ H N => wi σ H fun J H1 => ∃ W : Nat → Nat → Hp → Prop, (∃ m, W 0 m H1) ∧
  ∀ i m H, W i m H → (J.stop i H ∧ N H) ∨ (J.go i H ∧ ∃ Nx : Hp → Prop, (∀ H', Nx H' → ∃ m', m' < m ∧ W (i + 1) m' H') ∧ ∀ x H', J.yld i H x H' → g x (wipe σ vs) H' fun σ2 H2 => wipe σ2 vs = wipe σ vs ∧ B σ2 H2 Nx)
def lastR (P : Program) (w : World) (D : Addr) (te : TE) : L2.St → Hp → (Hp → Prop) → Prop := fun σ H N => te σ H fun y H1 => ∃ z ms, y = .str z ∧ H1 D = some (XSetO P w D ms) ∧ ms.length + 1 < scanBound ∧ ∀ ms', ms'.Nodup → (∀ u, u ∈ ms' ↔ u = z ∨ u ∈ ms) → ms'.length ≤ ms.length + 1 → N (upd H1 D (XSetO P w D ms'))
def tSc3 (P : Program) (w : World) (wi0 wi1 wi2 : TI) (g0 g1 g2 : TG) (te : TE) (vs vs1 vs2 : List Nat) : TE := fun σ H Q => wi0 σ H fun J H1 => ∀ D, H1 D = none → ∃ W : Nat → Nat → Hp → Prop, (∃ m, W 0 m (upd H1 D (XSetO P w D []))) ∧
  ∀ i m H, W i m H → (J.stop i H ∧ Q (.ref D) H) ∨ (J.go i H ∧ ∃ Nx : Hp → Prop, (∀ H', Nx H' → ∃ m', m' < m ∧ W (i + 1) m' H') ∧ ∀ x H', J.yld i H x H' → g0 x (wipe σ vs) H' fun σ2 H2 => wipe σ2 vs = wipe σ vs ∧ lvlR wi1 g1 vs1 (lvlR wi2 g2 vs2 (lastR P w D te)) σ2 H2 Nx)
section
variable {elt t0 i0 t1 i1 t2 i2 : Expr} {scope : Scope} {ep : Pos}
abbrev gens3 (t0 i0 t1 i1 t2 i2 : Expr) : List Comprehension := [⟨t0, i0, [], 0⟩, ⟨t1, i1, [], 0⟩, ⟨t2, i2, [], 0⟩]
def bkIn (i1 : Expr) (e : Expr) (d : Nat) (acc : Value) (env : Env) (c : Code) : Sem PySem.Fin := do
  let x ← eval i1 env
  standAt i1.pos
  let x ← foldedSetIterable i1 env x
  let it ← holding [x] (pyIter x)
  let _ ← runOwn (.compStart e (d + 1) it acc env) env
  again c
def bkLast (elt : Expr) (acc : Value) (env : Env) (c : Code) : Sem PySem.Fin := do
  let _ ← (do let v ← eval elt env; standAt elt.pos; let _ ← call (.builtin "set.add") [acc, v]; pure () : Sem Unit)
  again c
theorem turn3_0 (it acc : Value) (env : Env) : compTurn (.SetComp elt (gens3 t0 i0 t1 i1 t2 i2) scope ep) 0 it acc env = turnOf t0 [] i0.pos it env (bkIn i1 (.SetComp elt (gens3 t0 i0 t1 i1 t2 i2) scope ep) 0 acc env (.compLoop (.SetComp elt (gens3 t0 i0 t1 i1 t2 i2) scope ep) 0 it acc env)) (.compLoop (.SetComp elt (gens3 t0 i0 t1 i1 t2 i2) scope ep) 0 it acc env) := rfl
theorem turn3_1 (it acc : Value) (env : Env) : compTurn (.SetComp elt (gens3 t0 i0 t1 i1 t2 i2) scope ep) 1 it acc env = turnOf t1 [] i1.pos it env (bkIn i2 (.SetComp elt (gens3 t0 i0 t1 i1 t2 i2) scope ep) 1 acc env (.compLoop (.SetComp elt (gens3 t0 i0 t1 i1 t2 i2) scope ep) 1 it acc env)) (.compLoop (.SetComp elt (gens3 t0 i0 t1 i1 t2 i2) scope ep) 1 it acc env) := rfl
theorem turn3_2 (it acc : Value) (env : Env) : compTurn (.SetComp elt (gens3 t0 i0 t1 i1 t2 i2) scope ep) 2 it acc env = turnOf t2 [] i2.pos it env (bkLast elt acc env (.compLoop (.SetComp elt (gens3 t0 i0 t1 i1 t2 i2) scope ep) 2 it acc env)) (.compLoop (.SetComp elt (gens3 t0 i0 t1 i1 t2 i2) scope ep) 2 it acc env) := rfl
theorem bk_step {Y : Cx} {elt : Expr} {gens : List Comprehension} {scope : Scope} {ep : Pos} {d : Nat} {tg iter : Expr} {acc : Value} {wi : TI} {g : TG} {vs : List Nat} {B : L2.St → Hp → (Hp → Prop) → Prop} {bkf : Value → Sem PySem.Fin} {D : L2.St → L2.St → Prop}
    (hc : Y.calm = true) (hxe : ∀ e s, ¬ Y.xe e s) (hgen : gens[d + 1]? = some ⟨tg, iter, [], 0⟩) (hs : ∀ x, foldedSetIterable iter Y.env x = pure x) (hi : PI Y tg iter wi) (hg : PG Y tg g)
    (hT : ∀ it, compTurn (.SetComp elt gens scope ep) (d + 1) it acc Y.env = turnOf tg [] iter.pos it Y.env (bkf it) (.compLoop (.SetComp elt gens scope ep) (d + 1) it acc Y.env))
    (hb : ∀ it pl s σ H (Nx : Hp → Prop) (Q : PySem.Fin → Shared → Prop) (E : Value → Shared → Prop), L2.Inv Y pl σ H s → B σ H Nx → (∀ σ' H' s', L2.Inv Y pl σ' H' s' → D σ σ' → Nx H' → Q (.again (.compLoop (.SetComp elt gens scope ep) (d + 1) it acc Y.env)) s') → wpAny (model Y.prog Y.w) Y.A (bkf it) Q E s)
    (hD : ∀ σ σ2 σ', wipe σ2 vs = wipe σ vs → D σ2 σ' → Le (wipe σ vs) σ') :
    ∀ pl s σ H (Nx : Hp → Prop) (Q : PySem.Fin → Shared → Prop) (E : Value → Shared → Prop) (c : Code), L2.Inv Y pl σ H s → lvlR wi g vs B σ H Nx → (∀ H' s', L2.Inv Y pl (wipe σ vs) H' s' → Nx H' → Q (.again c) s') → wpAny (model Y.prog Y.w) Y.A (bkIn iter (.SetComp elt gens scope ep) d acc Y.env c) Q E s := by
  intro pl s σ H Nx Q E c I hL hQ
  unfold bkIn
  refine wpAny_bind (wpAny_mono (hi.run pl s σ H _ I hL) (fun v s1 h1 => ?_) (fun e s z => (hxe e s z).elim))
  refine wpAny_bind (wpAny_standAt ?_)
  rw [hs v]
  refine wpAny_bind (wpAny_pure ?_)
  refine wpAny_bind (wpAny_holding (wpAny_mono h1 (fun itv s2 ⟨it, fp, tn, J, H2, e, I2, T, st2, f2, W, ⟨m, w0⟩, turn⟩ => ?_) (fun e s z => (hxe e s z).elim)))
  subst e
  have I2' : L2.Inv Y pl (wipe σ vs) H2 s2 := Inv.weak I2 (Le.wipe σ vs).1 (Le.wipe σ vs).2
  have loop : ∀ R : Result → Shared → Prop, (∀ s' H', L2.Inv Y pl (wipe σ vs) H' s' → Nx H' → R (.ok .next) s') → codeAny (model Y.prog Y.w) Y.A (.compLoop (.SetComp elt gens scope ep) (d + 1) (.ref it) acc Y.env) R s2 := fun R hR =>
    loop_lvl (Y := Y) (σ0 := wipe σ vs) (C := fun σ2 => wipe σ2 vs = wipe σ vs) (B := B) (tt := tYes) (W := W) (N := Nx) hc hxe (hT (.ref it)) T hg pts_nil
      (fun pl2 s σ2 H Nx2 Q E I hC hB hq => hb (.ref it) (pl ++ pl2) s σ2 H Nx2 Q E I hB fun σ' H' s' I' hd nx => hq σ' H' s' I' (hD σ σ2 σ' hC hd) nx)
      (fun σ2 hC => by have z := Le.wipe σ2 vs; rw [hC] at z; exact z) turn hR m 0 H2 s2 I2' st2 f2 w0
  refine wpAny_bind (wpAny_runOwn (h := none) (start_lvl hgen ?_ ?_))
  · exact loop _ fun s' H' I' nx => wpAny_pure (hQ H' s' I' nx)
  · exact T.self _ 0 s2 _ _ st2 (loop _ fun s' H' I' nx => wpAny_pure (hQ H' s' I' nx))
theorem last_step {Y : Cx} {elt : Expr} {D : Addr} {te : TE} (hxe : ∀ e s, ¬ Y.xe e s) (he : PE Y elt te) :
    ∀ pl s σ H (Nx : Hp → Prop) (Q : PySem.Fin → Shared → Prop) (E : Value → Shared → Prop) (c : Code), L2.Inv Y pl σ H s → lastR Y.prog Y.w D te σ H Nx → (∀ H' s', L2.Inv Y pl σ H' s' → Nx H' → Q (.again c) s') → wpAny (model Y.prog Y.w) Y.A (bkLast elt (.ref D) Y.env c) Q E s := by
  intro pl s σ H Nx Q E c I hL hQ
  unfold bkLast
  refine wpAny_bind (wpAny_bind (wpAny_mono (he.run pl s σ H _ I hL) (fun v s1 ⟨y, H1, I1, ry, z, ms, ey, hD, room, next⟩ => ?_) (fun e s z => (hxe e s z).elim)))
  subst ey
  obtain ⟨u, rfl⟩ := ry
  exact wpAny_bind (wpAny_standAt (wpAny_bind (addX_ok I1 hD room fun s' ms' nd hm hl I' => wpAny_pure (wpAny_pure (hQ _ s' I' (next ms' nd hm hl))))))
/-- a set comprehension of three clauses, of texts -/
theorem pe_sc3 {X : Cx} {own : List (Str × Nat)} {wi0 wi1 wi2 : TI} {g0 g1 g2 : TG} {te : TE} {vs1 vs2 : List Nat} (hc : X.calm = true) (hN : X.N.Nodup) (hi : PI X t0 i0 wi0) (ok : BlkOk X.N X.env.scope scope own) (hv1 : ∀ i ∈ vs1, i ∈ own.map (·.2)) (hv2 : ∀ i ∈ vs2, i ∈ vs1)
    (hg0 : ∀ s H C cl fp, PG (X.blk s H scope (compEnvC scope cl C X.env) fp) t0 g0) (hi1 : ∀ s H C cl fp, PI (X.blk s H scope (compEnvC scope cl C X.env) fp) t1 i1 wi1) (hg1 : ∀ s H C cl fp, PG (X.blk s H scope (compEnvC scope cl C X.env) fp) t1 g1)
    (hi2 : ∀ s H C cl fp, PI (X.blk s H scope (compEnvC scope cl C X.env) fp) t2 i2 wi2) (hg2 : ∀ s H C cl fp, PG (X.blk s H scope (compEnvC scope cl C X.env) fp) t2 g2) (he : ∀ s H C cl fp, PE (X.blk s H scope (compEnvC scope cl C X.env) fp) elt te)
    (hs : ∀ x, foldedSetIterable i0 X.env x = pure x := by intro x; rfl) (hs1 : ∀ env x, foldedSetIterable i1 env x = pure x := by intro env x; rfl) (hs2 : ∀ env x, foldedSetIterable i2 env x = pure x := by intro env x; rfl) :
    PE X (.SetComp elt (gens3 t0 i0 t1 i1 t2 i2) scope ep) (tSc3 X.prog X.w wi0 wi1 wi2 g0 g1 g2 te (own.map (·.2)) vs1 vs2) := by
  refine ⟨fun pins s σ H Q I h => ?_⟩
  rw [PpSet.eval_SetComp]
  have hfree : ∀ y ∈ scope.names, y.2 = NameKind.free → ∃ c, X.env.cells.lookup y.1 = some c := fun y hy e => (ok.free y hy e).elim (fun k => I.ok.has y.1 (.inl k)) fun k => I.ok.has y.1 (.inr k)
  refine wpAny_comprehension_free (g := ⟨t0, i0, [], 0⟩) (gs := [⟨t1, i1, [], 0⟩, ⟨t2, i2, [], 0⟩]) rfl hs (closure_ok hfree) ok.kind (fun y hy e => by rw [ok.uniq y hy, e]) ?_
  refine thn (hi.run pins s σ H _ I h) fun xv s1 hx => thn hx fun itv s2 ⟨it, fp, tn, J, H2, e, I2, T, st2, f2, q⟩ => ?_
  subst e
  refine PpSet.newSet_ok ?_
  refine newEnv_comp ?_
  have hDn := I2.hok.fresh (Nat.le_refl _)
  obtain ⟨W, ⟨m0, w0⟩, turn⟩ := q s2.heap.objs.size hDn
  have ho : (s2.heap.push (newSetObj X.w)).get? s2.heap.objs.size = some (newSetObj X.w) := Heap.get?_push_size s2.heap rfl
  have R0 : XSet X.prog X.w (s2.heap.push (newSetObj X.w)) s2.heap.objs.size [] #[] 0 (.fresh 0 0 (!X.w.params.followText "set-order")) := ⟨ho, TxOk.nil rfl, List.nodup_nil, List.Pairwise.nil, led_new X.w⟩
  have new : ObjOk X.prog X.w (upd H2 s2.heap.objs.size (XSetO X.prog X.w s2.heap.objs.size [])) (s2.heap.push (newSetObj X.w)) s2.heap.objs.size (XSetO X.prog X.w s2.heap.objs.size []) :=
    ⟨⟨_, _, _, R0⟩, ⟨_, ho⟩, fun h1 h2 ⟨a1, a2, a3, a4⟩ kk => ⟨a1, a2, a3, a4.moved kk⟩⟩
  have I3 : L2.Inv X pins σ (upd H2 s2.heap.objs.size (XSetO X.prog X.w s2.heap.objs.size [])) { s2 with heap := s2.heap.push (newSetObj X.w) } := I2.laid (t' := s2.toks) (fun b o e => Heap.get?_push_of_some _ e) (Nat.le_refl _) new
  have sz : ∀ b ∈ fp, b < s2.heap.objs.size := fun b hb => by
    obtain ⟨o, e, _⟩ := T.obj 0 s2.heap st2 b hb
    exact Heap.lt_size e
  have f3 : ∀ b ∈ fp, FpOk X pins (upd H2 s2.heap.objs.size (XSetO X.prog X.w s2.heap.objs.size [])) b ∧ b < (s2.heap.push (newSetObj X.w)).objs.size := fun b hb => by
    have hlt := sz b hb
    refine ⟨⟨?_, (f2 b hb).2⟩, ?_⟩
    · rw [upd_ne (Nat.ne_of_lt hlt)]
      exact (f2 b hb).1
    · rw [Heap.size_push]
      exact Nat.lt_succ_of_lt hlt
  have I4 := block_start I3 ok hN f3
  have st4 : tn 0 (pushCells ((s2.heap.push (newSetObj X.w)).push { cls := .type "dict", data := .dict #[] }) scope.names) := T.keep 0 s2.heap _ st2 fun b hb o e => pushCells_keeps scope.names _ b o (Heap.get?_push_of_some _ (Heap.get?_push_of_some _ e))
  let s3 : Shared := { s2 with heap := s2.heap.push (newSetObj X.w) }
  let H3 : Hp := upd H2 s2.heap.objs.size (XSetO X.prog X.w s2.heap.objs.size [])
  let cl := cellsFrom (s3.heap.objs.size + 1) scope.names (cloFrom X.env.cells scope.names [])
  let Y : Cx := X.blk s3 H3 scope (compEnvC scope cl s3.heap.objs.size X.env) fp
  have hxe : ∀ e s, ¬ Y.xe e s := fun _ _ z => z
  have stat : ∀ {σ' H' s'}, L2.Inv Y [] σ' H' s' → (∀ b ∈ fp, H' b = none) → ∀ b ∈ fp, FpOk Y [] H' b := fun {σ' H' s'} I' hn b hb => ⟨hn b hb, (I'.ok.exf b hb).1, I'.ok.exfs b hb, .inl hb, fun x c e => (I'.ok.exf b hb).2 x c e, fun p hp => by
    have z : p ∈ ([] : List (Addr × Obj)) := hp
    exact nomatch z⟩
  have last := last_step (Y := Y) (D := s2.heap.objs.size) hxe (he s3 H3 s3.heap.objs.size cl fp)
  have mid := bk_step (Y := Y) (scope := scope) (ep := ep) (d := 1) (acc := .ref s2.heap.objs.size) (vs := vs2) (D := fun σ σ' => σ' = σ) hc hxe (gens := gens3 t0 i0 t1 i1 t2 i2) rfl (hs2 _) (hi2 s3 H3 s3.heap.objs.size cl fp) (hg2 s3 H3 s3.heap.objs.size cl fp) (fun it => turn3_2 it _ _)
    (fun it pl s σ H Nx Q E I hB hq => last pl s σ H Nx Q E _ I hB fun H' s' I' nx => hq σ H' s' I' rfl nx) (fun σ σ2 σ' hw hd => by subst hd; rw [← hw]; exact Le.wipe _ _)
  have top := bk_step (Y := Y) (scope := scope) (ep := ep) (d := 0) (acc := .ref s2.heap.objs.size) (vs := vs1) (D := fun σ σ' => σ' = wipe σ vs2) hc hxe (gens := gens3 t0 i0 t1 i1 t2 i2) rfl (hs1 _) (hi1 s3 H3 s3.heap.objs.size cl fp) (hg1 s3 H3 s3.heap.objs.size cl fp) (fun it => turn3_1 it _ _)
    (fun it pl s σ H Nx Q E I hB hq => mid pl s σ H Nx Q E _ I hB fun H' s' I' nx => hq _ H' s' I' rfl nx) (fun σ σ2 σ' hw hd => by subst hd; rw [← hw]; exact Le.wipes hv2)
  have loop : ∀ R : Result → Shared → Prop, (∀ s' H', L2.Inv Y [] (wipe σ (own.map (·.2))) H' s' → Q (.ref s2.heap.objs.size) H' → R (.ok .next) s') → codeAny (model Y.prog Y.w) Y.A (.compLoop (.SetComp elt (gens3 t0 i0 t1 i1 t2 i2) scope ep) 0 (.ref it) (.ref s2.heap.objs.size) Y.env) R _ := fun R hR =>
    loop_lvl (Y := Y) (σ0 := wipe σ (own.map (·.2))) (pins := []) (C := fun σ2 => wipe σ2 (own.map (·.2)) = wipe σ (own.map (·.2))) (B := lvlR wi1 g1 vs1 (lvlR wi2 g2 vs2 (lastR Y.prog Y.w s2.heap.objs.size te))) (tt := tYes) (W := W) (N := fun H' => Q (.ref s2.heap.objs.size) H') hc hxe (turn3_0 _ _ _) T (hg0 s3 H3 s3.heap.objs.size cl fp) pts_nil
      (fun pl2 s σ2 H Nx2 Q E I hC hB hq => top pl2 s σ2 H Nx2 Q E _ I hB fun H' s' I' nx => hq _ H' s' I' (by rw [← hC]; exact Le.wipes hv1) nx)
      (fun σ2 hC => by have z := Le.wipe σ2 (own.map (·.2)); rw [hC] at z; exact z) turn hR m0 0 H3 _ I4 st4 (stat I4 fun b hb => (f3 b hb).1.1) w0
  have fin : ∀ s6 H5, L2.Inv Y [] (wipe σ (own.map (·.2))) H5 s6 → Q (.ref s2.heap.objs.size) H5 → compPost (model X.prog X.w) X.A X.xe none (EP X pins σ Q) (.ref s2.heap.objs.size) s3.heap.objs.size (.ok .next) s6 := fun s6 H5 I6 qq => by
    have I7 : L2.Inv X pins σ H5 s6 := Inv.call' I3 I6.os I6.base I6.hok I6.bare fun b hb => ⟨(f3 b hb).1.2.2.2.1, (f3 b hb).1.2.1, (f3 b hb).1.2.2.2.2.1, (f3 b hb).1.2.2.2.2.2⟩
    have nC : H5 s3.heap.objs.size = none := I6.free
    obtain ⟨m, hn, _⟩ := I6.loc
    obtain ⟨k0, k1, k2, k3, k4, k5⟩ := Inv.fpOk I3 (Nat.le_refl _) nC
    exact ⟨m, hn, fun h'' sb => ⟨.ref s2.heap.objs.size, H5, Inv.turned I7 (fun b o hb e => (sb.2 b hb).trans e) k0 k1 k3 k4 k5, rfl, qq⟩⟩
  refine start_lvl (d := 0) (t := t0) (i := i0) (ifs := []) rfl ?_ ?_
  · exact loop _ fin
  · exact T.self _ 0 _ _ _ st4 (loop _ fin)
end
end Rw
namespace Rw
open PySem PySem.Spec PyProof.Rows L2
/-! ### the text -/
def topS (i : Nat) : Stmt := PySem.Challenge.pw_ruleworlds_k30_founded_values.main.body.getD i (.Pass ⟨0, 0, 0, 0⟩)
abbrev sIsName : Stmt := topS 10
abbrev sIsWorld : Stmt := topS 11
abbrev sIsRule : Stmt := topS 12
abbrev sAreNames : Stmt := topS 14
abbrev sSetOf : Stmt := topS 15
abbrev sInit : Stmt := inClass (topS 13) 0
abbrev sOf : Stmt := inClass (topS 13) 1
abbrev sRules : Stmt := inClass (topS 13) 5
theorem scIsName : FnScope ["thing", "letter"] ["thing"] (defScope sIsName) := ⟨rfl, rfl, rfl, by decide +kernel, rfl, by decide +kernel, by decide +kernel⟩
theorem scIsWorld : FnScope ["thing"] ["thing"] (defScope sIsWorld) := ⟨rfl, rfl, rfl, by decide +kernel, rfl, by decide +kernel, by decide +kernel⟩
theorem scIsRule : FnScope ["thing", "part"] ["thing"] (defScope sIsRule) := ⟨rfl, rfl, rfl, by decide +kernel, rfl, by decide +kernel, by decide +kernel⟩
theorem scAreNames : FnScope ["thing", "item"] ["thing"] (defScope sAreNames) := ⟨rfl, rfl, rfl, by decide +kernel, rfl, by decide +kernel, by decide +kernel⟩
theorem scSetOf : FnScope ["names"] ["names"] (defScope sSetOf) := ⟨rfl, rfl, rfl, by decide +kernel, rfl, by decide +kernel, by decide +kernel⟩
theorem scInit : FnScope ["self", "rules", "place", "row"] ["self", "rules"] (defScope sInit) := ⟨rfl, rfl, rfl, by decide +kernel, rfl, by decide +kernel, by decide +kernel⟩
theorem scOf : FnScope ["cls", "rules"] ["cls", "rules"] (defScope sOf) := ⟨rfl, rfl, rfl, by decide +kernel, rfl, by decide +kernel, by decide +kernel⟩
theorem scRules : FnScope ["self"] ["self"] (defScope sRules) := ⟨rfl, rfl, rfl, by decide +kernel, rfl, by decide +kernel, by decide +kernel⟩
/-- the built-in names that the text does not bind -/
structure Bl (mg : Str → Option Value) : Prop where
  len : mg "len" = none
  isi : mg "isinstance" = none
  all : mg "all" = none
  any : mg "any" = none
  tuple : mg "tuple" = none
  list : mg "list" = none
  sorted : mg "sorted" = none
  set : mg "set" = none
  str : mg "str" = none
  int : mg "int" = none
  max : mg "max" = none
  min : mg "min" = none
  range : mg "range" = none
  enum : mg "enumerate" = none
/-! ### odd values -/
def nameD : PyData → Bool
  | .str x => nameB x
  | _ => false
def oddN : PyData → Prop
  | .str x => x.cps.size ≤ 10000
  | .bool _ => False
  | .dict _ => False
  | _ => True
def tyName : PyData → String
  | .none => "NoneType"
  | .bool _ => "bool"
  | .int _ => "int"
  | .str _ => "str"
  | .list _ => "list"
  | .tuple _ => "tuple"
  | .dict _ => "dict"
theorem tyx_dp {K : PySem.W.Frag} {H : Hp} {x : V} {d : PyData} (h : Dp K H x d) : TyX K H x (.type (tyName d)) := by
  cases h with
  | non => exact .base .non
  | bl b => exact .base (.bl b)
  | int i => exact .base (.int i)
  | str x => exact .base (.str x)
  | lst h1 _ =>
    rcases h1 with (h | ⟨o, h⟩) | ⟨o, its, n, h1, h2, _⟩
    · exact .base (.lst h)
    · exact .base (.frz h)
    · exact .kList h1 h2
  | tup h1 _ => exact tyx_tup h1
section
variable {K : PySem.W.Frag} {H H' : Hp}
mutual
theorem dp_same (e : Same H H') : ∀ (d : PyData) (x : V), Dp K H x d → Dp K H' x d
  | .none, _, h => by cases h; exact .non
  | .bool _, _, h => by cases h; exact .bl _
  | .int _, _, h => by cases h; exact .int _
  | .str _, _, h => by cases h; exact .str _
  | .list ds, _, h => by
    cases h with
    | lst h1 h2 => exact .lst (e.seq h1) (dpAll_same e ds _ h2)
  | .tuple ds, _, h => by
    cases h with
    | tup h1 h2 => exact .tup (same_tup e h1) (dpAll_same e ds _ h2)
  | .dict _, _, h => by cases h
theorem dpAll_same (e : Same H H') : ∀ (ds : List PyData) (xs : List V), DpAll K H xs ds → DpAll K H' xs ds
  | [], _, h => by cases h; exact .nil
  | d :: ds, _, h => by
    cases h with
    | cons h1 h2 => exact .cons (dp_same e d _ h1) (dpAll_same e ds _ h2)
end
end
theorem letter_in {c : Nat} : decide (c ∈ lettersS.cps.toList) = letter c := by
  cases h : letter c with
  | true => exact decide_eq_true (in_letters h)
  | false =>
    refine decide_eq_false fun m => ?_
    have all : (lettersS.cps.toList.all letter) = true := by decide +kernel
    rw [List.all_eq_true.mp all c m] at h
    exact nomatch h
section
variable {P : Program} {w : World} {K : PySem.W.Frag} {mg : Str → Option Value} {base : Heap} {f : Addr} {fd : FuncData} {k : Nat}
/-! ### is_name -/
def spIsName (K : PySem.W.Frag) : Sp := fun vs H Q _ => ∃ (x : V) (d : PyData), vs = [x] ∧ Dp K H x d ∧ oddN d ∧ ∀ H', Same H H' → Q (.bl (nameD d)) H'
theorem ok_isName (F : Fun K "is_name" "is_name" sIsName f fd) (T : Bl mg) (mL : ∃ t, mg "LETTERS" = some (.str lettersS t)) : FnOk P w K mg base CX0 (k + 1) f fd ["thing"] (spIsName K) := by
  refine F.ok scIsName (fun vs H Q E h => ?_) (fun cdv A outer s H vs Q E hr h => ?_)
  · obtain ⟨x, d, rfl, _⟩ := h
    rfl
  obtain ⟨x, d, rfl, hd, odd, q⟩ := h
  obtain ⟨tl, mL⟩ := mL
  refine ⟨_, pss_cons (ps_if (PW.pt (pw_or (pt_not (pt_val (pe_callB call_isi (by rfl) T.isi PyProof.Rows.boot_isinstance (pa_cons (pv 0) (pa_cons (pe_bltn (v := .ty "str") (by rfl) T.str (by decide +kernel) rfl) pa_nil)))))
      (pw_or1 (pt_cmpR op_eq (pv 0) pe_str (nomark _))))) (pss_one (ps_ret pe_bl)) pss_nil)
    (pss_one (ps_ret (pe_and (pe_chain op_le op_le pe_int (pe_callB call_len_str (by rfl) T.len PySem.boot_len (pa_cons (pv 0) pa_nil)) pe_int)
      (pe_one (pe_callB (cr_all rfl) (by rfl) T.all (by decide +kernel) (pa_cons (pe_lc (own := [("letter", 1)]) (g := gName 1) (by rfl) scIsName.nd (pi_str (pv 0)) (blkOk_by (N := ["thing", "letter"]) (sc := defScope sIsName) (by decide +kernel))
        (fun _ _ _ _ _ => pg_name (i := 1) scIsName.nd rfl (Or.inl rfl)) (fun _ _ _ _ _ => pts_nil) (fun _ _ _ _ _ => pe_cmpR op_in_sign (pv 1) (pe_glob (v := .str lettersS) (by rfl) mL ⟨_, rfl⟩) (by rfl))) pa_nil)))))), ?_⟩
  have cases' : (∃ t : String, TyX K H x (.type t) ∧ PySem.W.kitOne K (.type t) (.type "str") = some false ∧ nameD d = false) ∨ ∃ z, d = .str z := by
    have ty := tyx_dp hd
    cases d with
    | none => exact .inl ⟨"NoneType", ty, kit_ty (by decide +kernel), rfl⟩
    | bool _ => exact absurd odd id
    | dict _ => exact absurd odd id
    | int i => exact .inl ⟨"int", ty, kit_ty (by decide +kernel), rfl⟩
    | list ds => exact .inl ⟨"list", ty, kit_ty (by decide +kernel), rfl⟩
    | tuple ds => exact .inl ⟨"tuple", ty, kit_ty (by decide +kernel), rfl⟩
    | str z => exact .inr ⟨z, rfl⟩
  rcases cases' with ⟨t, h1, h2, h3⟩ | ⟨z, rfl⟩
  · refine ⟨x, rfl, x, .ty "str", .type t, .type "str", false, rfl, .ty "str", h1, h2, false, rfl, iteT ?_⟩
    have := q H fun _ _ e => e
    rw [h3] at this
    exact this
  · cases hd
    have few : z.cps.size ≤ 10000 := odd
    refine ⟨.str z, rfl, .str z, .ty "str", .type "str", .type "str", true, rfl, .ty "str", .base (.str z), kit_ty (by decide +kernel), true, rfl, ?_⟩
    refine ⟨.str z, rfl, rfl, _, rfl, ?_⟩
    refine ite2 (fun e => ?_) (fun e => ?_)
    · have ez : z = notS := V.str.inj (of_decide_eq_true e)
      have en : nameB z = false := by
        rw [ez]
        decide +kernel
      have := q H fun _ _ e => e
      rw [show nameD (.str z) = nameB z from rfl, en] at this
      exact this
    · have nz : z ≠ notS := fun h => e (decide_eq_true (by rw [h]; rfl))
      have val : nameB z = (decide (1 ≤ z.cps.size) && (decide (z.cps.size ≤ 8) && z.cps.toList.all letter)) := by
        unfold nameB
        rw [decide_eq_false nz]
        cases z.cps.toList.all letter <;> cases decide (1 ≤ z.cps.size) <;> cases decide (z.cps.size ≤ 8) <;> rfl
      have q' : ∀ H', Same H H' → Q (.bl (decide (1 ≤ z.cps.size) && (decide (z.cps.size ≤ 8) && z.cps.toList.all letter))) H' := fun H' s => by
        have := q H' s
        rw [show nameD (.str z) = nameB z from rfl, val] at this
        exact this
      refine ⟨.str z, rfl, z, rfl, small_line few, 1, z.length, rfl, rfl, decide ((1 : Int) ≤ (z.length : Int)), rfl, ite2 (fun e1 => ?_) (fun e1 => ?_)⟩
      · have h1 : decide (1 ≤ z.cps.size) = true := by
          have := of_decide_eq_true e1
          exact decide_eq_true (by have : (1 : Int) ≤ (z.cps.size : Int) := this; omega)
        rw [h1] at q'
        refine ⟨z.length, 8, rfl, rfl, decide ((z.length : Int) ≤ 8), rfl, ite2 (fun e2 => ?_) (fun e2 => ?_)⟩
        · have h2 : decide (z.cps.size ≤ 8) = true := by
            have := of_decide_eq_true e2
            exact decide_eq_true (by have : (z.cps.size : Int) ≤ 8 := this; omega)
          rw [h2] at q'
          refine ⟨.str z, rfl, z, rfl, fun D hD => ?_⟩
          have s1 : Same H (upd H D (.lst [])) := same_new hD _
          refine lc_sgn (x := z) (fun i H1 => Same H H1 ∧ H1 D = some (.lst ((z.cps.toList.take i).map fun c => V.bl (letter c)))) ⟨s1, upd_same⟩ (fun i c H1 hc hI => ?_) (fun H1 hI => ?_)
          · obtain ⟨sm, hd⟩ := hI
            have hc' : z.cps.toList[i]? = some c := by rw [Array.getElem?_toList]; exact hc
            have il : i < z.cps.size := (Array.getElem?_eq_some_iff.mp hc).1
            refine ⟨rfl, .str ⟨#[c]⟩, rfl, c, lettersS, rfl, rfl, ?_⟩
            rw [letter_in]
            refine ⟨_, hd, small_line' (by rw [List.length_map, List.length_take, Array.length_toList]; omega), same_put sm hD, ?_⟩
            rw [upd_same, take_snoc hc', List.map_append]
            rfl
          · obtain ⟨sm, hd⟩ := hI
            rw [show z.cps.size = z.cps.toList.length by rw [Array.length_toList], List.take_length] at hd
            refine ⟨D, z.cps.toList.map letter, rfl, SqL.of (by rw [List.map_map]; exact hd), ?_⟩
            have eq : (z.cps.toList.map letter).all id = z.cps.toList.all letter := by
              rw [List.all_map]
              rfl
            rw [eq]
            exact q' H1 sm
        · have h2 : decide (z.cps.size ≤ 8) = false := decide_eq_false fun h => e2 (decide_eq_true (by show (z.cps.size : Int) ≤ 8; omega))
          rw [h2] at q'
          exact q' H fun _ _ e => e
      · have h1 : decide (1 ≤ z.cps.size) = false := decide_eq_false fun h => e1 (decide_eq_true (by show (1 : Int) ≤ (z.cps.size : Int); omega))
        rw [h1] at q'
        exact ⟨false, rfl, iteF (q' H fun _ _ e => e)⟩
end
end Rw
namespace Rw
open PySem PySem.Spec PyProof.Rows L2
/-! ### worlds of odd values -/
def strOf : PyData → Str
  | .str x => x
  | _ => notS
theorem strs_of : ∀ {ds : List PyData}, ds.all nameD = true → ds = (ds.map strOf).map PyData.str ∧ ∀ x ∈ ds.map strOf, nameB x = true
  | [], _ => ⟨rfl, fun x hx => nomatch hx⟩
  | d :: ds, h => by
    rw [List.all_cons, Bool.and_eq_true] at h
    obtain ⟨h1, h2⟩ := h
    obtain ⟨e, hn⟩ := strs_of h2
    cases d with
    | str x =>
      refine ⟨by rw [List.map_cons, List.map_cons, ← e]; rfl, fun y hy => ?_⟩
      rw [List.map_cons] at hy
      rcases List.mem_cons.mp hy with z | hy
      · rw [z]
        exact h1
      · exact hn y hy
    | _ => exact absurd h1 (by simp [nameD])
instance (ns : W) : Decidable (UpX ns) := inferInstanceAs (Decidable (ns.Pairwise fun a b => a.cps.toList < b.cps.toList))
def worldD : PyData → Bool
  | .tuple ds => ds.all nameD && decide (UpX (ds.map strOf))
  | _ => false
def oddW : PyData → Prop
  | .tuple ds => (∀ d ∈ ds, oddN d) ∧ ds.length ≤ 40
  | .bool _ => False
  | .dict _ => False
  | _ => True
theorem worldD_wd {ns : W} (h : IsW ns) : worldD (wd ns) = true := by
  unfold worldD wd
  have e1 : ((ns.map PyData.str).all nameD) = true := by
    rw [List.all_map, List.all_eq_true]
    exact fun x hx => h.names x hx
  have e2 : (ns.map PyData.str).map strOf = ns := by
    rw [List.map_map]
    exact List.map_id' ns
  show ((ns.map PyData.str).all nameD && decide (UpX ((ns.map PyData.str).map strOf))) = true
  rw [e1, e2, decide_eq_true h.up]
  rfl
theorem worldD_of {d : PyData} (o : oddW d) (h : worldD d = true) : ∃ ns, IsW ns ∧ d = wd ns := by
  cases d with
  | tuple ds =>
    have h' : (ds.all nameD && decide (UpX (ds.map strOf))) = true := h
    rw [Bool.and_eq_true] at h'
    obtain ⟨h1, h2⟩ := h'
    obtain ⟨e, hn⟩ := strs_of h1
    refine ⟨ds.map strOf, ⟨hn, of_decide_eq_true h2, by rw [List.length_map]; exact o.2⟩, ?_⟩
    unfold wd
    rw [← e]
  | _ => exact nomatch h
theorem oddN_name {x : Str} (h : nameB x = true) : oddN (.str x) := by
  obtain ⟨_, _, h3, _⟩ := nameB_iff.mp h
  show x.cps.size ≤ 10000
  omega
theorem oddW_wd {ns : W} (h : IsW ns) : oddW (wd ns) := ⟨fun d hd => by
  obtain ⟨x, hx, rfl⟩ := List.mem_map.mp hd
  exact oddN_name (h.names x hx), by rw [List.length_map]; exact h.few⟩
theorem shaped_names {ns : W} (h : ∀ x ∈ ns, nameB x = true) : SeqAt.shaped (wd ns) = true := shaped_of (lay_wd h) (by rw [depth_wd]; decide)
section
variable {P : Program} {w : World} {K : PySem.W.Frag} {mg : Str → Option Value} {base : Heap} {f : Addr} {fd : FuncData} {k : Nat}
def spAreNames (K : PySem.W.Frag) : Sp := fun vs H Q _ => ∃ (a : Addr) (xs : List V) (ds : List PyData), vs = [.ref a] ∧ SqT K H a xs ∧ DpAll K H xs ds ∧ (∀ d ∈ ds, oddN d) ∧ ds.length ≤ 1000 ∧ ∀ H', Same H H' → Q (.bl (ds.all nameD)) H'
theorem ok_areNames {f1 : Addr} {fd1 : FuncData} (F : Fun K "_are_names" "_are_names" sAreNames f fd) (T : Bl mg) (G : FnOk P w K mg base CX0 k f1 fd1 ["thing"] (spIsName K)) (b1 : Binds K fd1 ["thing"] []) (k1 : PySem.W.keepIn K (.ref f1) = true) (m1 : mg "is_name" = some (.ref f1)) :
    FnOk P w K mg base CX0 (k + 1) f fd ["thing"] (spAreNames K) := by
  refine F.ok scAreNames (fun vs H Q E h => ?_) (fun cdv A outer s H vs Q E hr h => ?_)
  · obtain ⟨a, xs, ds, rfl, _⟩ := h
    rfl
  obtain ⟨a, xs, ds, rfl, hS, hx, odd, few, q⟩ := h
  have xl := dpAll_len hx
  refine ⟨_, pss_one (ps_ret (pe_and (pe_isiTL (pv 0) (by rfl) T.isi (pa_cons (pe_bltn (v := .ty "tuple") (by rfl) T.tuple (by decide +kernel) rfl) (pa_cons (pe_bltn (v := .ty "list") (by rfl) T.list (by decide +kernel) rfl) pa_nil)))
      (pe_one (pe_callB (cr_all rfl) (by rfl) T.all (by decide +kernel) (pa_cons (pe_lc (own := [("item", 1)]) (g := gName 1) (by rfl) scAreNames.nd (pi_tup (pv 0)) (blkOk_by (N := ["thing", "item"]) (sc := defScope sAreNames) (by decide +kernel))
        (fun _ _ _ _ _ => pg_name (i := 1) scAreNames.nd rfl (Or.inl rfl)) (fun _ _ _ _ _ => pts_nil) (fun _ _ _ _ _ => pe_call G hr (by rfl) m1 k1 b1 .nil pass0 (pa_cons (pv 1) pa_nil))) pa_nil))))), ?_⟩
  refine ⟨.ref a, rfl, ⟨a, _, rfl, hS⟩, fun T0 hT => ⟨true, rfl, iteT ?_⟩⟩
  have s0 : Same H (upd H T0 (.tup [.ty "tuple", .ty "list"])) := same_new hT _
  generalize upd H T0 (.tup [.ty "tuple", .ty "list"]) = H0 at s0 ⊢
  refine ⟨.ref a, rfl, a, rfl, ⟨_, same_tup s0 hS⟩, fun D hD => ?_⟩
  have s1 : Same H0 (upd H0 D (.lst [])) := same_new hD _
  refine lc_tup (xs := xs) (fun i H1 => Same H0 H1 ∧ H1 D = some (.lst ((ds.take i).map fun d => V.bl (nameD d)))) ⟨s1, upd_same⟩ (fun i H1 _ hI => same_tup (s0.trans hI.1) hS) (fun i x H1 hxi hI => ?_) (fun H1 hI => ?_)
  · obtain ⟨sm, hd⟩ := hI
    obtain ⟨d, hdi, hxd⟩ := dpAll_at' hx hxi
    have il : i < ds.length := (List.getElem?_eq_some_iff.mp hdi).1
    refine ⟨rfl, x, rfl, x, d, rfl, dp_same (s0.trans sm) _ _ hxd, odd d (List.mem_of_getElem? hdi), fun H2 sm2 => ⟨_, sm2 _ _ hd, small_line' (by rw [List.length_map, List.length_take]; omega), same_put (sm.trans sm2) hD, ?_⟩⟩
    rw [upd_same, take_snoc hdi, List.map_append]
    rfl
  · obtain ⟨sm, hd⟩ := hI
    rw [xl, List.take_length] at hd
    refine ⟨D, ds.map nameD, rfl, SqL.of (by rw [List.map_map]; exact hd), ?_⟩
    have z : (ds.map nameD).all id = ds.all nameD := by
      rw [List.all_map]
      rfl
    rw [z]
    exact q H1 (s0.trans sm)
/-! ### _set_of -/
def spSetOf (K : PySem.W.Frag) : Sp := fun vs H Q _ => ∃ (a : Addr) (ns : W), vs = [.ref a] ∧ (SqL K H a (ns.map V.str) ∨ SqT K H a (ns.map V.str)) ∧ ns.length < 1000 ∧ ∀ (H' : Hp) (p : Addr) (zs : W), Same H H' → H' p = some (.tup (zs.map V.str)) → UpX zs → (∀ z, z ∈ zs ↔ z ∈ ns) → Q (.ref p) H'
theorem ok_setOf (F : Fun K "_set_of" "_set_of" sSetOf f fd) (T : Bl mg) : FnOk P w K mg base CX0 (k + 1) f fd ["names"] (spSetOf K) := by
  refine F.ok scSetOf (fun vs H Q E h => ?_) (fun cdv A outer s H vs Q E hr h => ?_)
  · obtain ⟨a, ns, rfl, _⟩ := h
    rfl
  obtain ⟨a, ns, rfl, hS, few, q⟩ := h
  refine ⟨_, pss_one (ps_ret (pe_callTy call_tuple_of (by rfl) T.tuple (by decide +kernel) (pa_cons (pe_callB (cr_sortX rfl hr.units) (by rfl) T.sorted (by decide +kernel) (pa_cons (pe_callTy (cr_setX rfl hr.units) (by rfl) T.set (by decide +kernel) (pa_cons (pv 0) pa_nil)) pa_nil)) pa_nil))), ?_⟩
  refine ⟨.ref a, rfl, a, ns, rfl, hS, few, fun b ms hb nd hm hl => ?_⟩
  refine ⟨b, ms, rfl, upd_same, by omega, fun zs p hz nz hlz rz hp => ?_⟩
  refine ⟨p, zs.map V.str, rfl, .inl ⟨SqL.of upd_same, fun l hl2 => ?_⟩⟩
  exact q _ l zs ((same_new hb _).trans ((same_new hp _).trans (same_new hl2 _))) upd_same (upX_of rz nz) fun z => (hz z).trans (hm z)
/-! ### is_world -/
def spIsWorld (K : PySem.W.Frag) : Sp := fun vs H Q _ => ∃ (x : V) (d : PyData), vs = [x] ∧ Dp K H x d ∧ oddW d ∧ ∀ H', Same H H' → Q (.bl (worldD d)) H'
theorem ok_isWorld {f1 f2 : Addr} {fd1 fd2 : FuncData} (F : Fun K "is_world" "is_world" sIsWorld f fd) (T : Bl mg) (G1 : FnOk P w K mg base CX0 k f1 fd1 ["thing"] (spAreNames K)) (b1 : Binds K fd1 ["thing"] []) (k1 : PySem.W.keepIn K (.ref f1) = true) (m1 : mg "_are_names" = some (.ref f1))
    (G2 : FnOk P w K mg base CX0 k f2 fd2 ["names"] (spSetOf K)) (b2 : Binds K fd2 ["names"] []) (k2 : PySem.W.keepIn K (.ref f2) = true) (m2 : mg "_set_of" = some (.ref f2)) : FnOk P w K mg base CX0 (k + 1) f fd ["thing"] (spIsWorld K) := by
  refine F.ok scIsWorld (fun vs H Q E h => ?_) (fun cdv A outer s H vs Q E hr h => ?_)
  · obtain ⟨x, d, rfl, _⟩ := h
    rfl
  obtain ⟨x, d, rfl, hx, odd, q⟩ := h
  refine ⟨_, pss_one (ps_ret (pe_and (pe_callB call_isi (by rfl) T.isi PyProof.Rows.boot_isinstance (pa_cons (pv 0) (pa_cons (pe_bltn (v := .ty "tuple") (by rfl) T.tuple (by decide +kernel) rfl) pa_nil)))
    (pe_and (pe_call G1 hr (by rfl) m1 k1 b1 .nil pass0 (pa_cons (pv 0) pa_nil)) (pe_one (pe_cmpR (op_eqD hr.units) (pv 0) (pe_call G2 hr (by rfl) m2 k2 b2 .nil pass0 (pa_cons (pv 0) pa_nil)) (nomark _)))))), ?_⟩
  have cases' : (∃ t : String, TyX K H x (.type t) ∧ PySem.W.kitOne K (.type t) (.type "tuple") = some false ∧ worldD d = false) ∨ ∃ ds, d = .tuple ds := by
    have ty := tyx_dp hx
    cases d with
    | none => exact .inl ⟨"NoneType", ty, kit_ty (by decide +kernel), rfl⟩
    | bool _ => exact absurd odd id
    | dict _ => exact absurd odd id
    | int i => exact .inl ⟨"int", ty, kit_ty (by decide +kernel), rfl⟩
    | list ds => exact .inl ⟨"list", ty, kit_ty (by decide +kernel), rfl⟩
    | str z => exact .inl ⟨"str", ty, kit_ty (by decide +kernel), rfl⟩
    | tuple ds => exact .inr ⟨ds, rfl⟩
  rcases cases' with ⟨t, h1, h2, h3⟩ | ⟨ds, rfl⟩
  · refine ⟨x, rfl, x, .ty "tuple", .type t, .type "tuple", false, rfl, .ty "tuple", h1, h2, false, rfl, iteF ?_⟩
    have := q H fun _ _ e => e
    rw [h3] at this
    exact this
  obtain ⟨o1, o2⟩ := odd
  cases hx with
  | @tup a xs _ hS hxs =>
    refine ⟨.ref a, rfl, .ref a, .ty "tuple", .type "tuple", .type "tuple", true, rfl, .ty "tuple", tyx_tup hS, kit_ty (by decide +kernel), true, rfl, iteT ?_⟩
    refine ⟨.ref a, rfl, a, xs, ds, rfl, hS, hxs, o1, by omega, fun H1 s1 => ⟨_, rfl, ?_⟩⟩
    have val : ∀ b, ds.all nameD = b → worldD (.tuple ds) = (b && decide (UpX (ds.map strOf))) := fun b e => by
      rw [← e]
      rfl
    refine ite2 (fun c => ?_) (fun c => ?_)
    · rw [val _ c] at q
      obtain ⟨e, hn⟩ := strs_of c
      have ex : xs = (ds.map strOf).map V.str := dps_str (K := K) (H := H) (by rw [← e]; exact hxs)
      rw [ex] at hS
      refine ⟨.ref a, rfl, .ref a, rfl, a, ds.map strOf, rfl, .inr (same_tup s1 hS), by rw [List.length_map]; omega, fun H2 p zs s2 hp hu hm => ?_⟩
      have hz : ∀ x ∈ zs, nameB x = true := fun x hx => hn x ((hm x).mp hx)
      refine ⟨wd (ds.map strOf), wd zs, to_wd (same_tup (s1.trans s2) hS), to_wd (SqT.of hp), shaped_names hn, shaped_names hz, ?_⟩
      rw [eqv_wd]
      have ed : decide (ds.map strOf = zs) = decide (UpX (ds.map strOf)) := by
        by_cases u : UpX (ds.map strOf)
        · rw [decide_eq_true u, decide_eq_true (upX_one u hu fun z => (hm z).symm)]
        · rw [decide_eq_false u, decide_eq_false fun z => u (by rw [z]; exact hu)]
      rw [ed]
      exact q H2 (s1.trans s2)
    · rw [val false (by simpa using c)] at q
      exact q H1 s1
/-! ### is_rule -/
def spIsRule (K : PySem.W.Frag) : Sp := fun vs H Q _ => ∃ (x : V) (r : Rl), vs = [x] ∧ Dp K H x (rd r) ∧ IsR r ∧ ∀ H', Same H H' → Q (.bl true) H'
theorem ok_isRule {f1 : Addr} {fd1 : FuncData} (F : Fun K "is_rule" "is_rule" sIsRule f fd) (T : Bl mg) (G1 : FnOk P w K mg base CX0 k f1 fd1 ["thing"] (spIsWorld K)) (b1 : Binds K fd1 ["thing"] []) (k1 : PySem.W.keepIn K (.ref f1) = true) (m1 : mg "is_world" = some (.ref f1)) :
    FnOk P w K mg base CX0 (k + 1) f fd ["thing"] (spIsRule K) := by
  refine F.ok scIsRule (fun vs H Q E h => ?_) (fun cdv A outer s H vs Q E hr h => ?_)
  · obtain ⟨x, r, rfl, _⟩ := h
    rfl
  obtain ⟨x, r, rfl, hx, hr', q⟩ := h
  refine ⟨_, pss_one (ps_ret (pe_and (pe_callB call_isi (by rfl) T.isi PyProof.Rows.boot_isinstance (pa_cons (pv 0) (pa_cons (pe_bltn (v := .ty "tuple") (by rfl) T.tuple (by decide +kernel) rfl) pa_nil)))
    (pe_and (pe_cmpR op_eq (pe_callB call_len_seq (by rfl) T.len PySem.boot_len (pa_cons (pv 0) pa_nil)) pe_int (nomark _)) (pe_one (pe_callB (cr_all rfl) (by rfl) T.all (by decide +kernel) (pa_cons (pe_lc (own := [("part", 1)]) (g := gName 1) (by rfl) scIsRule.nd (pi_tup (pv 0)) (blkOk_by (N := ["thing", "part"]) (sc := defScope sIsRule) (by decide +kernel))
        (fun _ _ _ _ _ => pg_name (i := 1) scIsRule.nd rfl (Or.inl rfl)) (fun _ _ _ _ _ => pts_nil) (fun _ _ _ _ _ => pe_call G1 hr (by rfl) m1 k1 b1 .nil pass0 (pa_cons (pv 1) pa_nil))) pa_nil)))))), ?_⟩
  unfold rd at hx
  cases hx with
  | @tup a xs _ hS hxs =>
    have xl : xs.length = 4 := by
      rw [dpAll_len hxs, List.length_map]
      rfl
    refine ⟨.ref a, rfl, .ref a, .ty "tuple", .type "tuple", .type "tuple", true, rfl, .ty "tuple", tyx_tup hS, kit_ty (by decide +kernel), true, rfl, iteT ?_⟩
    refine ⟨.ref a, rfl, a, xs, rfl, .inr hS, rfl, true, congrArg V.bl (decide_eq_true (by rw [xl]; rfl)), iteT ?_⟩
    refine ⟨.ref a, rfl, a, rfl, ⟨_, hS⟩, fun D hD => ?_⟩
    refine lc_tup (xs := xs) (fun i H1 => Same H H1 ∧ H1 D = some (.lst (List.replicate i (V.bl true)))) ⟨same_new hD _, upd_same⟩ (fun i H1 _ hI => same_tup hI.1 hS) (fun i x H1 hxi hI => ?_) (fun H1 hI => ?_)
    · obtain ⟨sm, hd⟩ := hI
      obtain ⟨d, hdi, hxd⟩ := dpAll_at' hxs hxi
      obtain ⟨t, ht, rfl⟩ := map_at hdi
      have wt := hr'.all t (List.mem_of_getElem? ht)
      have il : i < (parts r).length := (List.getElem?_eq_some_iff.mp ht).1
      have il' : i < 4 := il
      refine ⟨rfl, x, rfl, x, wd t, rfl, (Stay.same sm).wd hxd, oddW_wd wt, fun H2 sm2 => ?_⟩
      rw [worldD_wd wt]
      refine ⟨_, sm2 _ _ hd, small_line' (by rw [List.length_replicate]; omega), same_put (sm.trans sm2) hD, ?_⟩
      rw [upd_same, show List.replicate (i + 1) (V.bl true) = List.replicate i (V.bl true) ++ [V.bl true] from List.replicate_succ']
    · obtain ⟨sm, hd⟩ := hI
      refine ⟨D, List.replicate xs.length true, rfl, SqL.of (by rw [List.map_replicate]; exact hd), ?_⟩
      have z : (List.replicate xs.length true).all id = true := by simp
      rw [z]
      exact q H1 sm
end
end Rw
namespace Rw
open PySem PySem.Spec PyProof.Rows L2
/-! ### programs -/
/-- an instance of the class at C whose rules are S -/
def PgAt (K : PySem.W.Frag) (C : Addr) (H : Hp) (v : V) (S : List Rl) : Prop := ∃ a dx t ys, v = .ref a ∧ H a = some (.ins C dx [(("_rules" : Str), .ref t)]) ∧ SqT K H t ys ∧ DpAll K H ys (S.map rd)
theorem PgAt.same {K : PySem.W.Frag} {C : Addr} {H H' : Hp} {v : V} {S : List Rl} (h : PgAt K C H v S) (e : Same H H') : PgAt K C H' v S := by
  obtain ⟨a, dx, t, ys, h1, h2, h3, h4⟩ := h
  exact ⟨a, dx, t, ys, h1, e _ _ h2, same_tup e h3, dpAll_same e _ _ h4⟩
theorem mut_ins {H : Hp} {p C dx : Addr} {fs : List (Str × V)} (h : H p = some (.ins C dx fs)) : Mut (H p) := by
  rw [h]
  exact True.intro
section
variable {P : Program} {w : World} {K : PySem.W.Frag} {mg : Str → Option Value} {base : Heap} {f : Addr} {fd : FuncData} {k : Nat}
/-- Program.__init__(self, *rules) -/
def spInit (K : PySem.W.Frag) (C : Addr) : Sp := fun vs H Q _ => ∃ (x dx : Addr) (xs : List V) (L : List Rl), vs = .ref x :: xs ∧ H x = some (.ins C dx []) ∧ DpAll K H xs (L.map rd) ∧ (∀ r ∈ L, IsR r) ∧ L.length < 64 ∧
  ∀ H' S, (∀ b u, b ≠ x → H b = some u → H' b = some u) → Srt S L → S.length < 64 → PgAt K C H' (.ref x) S → Q .non H'
theorem ok_init {C f1 : Addr} {fd1 : FuncData} {name qual : Str} {kV doc pm cdv ct oc : Value} {an od : Option Addr} {osl : Array (Option Value)}
    (lk : K.lookup f = some ⟨oc, od, .func (PySem.W.fnOf name qual (defArgs sInit) (defBody sInit) (defScope sInit) .none kV doc pm an cdv ct), osl⟩) (hcd : PySem.W.codeIn K cdv qual = true) (T : Bl mg) (c : Cls K C) (n : NoAttr K C "_rules")
    (G1 : FnOk P w K mg base CX0 k f1 fd1 ["thing"] (spIsRule K)) (b1 : Binds K fd1 ["thing"] []) (k1 : PySem.W.keepIn K (.ref f1) = true) (m1 : mg "is_rule" = some (.ref f1)) : FnR P w K mg base CX0 (k + 1) f (spInit K C) := by
  have main := StX.fn_star (CX := CX0) (P := P) (w := w) (mg := mg) (base := base) (k := k) (N := ["self", "rules", "place", "row"]) (ps := ["self"]) (pv := "rules") (sp := fun vs H Q E => ∃ (x p dx : Addr) (xs : List V) (L : List Rl), vs = [.ref x, .ref p] ∧ H x = some (.ins C dx []) ∧ SqT K H p xs ∧ DpAll K H xs (L.map rd) ∧ (∀ r ∈ L, IsR r) ∧ L.length < 64 ∧
      ∀ H' S, (∀ b u, b ≠ x → H b = some u → H' b = some u) → Srt S L → S.length < 64 → PgAt K C H' (.ref x) S → Q .non H') lk hcd scInit StX.cxUp_none (StX.bind_star1 (p1 := "self") (pv := "rules") (B := fun vs => bindArgs (PySem.W.fnOf name qual (defArgs sInit) (defBody sInit) (defScope sInit) .none kV doc pm an cdv ct) { pos := vs }) (fun _ => by first | rfl | with_unfolding_all rfl) (fun _ _ _ => by first | rfl | with_unfolding_all rfl)) (fun A outer s H vs Q E hr h => ?_)
  · intro A outer s H us vs Q E hr e0 r h
    refine main A outer s H us vs Q E hr e0 r ?_
    obtain ⟨x, dx, xs, L, rfl, hx, hxs, hL, few, q⟩ := h
    refine ⟨[.ref x], xs, rfl, rfl, small_line (by rw [dpAll_len hxs, List.length_map]; omega), fun p hp => ?_⟩
    have sp := same_new hp (.tup xs)
    exact ⟨x, p, dx, xs, L, rfl, sp _ _ hx, SqT.of upd_same, dpAll_same sp _ _ hxs, hL, few, fun H' S hb hs hl hg => q H' S (fun b u nb e => hb b u nb (sp _ _ e)) hs hl hg⟩
  obtain ⟨x, p, dx, xs, L, rfl, hx, hp, hxs, hL, few, q⟩ := h
  have xl : xs.length = L.length := by rw [dpAll_len hxs, List.length_map]
  refine ⟨_, PSs.nox (pss_cons (ps_for PassesOwn.never rfl (pi_enumT (by rfl) T.enum (pa_cons (pv 1) pa_nil)) (pg_tup (by rfl) (pgs_cons (pg_name (i := 2) scInit.nd rfl (.inl rfl)) (pgs_cons (pg_name (i := 3) scInit.nd rfl (.inl rfl)) pgs_nil)))
      (pss_one (ps_if (pt_not (pt_val (pe_call G1 hr (by rfl) m1 k1 b1 .nil pass0 (pa_cons (pv 3) pa_nil)))) pss_never pss_nil)))
    (pss_one (ps_fld (pv 0) (pe_callTy call_tuple_of (by rfl) T.tuple (by decide +kernel) (pa_cons (pe_callB (cr_sortR rfl hr.units) (by rfl) T.sorted (by decide +kernel) (pa_cons (pe_callTy (cr_setR rfl hr.units) (by rfl) T.set (by decide +kernel) (pa_cons (pv 1) pa_nil)) pa_nil)) pa_nil)) rfl))), ?_⟩
  refine ⟨.ref p, rfl, p, xs, rfl, hp, for_enumT (xs := xs) (fun i σ H1 => (∃ y2 y3, σ = [some (.ref x), some (.ref p), y2, y3]) ∧ Same H H1) ⟨⟨none, none, rfl⟩, fun _ _ e => e⟩ (fun i σ H1 _ hI => same_tup hI.2 hp) (fun i v σ H1 T0 hv hI hT => ?_) (fun σ H1 hI => ?_)⟩
  · obtain ⟨⟨y2, y3, rfl⟩, sm⟩ := hI
    obtain ⟨d, hd, hvd⟩ := dpAll_at' hxs hv
    obtain ⟨r, hr', rfl⟩ := map_at hd
    have st := same_new hT (.tup [.int (i : Int), v])
    refine ⟨T0, [.int (i : Int), v], rfl, SqT.of upd_same, rfl, .int (i : Int), [v], rfl, v, [], rfl, rfl, ?_⟩
    refine ⟨v, rfl, v, r, rfl, dp_same (sm.trans st) _ _ hvd, hL r (List.mem_of_getElem? hr'), fun H2 s2 => ⟨true, rfl, iteF ⟨⟨_, _, rfl⟩, sm.trans (st.trans s2)⟩⟩⟩
  · obtain ⟨⟨y2, y3, rfl⟩, sm⟩ := hI
    refine ⟨.ref p, rfl, p, xs, L, rfl, .inr (same_tup sm hp), dpAll_same sm _ _ hxs, few, fun a M ha hM isP hall => ?_⟩
    have sa := same_new ha (TSetO w a M)
    refine ⟨a, M, L, rfl, upd_same, (fun e he => ⟨(hM e he).1, (Stay.same sa).dp _ _ (hM e he).1.ok (hM e he).2⟩), isP, hall, fun ys S l hS hSl hys hl => ?_⟩
    have sl := same_new hl (.lst ys)
    refine ⟨l, ys, rfl, .inl ⟨SqL.of upd_same, fun t ht => ?_⟩⟩
    have st := same_new ht (.tup ys)
    have all := sm.trans (sa.trans (sl.trans st))
    refine ⟨.ref x, rfl, x, C, dx, _, rfl, all _ _ hx, c, n, by show 0 < 1000; decide, ?_⟩
    have hx' := all _ _ hx
    have stp := Stay.put (mut_ins hx') (.ins C dx [(("_rules" : Str), .ref t)])
    refine q _ S (fun b u nb e => ?_) hS hSl ⟨x, dx, t, ys, rfl, upd_same, stp.seq (SqT.of upd_same), (Stay.same st |>.trans stp).dpAll _ _ (okDs_rd S) ((Stay.same sl).dpAll _ _ (okDs_rd S) hys)⟩
    rw [upd_ne nb]
    exact all _ _ e
/-- a program made: where the class is called with the rules L -/
theorem made_ok {C : Addr} {H : Hp} {xs : List V} {L : List Rl} {Q : VK} {E : XK} (hx : DpAll K H xs (L.map rd)) (hL : ∀ r ∈ L, IsR r) (few : L.length < 64) (q : ∀ H' v S, Same H H' → Srt S L → S.length < 64 → PgAt K C H' v S → Q v H') :
    ∀ x dx, H x = none → H dx = none → dx ≠ x → spInit K C (.ref x :: xs) (upd (upd H dx (.own x)) x (.ins C dx [])) (fun v H2 => v = .non ∧ Q (.ref x) H2) E := fun x dx hx0 hd0 ne => by
  have s1 := same_new hd0 (.own x)
  have hx1 : (upd H dx (.own x)) x = none := by
    rw [upd_ne ne.symm]
    exact hx0
  have s2 := s1.trans (same_new hx1 (.ins C dx []))
  refine ⟨x, dx, xs, L, rfl, upd_same, (Stay.same s2).dpAll _ _ (okDs_rd L) hx, hL, few, fun H' S hb hS hl hg => ⟨rfl, q H' _ S (fun b u e => ?_) hS hl hg⟩⟩
  exact hb b u (ne_of_none e hx0) (s2 _ _ e)
/-- Program.of(cls, rules) -/
def spOf (K : PySem.W.Frag) (C : Addr) : Sp := fun vs H Q _ => ∃ (l : Addr) (xs : List V) (L : List Rl), vs = [.ref C, .ref l] ∧ (SqT K H l xs ∨ SqL K H l xs) ∧ DpAll K H xs (L.map rd) ∧ (∀ r ∈ L, IsR r) ∧ L.length < 64 ∧ ∀ H' v S, Same H H' → Srt S L → S.length < 64 → PgAt K C H' v S → Q v H'
theorem ok_of {C f1 : Addr} (F : Fun K "of" "Program.of" sOf f fd) (M : Mk K C f1) (G : FnR P w K mg base CX0 k f1 (spInit K C)) : FnOk P w K mg base CX0 (k + 2) f fd ["cls", "rules"] (spOf K C) := by
  refine F.ok scOf (fun vs H Q E h => ?_) (fun cdv A outer s H vs Q E hr h => ?_)
  · obtain ⟨l, xs, L, rfl, _⟩ := h
    rfl
  obtain ⟨l, xs, L, rfl, hS, hx, hL, few, q⟩ := h
  refine ⟨_, pss_one (ps_ret (pe_makeSL (i := 0) M G hr rfl (.inl rfl) pass0 (pv 1))), ?_⟩
  exact ⟨rfl, .ref l, rfl, l, xs, rfl, hS, made_ok hx hL few q⟩
/-- program.rules -/
def spRules (K : PySem.W.Frag) (C : Addr) : Sp := fun vs H Q _ => ∃ (v : V) (S : List Rl), vs = [v] ∧ PgAt K C H v S ∧ ∀ t ys, SqT K H t ys → DpAll K H ys (S.map rd) → Q (.ref t) H
theorem ok_rules {C : Addr} (F : Fun K "rules" "Program.rules" sRules f fd) (c : Cls K C) (n : NoAttr K C "_rules") : FnOk P w K mg base CX0 (k + 1) f fd ["self"] (spRules K C) := by
  refine F.ok scRules (fun vs H Q E h => ?_) (fun cdv A outer s H vs Q E hr h => ?_)
  · obtain ⟨v, S, rfl, _⟩ := h
    rfl
  obtain ⟨v, S, rfl, ⟨a, dx, t, ys, rfl, h1, h2, h3⟩, q⟩ := h
  refine ⟨_, pss_one (ps_ret (pe_fld (pv 0) rfl)), ?_⟩
  exact ⟨.ref a, rfl, a, C, dx, _, .ref t, rfl, h1, c, n, rfl, q t ys h2 h3⟩
end
end Rw
namespace Rw
open PySem PySem.Spec PyProof.Rows L2
/-! ### Program.names -/
abbrev sNames : Stmt := inClass (topS 13) 6
theorem scNames : FnScope ["self", "row", "part", "name"] ["self"] (defScope sNames) := ⟨rfl, rfl, rfl, by decide +kernel, rfl, by decide +kernel, by decide +kernel⟩
/-- a walk over a tuple, the heap followed, as one level of a comprehension reads it -/
theorem lvl_tup {K : PySem.W.Frag} {a : Addr} {xs : List V} {H0 : Hp} {Qd : Hp → Prop} {B : V → Hp → (Hp → Prop) → Prop} (Pv : Nat → Hp → Prop) (h0 : Pv 0 H0) (hl : ∀ i H, i ≤ xs.length → Pv i H → SqT K H a xs) (hs : ∀ i x H, xs[i]? = some x → Pv i H → B x H (Pv (i + 1))) (hd : ∀ H, Pv xs.length H → Qd H) :
    ∃ W : Nat → Nat → Hp → Prop, (∃ m, W 0 m H0) ∧ ∀ i m H, W i m H → ((Itt K a).stop i H ∧ Qd H) ∨ ((Itt K a).go i H ∧ ∃ Nx : Hp → Prop, (∀ H', Nx H' → ∃ m', m' < m ∧ W (i + 1) m' H') ∧ ∀ x H', (Itt K a).yld i H x H' → B x H' Nx) := by
  refine ⟨fun i m H => m = xs.length - i ∧ i ≤ xs.length ∧ Pv i H, ⟨xs.length, by simp, Nat.zero_le _, h0⟩, ?_⟩
  rintro i m H ⟨rfl, hi, p⟩
  have hS := hl i H hi p
  by_cases hlt : i < xs.length
  · refine .inr ⟨⟨xs, xs[i], hS, List.getElem?_eq_getElem hlt⟩, Pv (i + 1), fun H' p' => ⟨xs.length - (i + 1), by omega, rfl, hlt, p'⟩, fun y H' yy => ?_⟩
    obtain ⟨rfl, fv⟩ := yy
    exact hs i y _ (fv xs hS) p
  · have e : i = xs.length := by omega
    subst e
    exact .inl ⟨⟨xs, hS, Nat.le_refl _⟩, hd H p⟩
/-- the names of a rule, of rules -/
def ownN (r : Rl) : W := (parts r).flatMap id
def namesL (S : List Rl) : W := S.flatMap ownN
theorem ownN_len {r : Rl} (h : IsR r) : (ownN r).length ≤ 160 := by
  unfold ownN parts
  simp only [List.flatMap_cons, List.flatMap_nil, List.length_append, List.length_nil, id]
  have := h.h.few
  have := h.d.few
  have := h.n.few
  have := h.b.few
  omega
section
variable {P : Program} {w : World} {K : PySem.W.Frag} {mg : Str → Option Value} {base : Heap} {f : Addr} {fd : FuncData} {k : Nat}
/-- the sorted names of a program whose names are among few -/
def spNames (K : PySem.W.Frag) (C : Addr) : Sp := fun vs H Q _ => ∃ (v : V) (S : List Rl) (bd : W), vs = [v] ∧ PgAt K C H v S ∧ (∀ r ∈ S, IsR r) ∧ (∀ z ∈ namesL S, z ∈ bd) ∧ bd.length ≤ 40 ∧ ∀ H' t (ns : W), Same H H' → SqT K H' t (ns.map V.str) → IsW ns → (∀ z, z ∈ ns ↔ z ∈ namesL S) → Q (.ref t) H'
theorem ok_names {C : Addr} (F : Fun K "names" "Program.names" sNames f fd) (T : Bl mg) (c : Cls K C) (n : NoAttr K C "_rules") : FnOk P w K mg base CX0 (k + 1) f fd ["self"] (spNames K C) := by
  refine F.ok scNames (fun vs H Q E h => ?_) (fun cdv A outer s H vs Q E hr h => ?_)
  · obtain ⟨v, S, bd, rfl, _⟩ := h
    rfl
  obtain ⟨v, S, bd, rfl, ⟨a, dx, t, ys, rfl, h1, h2, h3⟩, hI, hbd, b40, q⟩ := h
  refine ⟨_, pss_one (ps_ret (pe_callTy call_tuple_of (by rfl) T.tuple (by decide +kernel) (pa_cons (pe_callB (cr_sortX rfl hr.units) (by rfl) T.sorted (by decide +kernel) (pa_cons
    (pe_sc3 (own := [("row", 1), ("part", 2), ("name", 3)]) (vs1 := [2, 3]) (vs2 := [3]) (g0 := gName 1) (g1 := gName 2) (g2 := gName 3) (wi1 := iTup K (tVar 1)) (wi2 := iTup K (tVar 2)) (te := tVar 3) rfl scNames.nd (pi_tup (pe_fld (pv 0) rfl)) (blkOk_by (N := ["self", "row", "part", "name"]) (sc := defScope sNames) (by decide +kernel)) (by decide) (by decide)
      (fun _ _ _ _ _ => pg_name (i := 1) scNames.nd rfl (Or.inl rfl)) (fun _ _ _ _ _ => pi_tup (pv 1)) (fun _ _ _ _ _ => pg_name (i := 2) scNames.nd rfl (Or.inl rfl)) (fun _ _ _ _ _ => pi_tup (pv 2)) (fun _ _ _ _ _ => pg_name (i := 3) scNames.nd rfl (Or.inl rfl)) (fun _ _ _ _ _ => pv 3)) pa_nil)) pa_nil))), ?_⟩
  have yl : ys.length = S.length := by rw [dpAll_len h3, List.length_map]
  have few : ∀ ms : W, ms.Nodup → (∀ z ∈ ms, z ∈ bd) → ms.length ≤ 40 := fun ms nd h => Nat.le_trans (nodup_len_le nd h) b40
  have sb : scanBound = 4096 := rfl
  refine ⟨.ref a, rfl, a, C, dx, _, .ref t, rfl, h1, c, n, rfl, t, rfl, ⟨_, h2⟩, fun D hD => ?_⟩
  refine lvl_tup (xs := ys) (fun i H1 => Same H H1 ∧ ∃ ms : W, H1 D = some (XSetO P w D ms) ∧ ms.Nodup ∧ ∀ z, z ∈ ms ↔ z ∈ namesL (S.take i)) ⟨same_new hD _, [], upd_same, List.nodup_nil, fun z => Iff.rfl⟩ (fun i H1 _ hI => same_tup hI.1 h2) (fun i x H1 hx hI1 => ?_) (fun H1 hI1 => ?_)
  · obtain ⟨sm, ms, hm, nd, mem⟩ := hI1
    obtain ⟨dd, hdd, hxd⟩ := dpAll_at' h3 hx
    obtain ⟨r, hr0, rfl⟩ := map_at hdd
    have hrS := List.mem_of_getElem? hr0
    have hr' := hI r hrS
    have own_bd : ∀ z ∈ ownN r, z ∈ bd := fun z hz => hbd z (List.mem_flatMap.mpr ⟨r, hrS, hz⟩)
    have top_bd : ∀ z ∈ namesL (S.take i), z ∈ bd := fun z hz => by
      obtain ⟨q, hq, hz⟩ := List.mem_flatMap.mp hz
      exact hbd z (List.mem_flatMap.mpr ⟨q, List.mem_of_mem_take hq, hz⟩)
    have step : namesL (S.take (i + 1)) = namesL (S.take i) ++ ownN r := by
      unfold namesL
      rw [take_snoc hr0, List.flatMap_append]
      simp
    unfold rd at hxd
    cases hxd with
    | @tup b xs _ hT hxs =>
      have xl : xs.length = (parts r).length := by rw [dpAll_len hxs, List.length_map]
      refine ⟨rfl, .ref b, rfl, b, rfl, ⟨_, same_tup sm hT⟩, ?_⟩
      refine lvl_tup (xs := xs) (fun j H2 => Same H H2 ∧ ∃ ms : W, H2 D = some (XSetO P w D ms) ∧ ms.Nodup ∧ ∀ z, z ∈ ms ↔ z ∈ namesL (S.take i) ∨ z ∈ ((parts r).take j).flatMap id) ⟨sm, ms, hm, nd, fun z => by rw [mem z]; simp⟩ (fun j H2 _ hI => same_tup hI.1 hT) (fun j y H2 hy hI2 => ?_) (fun H2 hI2 => ?_)
      · obtain ⟨sm2, ms2, hm2, nd2, mem2⟩ := hI2
        obtain ⟨d, hdi, hyd⟩ := dpAll_at' hxs hy
        obtain ⟨p, hp, rfl⟩ := map_at hdi
        obtain ⟨u, rfl, hU⟩ := of_wd hyd
        have in_own : ∀ z ∈ ((parts r).take j).flatMap id, z ∈ ownN r := fun z hz => by
          obtain ⟨q, hq, hz⟩ := List.mem_flatMap.mp hz
          exact List.mem_flatMap.mpr ⟨q, List.mem_of_mem_take hq, hz⟩
        have p_own : ∀ z ∈ p, z ∈ ownN r := fun z hz => List.mem_flatMap.mpr ⟨p, List.mem_of_getElem? hp, hz⟩
        refine ⟨rfl, .ref u, rfl, u, rfl, ⟨_, same_tup sm2 hU⟩, ?_⟩
        refine lvl_tup (xs := p.map V.str) (fun l H3 => Same H H3 ∧ ∃ ms : W, H3 D = some (XSetO P w D ms) ∧ ms.Nodup ∧ ∀ z, z ∈ ms ↔ (z ∈ namesL (S.take i) ∨ z ∈ ((parts r).take j).flatMap id) ∨ z ∈ p.take l) ⟨sm2, ms2, hm2, nd2, fun z => by rw [mem2 z]; simp⟩ (fun l H3 _ hI => same_tup hI.1 hU) (fun l v H3 hv hI3 => ?_) (fun H3 hI3 => ?_)
        · obtain ⟨sm3, ms3, hm3, nd3, mem3⟩ := hI3
          obtain ⟨z, hz, rfl⟩ := map_at hv
          have f3 := few ms3 nd3 fun z hz => by
            rcases (mem3 z).mp hz with (h | h) | h
            · exact top_bd z h
            · exact own_bd z (in_own z h)
            · exact own_bd z (p_own z (List.mem_of_mem_take h))
          refine ⟨rfl, .str z, rfl, z, ms3, rfl, hm3, by omega, fun ms' nd' hm' _ => ⟨same_put sm3 hD, ms', upd_same, nd', fun u => ?_⟩⟩
          rw [hm' u, mem3 u, take_snoc hz, List.mem_append, List.mem_singleton]
          exact ⟨fun h => h.elim (fun e => .inr (.inr e)) fun h => h.elim .inl fun h => .inr (.inl h), fun h => h.elim (fun h => .inr (.inl h)) fun h => h.elim (fun h => .inr (.inr h)) .inl⟩
        · obtain ⟨sm3, ms3, hm3, nd3, mem3⟩ := hI3
          rw [List.length_map, List.take_length] at mem3
          refine ⟨sm3, ms3, hm3, nd3, fun z => ?_⟩
          rw [mem3 z, take_snoc hp, List.flatMap_append, List.mem_append]
          simp [or_assoc]
      · obtain ⟨sm2, ms2, hm2, nd2, mem2⟩ := hI2
        rw [xl, List.take_length] at mem2
        refine ⟨sm2, ms2, hm2, nd2, fun z => ?_⟩
        rw [mem2 z, step, List.mem_append]
        exact Iff.rfl
  · obtain ⟨sm, ms, hm, nd, mem⟩ := hI1
    rw [yl, List.take_length] at mem
    have f1 := few ms nd fun z hz => hbd z ((mem z).mp hz)
    refine ⟨D, ms, rfl, hm, by omega, fun zs L hz nz hlz rz hL => ?_⟩
    have sL := same_new hL (.lst (zs.map V.str))
    refine ⟨L, _, rfl, .inl ⟨SqL.of upd_same, fun t2 ht2 => ?_⟩⟩
    have s2 := same_new ht2 (.tup (zs.map V.str))
    have nam : ∀ z ∈ namesL S, nameB z = true := fun z hz => by
      obtain ⟨r, hr, hz⟩ := List.mem_flatMap.mp hz
      obtain ⟨p, hp, hz⟩ := List.mem_flatMap.mp hz
      exact ((hI r hr).all p hp).names z hz
    have memz : ∀ z, z ∈ zs ↔ z ∈ namesL S := fun z => (hz z).trans (mem z)
    exact q _ t2 zs (sm.trans (sL.trans s2)) (SqT.of upd_same) ⟨fun z hz => nam z ((memz z).mp hz), upX_of rz nz, by omega⟩ memz
end
end Rw
namespace Rw
open PySem PySem.Spec PyProof.Rows L2
/-! ### names in and out -/
abbrev sHasAll : Stmt := topS 22
abbrev sMeet : Stmt := topS 23
theorem scHasAll : FnScope ["names", "wanted", "name"] ["names", "wanted"] (defScope sHasAll) := ⟨rfl, rfl, rfl, by decide +kernel, rfl, by decide +kernel, by decide +kernel⟩
theorem scMeet : FnScope ["one", "other", "name"] ["one", "other"] (defScope sMeet) := ⟨rfl, rfl, rfl, by decide +kernel, rfl, by decide +kernel, by decide +kernel⟩
/-- a list or a tuple of names -/
def Ws (K : PySem.W.Frag) (H : Hp) (v : V) (ns : W) : Prop := ∃ a, v = .ref a ∧ (SqL K H a (ns.map V.str) ∨ SqT K H a (ns.map V.str))
theorem Ws.same {K : PySem.W.Frag} {H H' : Hp} {v : V} {ns : W} (h : Ws K H v ns) (e : Same H H') : Ws K H' v ns := by
  obtain ⟨a, rfl, h⟩ := h
  exact ⟨a, rfl, h.elim (fun z => .inl (e.seq z)) (fun z => .inr (same_tup e z))⟩
theorem Ws.wd {K : PySem.W.Frag} {H : Hp} {v : V} {ns : W} (h : Dp K H v (Rw.wd ns)) : Ws K H v ns := by
  obtain ⟨a, rfl, h'⟩ := of_wd h
  exact ⟨a, rfl, .inr h'⟩
def meets (ns ms : W) : Bool := ns.any fun z => decide (z ∈ ms)
def minus (ns ms : W) : W := ns.filter fun z => !decide (z ∈ ms)
def hasK (kvs : List (Key × V)) (z : Str) : Bool := (valV kvs (.inr z)).isSome
section
variable {P : Program} {w : World} {K : PySem.W.Frag} {mg : Str → Option Value} {base : Heap} {f : Addr} {fd : FuncData} {k : Nat}
def spHasAll (K : PySem.W.Frag) : Sp := fun vs H Q _ => ∃ (x y : V) (ns ms : W), vs = [x, y] ∧ Ws K H x ns ∧ Ws K H y ms ∧ ms.length ≤ 1000 ∧ ∀ H', Same H H' → Q (.bl (sub ms ns)) H'
theorem ok_hasAll (F : Fun K "has_all" "has_all" sHasAll f fd) (T : Bl mg) : FnOk P w K mg base CX0 (k + 1) f fd ["names", "wanted"] (spHasAll K) := by
  refine F.ok scHasAll (fun vs H Q E h => ?_) (fun cdv A outer s H vs Q E hr h => ?_)
  · obtain ⟨x, y, ns, ms, rfl, _⟩ := h
    rfl
  obtain ⟨x, y, ns, ms, rfl, ⟨a, rfl, hS⟩, ⟨b, rfl, hT⟩, few, q⟩ := h
  have turn : ∀ (D : Addr) (i : Nat) (z : Str) (H1 : Hp), ms[i]? = some z → H D = none → Same H H1 ∧ H1 D = some (.lst ((ms.take i).map fun z => V.bl (decide (z ∈ ns)))) → SqL K H1 a (ns.map V.str) ∨ SqT K H1 a (ns.map V.str) := fun D i z H1 _ _ ⟨sm, _⟩ => hS.elim (fun z => .inl (sm.seq z)) (fun z => .inr (same_tup sm z))
  have step : ∀ (D : Addr) (i : Nat) (z : Str) (H1 : Hp), ms[i]? = some z → H D = none → Same H H1 ∧ H1 D = some (.lst ((ms.take i).map fun z => V.bl (decide (z ∈ ns)))) → ∃ acc, H1 D = some (.lst acc) ∧ acc.length < sizeLine ∧ (Same H (upd H1 D (.lst (acc ++ [V.bl (inV (.str z) (ns.map V.str))]))) ∧ (upd H1 D (.lst (acc ++ [V.bl (inV (.str z) (ns.map V.str))]))) D = some (.lst ((ms.take (i + 1)).map fun z => V.bl (decide (z ∈ ns))))) := fun D i z H1 hz hD ⟨sm, hd⟩ => by
    refine ⟨_, hd, small_line' (by rw [List.length_map, List.length_take]; omega), same_put sm hD, ?_⟩
    rw [upd_same, take_snoc hz, List.map_append, inV_str]
    rfl
  have fin : ∀ (D : Addr) (H1 : Hp), Same H H1 → H1 D = some (.lst ((ms.take ms.length).map fun z => V.bl (decide (z ∈ ns)))) → ∃ (a : Addr) (bs : List Bool), [V.ref D] = [V.ref a] ∧ SqL K H1 a (bs.map V.bl) ∧ Q (.bl (bs.all id)) H1 := fun D H1 sm hd => by
    rw [List.take_length] at hd
    refine ⟨D, ms.map fun z => decide (z ∈ ns), rfl, SqL.of (by rw [List.map_map]; exact hd), ?_⟩
    have z : (ms.map fun z => decide (z ∈ ns)).all id = sub ms ns := by
      unfold sub
      rw [List.all_map]
      rfl
    rw [z]
    exact q H1 sm
  rcases hT with hT | hT
  · refine ⟨_, pss_one (ps_ret (pe_callB (cr_all rfl) (by rfl) T.all (by decide +kernel) (pa_cons (pe_lc (own := [("name", 2)]) (g := gName 2) (by rfl) scHasAll.nd (pi_list (pv 1)) (blkOk_by (N := ["names", "wanted", "name"]) (sc := defScope sHasAll) (by decide +kernel))
        (fun _ _ _ _ _ => pg_name (i := 2) scHasAll.nd rfl (Or.inl rfl)) (fun _ _ _ _ _ => pts_nil) (fun _ _ _ _ _ => pe_cmpR (r := rIn K false) op_in_seq (pv 2) (pv 0) (by rfl))) pa_nil))), ?_⟩
    refine ⟨.ref b, rfl, b, rfl, ⟨_, hT⟩, fun D hD => ?_⟩
    refine lc_list (xs := ms.map V.str) (fun i H1 => Same H H1 ∧ H1 D = some (.lst ((ms.take i).map fun z => V.bl (decide (z ∈ ns))))) ⟨same_new hD _, upd_same⟩ (fun i H1 _ hI => hI.1.seq hT) (fun i x H1 hx hI => ?_) (fun H1 hI => ?_)
    · obtain ⟨z, hz, rfl⟩ := map_at hx
      exact ⟨rfl, .str z, rfl, .ref a, rfl, a, ns.map V.str, rfl, turn D i z H1 hz hD hI, rfl, flat_strs ns, step D i z H1 hz hD hI⟩
    · obtain ⟨sm, hd⟩ := hI
      rw [List.length_map] at hd
      exact fin D H1 sm hd
  · refine ⟨_, pss_one (ps_ret (pe_callB (cr_all rfl) (by rfl) T.all (by decide +kernel) (pa_cons (pe_lc (own := [("name", 2)]) (g := gName 2) (by rfl) scHasAll.nd (pi_tup (pv 1)) (blkOk_by (N := ["names", "wanted", "name"]) (sc := defScope sHasAll) (by decide +kernel))
        (fun _ _ _ _ _ => pg_name (i := 2) scHasAll.nd rfl (Or.inl rfl)) (fun _ _ _ _ _ => pts_nil) (fun _ _ _ _ _ => pe_cmpR (r := rIn K false) op_in_seq (pv 2) (pv 0) (by rfl))) pa_nil))), ?_⟩
    refine ⟨.ref b, rfl, b, rfl, ⟨_, hT⟩, fun D hD => ?_⟩
    refine lc_tup (xs := ms.map V.str) (fun i H1 => Same H H1 ∧ H1 D = some (.lst ((ms.take i).map fun z => V.bl (decide (z ∈ ns))))) ⟨same_new hD _, upd_same⟩ (fun i H1 _ hI => same_tup hI.1 hT) (fun i x H1 hx hI => ?_) (fun H1 hI => ?_)
    · obtain ⟨z, hz, rfl⟩ := map_at hx
      exact ⟨rfl, .str z, rfl, .ref a, rfl, a, ns.map V.str, rfl, turn D i z H1 hz hD hI, rfl, flat_strs ns, step D i z H1 hz hD hI⟩
    · obtain ⟨sm, hd⟩ := hI
      rw [List.length_map] at hd
      exact fin D H1 sm hd
def spMeet (K : PySem.W.Frag) : Sp := fun vs H Q _ => ∃ (x y : V) (ns ms : W), vs = [x, y] ∧ Dp K H x (wd ns) ∧ Ws K H y ms ∧ ns.length ≤ 1000 ∧ ∀ H', Same H H' → Q (.bl (meets ns ms)) H'
theorem ok_meet (F : Fun K "meet" "meet" sMeet f fd) (T : Bl mg) : FnOk P w K mg base CX0 (k + 1) f fd ["one", "other"] (spMeet K) := by
  refine F.ok scMeet (fun vs H Q E h => ?_) (fun cdv A outer s H vs Q E hr h => ?_)
  · obtain ⟨x, y, ns, ms, rfl, _⟩ := h
    rfl
  obtain ⟨x, y, ns, ms, rfl, hx, ⟨b, rfl, hT⟩, few, q⟩ := h
  obtain ⟨a, rfl, hS⟩ := of_wd hx
  refine ⟨_, pss_one (ps_ret (pe_callB (cr_any rfl) (by rfl) T.any (by decide +kernel) (pa_cons (pe_lc (own := [("name", 2)]) (g := gName 2) (by rfl) scMeet.nd (pi_tup (pv 0)) (blkOk_by (N := ["one", "other", "name"]) (sc := defScope sMeet) (by decide +kernel))
        (fun _ _ _ _ _ => pg_name (i := 2) scMeet.nd rfl (Or.inl rfl)) (fun _ _ _ _ _ => pts_nil) (fun _ _ _ _ _ => pe_cmpR (r := rIn K false) op_in_seq (pv 2) (pv 1) (by rfl))) pa_nil))), ?_⟩
  refine ⟨.ref a, rfl, a, rfl, ⟨_, hS⟩, fun D hD => ?_⟩
  refine lc_tup (xs := ns.map V.str) (fun i H1 => Same H H1 ∧ H1 D = some (.lst ((ns.take i).map fun z => V.bl (decide (z ∈ ms))))) ⟨same_new hD _, upd_same⟩ (fun i H1 _ hI => same_tup hI.1 hS) (fun i x H1 hx hI => ?_) (fun H1 hI => ?_)
  · obtain ⟨sm, hd⟩ := hI
    obtain ⟨z, hz, rfl⟩ := map_at hx
    refine ⟨rfl, .str z, rfl, .ref b, rfl, b, ms.map V.str, rfl, hT.elim (fun z => .inl (sm.seq z)) (fun z => .inr (same_tup sm z)), rfl, flat_strs ms, ?_⟩
    refine ⟨_, hd, small_line' (by rw [List.length_map, List.length_take]; omega), same_put sm hD, ?_⟩
    rw [upd_same, take_snoc hz, List.map_append]
    show some (HO.lst (_ ++ [V.bl (inV (.str z) (ms.map V.str))])) = _
    rw [inV_str]
    rfl
  · obtain ⟨sm, hd⟩ := hI
    rw [List.length_map, List.take_length] at hd
    refine ⟨D, ns.map fun z => decide (z ∈ ms), rfl, SqL.of (by rw [List.map_map]; exact hd), ?_⟩
    have z : (ns.map fun z => decide (z ∈ ms)).any id = meets ns ms := by
      unfold meets
      rw [List.any_map]
      rfl
    rw [z]
    exact q H1 sm
/-! ### the same two of a dict's keys -/
def spHasAllD (K : PySem.W.Frag) : Sp := fun vs H Q _ => ∃ (a : Addr) (y : V) (kvs : List (Key × V)) (ms : W), vs = [.ref a, y] ∧ H a = some (.dK kvs) ∧ Dp K H y (wd ms) ∧ ms.length ≤ 1000 ∧ ∀ H', Same H H' → Q (.bl (ms.all (hasK kvs))) H'
theorem ok_hasAllD (F : Fun K "has_all" "has_all" sHasAll f fd) (T : Bl mg) : FnOk P w K mg base CX0 (k + 1) f fd ["names", "wanted"] (spHasAllD K) := by
  refine F.ok scHasAll (fun vs H Q E h => ?_) (fun cdv A outer s H vs Q E hr h => ?_)
  · obtain ⟨a, y, kvs, ms, rfl, _⟩ := h
    rfl
  obtain ⟨a, y, kvs, ms, rfl, hS, hy, few, q⟩ := h
  obtain ⟨b, rfl, hT⟩ := of_wd hy
  have hu := hr.units
  refine ⟨_, pss_one (ps_ret (pe_callB (cr_all rfl) (by rfl) T.all (by decide +kernel) (pa_cons (pe_lc (own := [("name", 2)]) (g := gName 2) (te := tDIn (tVar 2) (tVar 0)) (by rfl) scHasAll.nd (pi_tup (pv 1)) (blkOk_by (N := ["names", "wanted", "name"]) (sc := defScope sHasAll) (by decide +kernel))
        (fun _ _ _ _ _ => pg_name (i := 2) scHasAll.nd rfl (Or.inl rfl)) (fun _ _ _ _ _ => pts_nil) (fun _ _ _ _ _ => pe_cmp (pc_din (Nat.lt_of_le_of_lt (Nat.add_le_add_left (by decide) _) hu) (pv 2) (pv 0)) (by rfl))) pa_nil))), ?_⟩
  refine ⟨.ref b, rfl, b, rfl, ⟨_, hT⟩, fun D hD => ?_⟩
  refine lc_tup (xs := ms.map V.str) (fun i H1 => Same H H1 ∧ H1 D = some (.lst ((ms.take i).map fun z => V.bl (hasK kvs z)))) ⟨same_new hD _, upd_same⟩ (fun i H1 _ hI => same_tup hI.1 hT) (fun i x H1 hx hI => ?_) (fun H1 hI => ?_)
  · obtain ⟨sm, hd⟩ := hI
    obtain ⟨z, hz, rfl⟩ := map_at hx
    refine ⟨rfl, .str z, rfl, .ref a, rfl, a, valV kvs (.inr z), rfl, .inl ⟨kvs, .inr z, .inl (sm _ _ hS), rfl, rfl⟩, ?_⟩
    refine ⟨_, hd, small_line' (by rw [List.length_map, List.length_take]; omega), same_put sm hD, ?_⟩
    rw [upd_same, take_snoc hz, List.map_append]
    rfl
  · obtain ⟨sm, hd⟩ := hI
    rw [List.length_map, List.take_length] at hd
    refine ⟨D, ms.map fun z => hasK kvs z, rfl, SqL.of (by rw [List.map_map]; exact hd), ?_⟩
    have z : (ms.map fun z => hasK kvs z).all id = ms.all (hasK kvs) := by
      rw [List.all_map]
      rfl
    rw [z]
    exact q H1 sm
def spMeetD (K : PySem.W.Frag) : Sp := fun vs H Q _ => ∃ (x : V) (b : Addr) (ns : W) (kvs : List (Key × V)), vs = [x, .ref b] ∧ Dp K H x (wd ns) ∧ H b = some (.dK kvs) ∧ ns.length ≤ 1000 ∧ ∀ H', Same H H' → Q (.bl (ns.any (hasK kvs))) H'
theorem ok_meetD (F : Fun K "meet" "meet" sMeet f fd) (T : Bl mg) : FnOk P w K mg base CX0 (k + 1) f fd ["one", "other"] (spMeetD K) := by
  refine F.ok scMeet (fun vs H Q E h => ?_) (fun cdv A outer s H vs Q E hr h => ?_)
  · obtain ⟨x, b, ns, kvs, rfl, _⟩ := h
    rfl
  obtain ⟨x, b, ns, kvs, rfl, hx, hT, few, q⟩ := h
  obtain ⟨a, rfl, hS⟩ := of_wd hx
  have hu := hr.units
  refine ⟨_, pss_one (ps_ret (pe_callB (cr_any rfl) (by rfl) T.any (by decide +kernel) (pa_cons (pe_lc (own := [("name", 2)]) (g := gName 2) (te := tDIn (tVar 2) (tVar 1)) (by rfl) scMeet.nd (pi_tup (pv 0)) (blkOk_by (N := ["one", "other", "name"]) (sc := defScope sMeet) (by decide +kernel))
        (fun _ _ _ _ _ => pg_name (i := 2) scMeet.nd rfl (Or.inl rfl)) (fun _ _ _ _ _ => pts_nil) (fun _ _ _ _ _ => pe_cmp (pc_din (Nat.lt_of_le_of_lt (Nat.add_le_add_left (by decide) _) hu) (pv 2) (pv 1)) (by rfl))) pa_nil))), ?_⟩
  refine ⟨.ref a, rfl, a, rfl, ⟨_, hS⟩, fun D hD => ?_⟩
  refine lc_tup (xs := ns.map V.str) (fun i H1 => Same H H1 ∧ H1 D = some (.lst ((ns.take i).map fun z => V.bl (hasK kvs z)))) ⟨same_new hD _, upd_same⟩ (fun i H1 _ hI => same_tup hI.1 hS) (fun i x H1 hx hI => ?_) (fun H1 hI => ?_)
  · obtain ⟨sm, hd⟩ := hI
    obtain ⟨z, hz, rfl⟩ := map_at hx
    refine ⟨rfl, .str z, rfl, .ref b, rfl, b, valV kvs (.inr z), rfl, .inl ⟨kvs, .inr z, .inl (sm _ _ hT), rfl, rfl⟩, ?_⟩
    refine ⟨_, hd, small_line' (by rw [List.length_map, List.length_take]; omega), same_put sm hD, ?_⟩
    rw [upd_same, take_snoc hz, List.map_append]
    rfl
  · obtain ⟨sm, hd⟩ := hI
    rw [List.length_map, List.take_length] at hd
    refine ⟨D, ns.map fun z => hasK kvs z, rfl, SqL.of (by rw [List.map_map]; exact hd), ?_⟩
    have z : (ns.map fun z => hasK kvs z).any id = ns.any (hasK kvs) := by
      rw [List.any_map]
      rfl
    rw [z]
    exact q H1 sm
end
end Rw
namespace Rw
open PySem PySem.Spec PyProof.Rows L2
/-! ### refusals -/
abbrev sCheckProgram : Stmt := topS 24
abbrev sCheckBasic : Stmt := topS 29
abbrev sENotProg : Stmt := inClass (topS 4) 0
abbrev sENotBasic : Stmt := inClass (topS 6) 0
theorem scCheckProgram : FnScope ["thing"] ["thing"] (defScope sCheckProgram) := ⟨rfl, rfl, rfl, by decide +kernel, rfl, by decide +kernel, by decide +kernel⟩
theorem scCheckBasic : FnScope ["program", "row", "heads", "denied", "_"] ["program"] (defScope sCheckBasic) := ⟨rfl, rfl, rfl, by decide +kernel, rfl, by decide +kernel, by decide +kernel⟩
theorem scENotProg : FnScope ["self", "thing"] ["self", "thing"] (defScope sENotProg) := ⟨rfl, rfl, rfl, by decide +kernel, rfl, by decide +kernel, by decide +kernel⟩
theorem scENotBasic : FnScope ["self", "culprit"] ["self", "culprit"] (defScope sENotBasic) := ⟨rfl, rfl, rfl, by decide +kernel, rfl, by decide +kernel, by decide +kernel⟩
/-- what the text's own error class with one field is -/
structure ErrT (P : Program) (w : World) (K : PySem.W.Frag) (mg : Str → Option Value) (base : Heap) (k : Nat) (x : Str) (n : Str) (C : Addr) : Prop where
  oex : OexC K C
  ex : ∃ (fI : Addr) (fd : FuncData), PySem.W.findIn K (.ref C) "__init__" = some (some (.ref fI)) ∧ PySem.W.typeIn K (.ref fI) = some (.type "function") ∧ FnOk P w K mg base CX0 k fI fd ["self", n] (spErr C n) ∧ Binds K fd ["self", n] []
  m : mg x = some (.ref C)
/-- what a program's class says of what is no program -/
structure PgC (K : PySem.W.Frag) (mg : Str → Option Value) (C : Addr) : Prop where
  yes : PySem.W.kitOne K (.ref C) (.ref C) = some true
  non : PySem.W.kitOne K (.type "NoneType") (.ref C) = some false
  bool : PySem.W.kitOne K (.type "bool") (.ref C) = some false
  int : PySem.W.kitOne K (.type "int") (.ref C) = some false
  str : PySem.W.kitOne K (.type "str") (.ref C) = some false
  list : PySem.W.kitOne K (.type "list") (.ref C) = some false
  tuple : PySem.W.kitOne K (.type "tuple") (.ref C) = some false
  dict : PySem.W.kitOne K (.type "dict") (.ref C) = some false
  m : mg "Program" = some (.ref C)
  cls : Cls K C
  cg : PySem.W.findIn K (.ref C) "__class__" = some (some (.builtin "object.__class__"))
  sp : PySem.W.specialIn K (.builtin "object.__class__") "__get__" = some (some (.builtin "getset_descriptor.__get__"))
  tk : PySem.W.takesIn K (.builtin "object.__class__") = some true
  mro : PySem.W.mroIn K C (.type "object") = some true
/-- one head, nothing denied -/
def basicB (r : Rl) : Bool := decide (r.1.length = 1) && r.2.1.isEmpty
section
variable {P : Program} {w : World} {K : PySem.W.Frag} {mg : Str → Option Value} {base : Heap} {f : Addr} {fd : FuncData} {k : Nat}
theorem ok_eNotProg {C : Addr} (F : FunD K "__init__" "NotAProgram.__init__" (defArgs sENotProg) (defBody sENotProg) (defScope sENotProg) [.non] [] f fd) (O : OexC K C) (no : PySem.W.findIn K (.ref C) "thing" = some none) : FnOk P w K mg base CX0 (k + 1) f fd ["self", "thing"] (spErr C "thing") := by
  refine F.ok scENotProg (fun vs H Q E h => ?_) (fun cdv A outer s H vs Q E hr h => ?_)
  · obtain ⟨a, v, rfl, _⟩ := h
    rfl
  obtain ⟨a, v, rfl, ha, q⟩ := h
  exact ⟨_, PSs.nox (pss_one (ps_ost (pv 0) (pv 1))), v, rfl, .ref a, rfl, a, C, rfl, O, no, .inl ⟨ha, fun dx h1 h2 => q dx h1 h2⟩⟩
theorem ok_eNotBasic {C : Addr} (F : FunD K "__init__" "NotBasic.__init__" (defArgs sENotBasic) (defBody sENotBasic) (defScope sENotBasic) [.non] [] f fd) (O : OexC K C) (no : PySem.W.findIn K (.ref C) "culprit" = some none) : FnOk P w K mg base CX0 (k + 1) f fd ["self", "culprit"] (spErr C "culprit") := by
  refine F.ok scENotBasic (fun vs H Q E h => ?_) (fun cdv A outer s H vs Q E hr h => ?_)
  · obtain ⟨a, v, rfl, _⟩ := h
    rfl
  obtain ⟨a, v, rfl, ha, q⟩ := h
  exact ⟨_, PSs.nox (pss_one (ps_ost (pv 0) (pv 1))), v, rfl, .ref a, rfl, a, C, rfl, O, no, .inl ⟨ha, fun dx h1 h2 => q dx h1 h2⟩⟩
theorem PgC.odd {C : Addr} (T : PgC K mg C) : ∀ d : PyData, PySem.W.kitOne K (.type (tyName d)) (.ref C) = some false
  | .none => T.non
  | .bool _ => T.bool
  | .int _ => T.int
  | .str _ => T.str
  | .list _ => T.list
  | .tuple _ => T.tuple
  | .dict _ => T.dict
def spCheckProgram (K : PySem.W.Frag) (C CE : Addr) : Sp := fun vs H Q E => ∃ v : V, vs = [v] ∧ ((∃ S, PgAt K C H v S ∧ Q .non H) ∨ (∃ d, Dp K H v d ∧ ∀ dx, H dx = none → E (.ref CE) (some dx) (upd H dx (.xd [(("thing" : Str), v)]))))
theorem ok_checkProgram {C CE : Addr} (F : Fun K "check_program" "check_program" sCheckProgram f fd) (T : Bl mg) (G : PgC K mg C) (X : ErrT P w K mg base k "NotAProgram" "thing" CE) : FnOk P w K mg base (L2.CX P w) (k + 2) f fd ["thing"] (spCheckProgram K C CE) := by
  obtain ⟨fI, fdI, i1, i2, i3, i4⟩ := X.ex
  refine F.okX scCheckProgram (fun vs H Q E h => ?_) (fun cdv A outer s H vs Q E hr h => ?_)
  · obtain ⟨v, rfl, _⟩ := h
    rfl
  obtain ⟨v, rfl, h⟩ := h
  refine ⟨_, pss_one (ps_if (pt_not (pt_val (pe_callB call_isi (by rfl) T.isi PyProof.Rows.boot_isinstance (pa_cons (pv 0) (pa_cons (pe_glob (v := .ref C) (by rfl) G.m rfl) pa_nil)))))
    (pss_one (ps_raise rfl (takes_of rfl rfl rfl rfl) (pmk_oex X.oex i1 i2 i3 hr i4 .nil pass0 (by rfl) X.m (pa_cons (pv 0) pa_nil)))) pss_nil), ?_⟩
  rcases h with ⟨S, hS, q⟩ | ⟨d, hd, q⟩
  · obtain ⟨a, dx, t, ys, rfl, h1, h2, h3⟩ := hS
    exact ⟨.ref a, rfl, .ref a, .ref C, .ref C, .ref C, true, rfl, .own C, .base (.ins h1 G.cls G.cg G.sp G.tk G.mro), G.yes, true, rfl, iteF q⟩
  · exact ⟨v, rfl, v, .ref C, .type (tyName d), .ref C, false, rfl, .own C, tyx_dp hd, G.odd d, false, rfl, iteT ⟨v, rfl, err_made q⟩⟩
/-- a program of basic rules, one that is not basic, and what is no program -/
def BasP (K : PySem.W.Frag) (C CE CB : Addr) (v : V) (H : Hp) (E : XK) (G : List Rl → Hp → Prop) : Prop :=
  (∃ S, PgAt K C H v S ∧ (∀ r ∈ S, IsR r) ∧ S.length < 64 ∧ ∀ H', Same H H' → ((∀ r ∈ S, basicB r = true) → G S H') ∧ (∀ i r, S[i]? = some r → basicB r = false → (∀ e ∈ S.take i, basicB e = true) → ∀ x, Dp K H' x (rd r) → ∀ dx, H' dx = none → E (.ref CB) (some dx) (upd H' dx (.xd [(("culprit" : Str), x)])))) ∨
  (∃ d, Dp K H v d ∧ ∀ dx, H dx = none → E (.ref CE) (some dx) (upd H dx (.xd [(("thing" : Str), v)])))
theorem BasP.mono {C CE CB : Addr} {v : V} {H : Hp} {E E2 : XK} {G G2 : List Rl → Hp → Prop} (h : BasP K C CE CB v H E G) (me : ∀ c d H', E c d H' → E2 c d H') (mg : ∀ S H', PgAt K C H' v S → (∀ r ∈ S, IsR r) → S.length < 64 → (∀ r ∈ S, basicB r = true) → G S H' → G2 S H') : BasP K C CE CB v H E2 G2 := by
  rcases h with ⟨S, h1, h2, h3, q⟩ | ⟨d, h1, q⟩
  · exact .inl ⟨S, h1, h2, h3, fun H' s => ⟨fun a => mg S H' (h1.same s) h2 h3 a ((q H' s).1 a), fun i r a b c x d dx e => me _ _ _ ((q H' s).2 i r a b c x d dx e)⟩⟩
  · exact .inr ⟨d, h1, fun dx e => me _ _ _ (q dx e)⟩
def spCheckBasic (K : PySem.W.Frag) (C CE CB : Addr) : Sp := fun vs H Q E => ∃ v : V, vs = [v] ∧ BasP K C CE CB v H E fun _ H' => Q .non H'
theorem ok_checkBasic {C CE CB pr f1 f2 : Addr} {fd1 fd2 : FuncData} (F : Fun K "_check_basic" "_check_basic" sCheckBasic f fd) (T : Bl mg) (c : Cls K C) (hp : PropOf K C "rules" pr f2)
    (G1 : FnOk P w K mg base (L2.CX P w) (k + 2) f1 fd1 ["thing"] (spCheckProgram K C CE)) (b1 : Binds K fd1 ["thing"] []) (k1 : PySem.W.keepIn K (.ref f1) = true) (m1 : mg "check_program" = some (.ref f1))
    (G2 : FnOk P w K mg base CX0 (k + 1) f2 fd2 ["self"] (spRules K C)) (b2 : Binds K fd2 ["self"] []) (X : ErrT P w K mg base (k + 1) "NotBasic" "culprit" CB) : FnOk P w K mg base (L2.CX P w) (k + 3) f fd ["program"] (spCheckBasic K C CE CB) := by
  obtain ⟨fI, fdI, i1, i2, i3, i4⟩ := X.ex
  refine F.okX scCheckBasic (fun vs H Q E h => ?_) (fun cdv A outer s H vs Q E hr h => ?_)
  · obtain ⟨v, rfl, _⟩ := h
    rfl
  obtain ⟨v, rfl, h⟩ := h
  refine ⟨_, pss_cons (ps_expr (pe_call G1 hr (by rfl) m1 k1 b1 .nil (passes_call (takes_of rfl rfl rfl rfl) (fun _ _ _ _ h => h)) (pa_cons (pv 0) pa_nil)))
    (pss_one (ps_for (passes_of rfl) rfl (pi_tup (pe_prop (pv 0) c hp G2 hr b2 .nil pass0 rfl)) (pg_name (i := 1) scCheckBasic.nd rfl (.inl rfl))
      (pss_cons (ps_asg (pv 1) (pg_tup (by rfl) (pgs_cons (pg_name (i := 2) scCheckBasic.nd rfl (.inl rfl)) (pgs_cons (pg_name (i := 3) scCheckBasic.nd rfl (.inl rfl)) (pgs_cons (pg_name (i := 4) scCheckBasic.nd rfl (.inl rfl)) (pgs_cons (pg_name (i := 4) scCheckBasic.nd rfl (.inl rfl)) pgs_nil))))))
      (pss_one (ps_if (PW.pt (pw_or (pt_cmpR op_ne (pe_callB call_len_seq (by rfl) T.len PySem.boot_len (pa_cons (pv 2) pa_nil)) pe_int (nomark _)) (pw_or1 (pt_truth (pv 3) fun _ => rfl))))
        (pss_one (ps_raise rfl (takes_of rfl rfl rfl rfl) (pmk_oex X.oex i1 i2 i3 hr i4 .nil pass0 (by rfl) X.m (pa_cons (pv 1) pa_nil)))) pss_nil))))), ?_⟩
  rcases h with ⟨S, hS, hI, few, q⟩ | ⟨d, hd, q⟩
  · refine ⟨v, rfl, v, rfl, .inl ⟨S, hS, ?_⟩⟩
    obtain ⟨a, dx, t0, ys0, rfl, i1', i2', i3'⟩ := id hS
    refine ⟨.ref a, rfl, a, dx, _, rfl, i1', .ref a, S, rfl, hS, fun t ys ht hys => ?_⟩
    have yl : ys.length = S.length := by rw [dpAll_len hys, List.length_map]
    refine ⟨t, rfl, ⟨_, ht⟩, for_tup (xs := ys) (fun i σ H1 => (∃ y1 y2 y3 y4, σ = [some (.ref a), y1, y2, y3, y4]) ∧ Same H H1 ∧ ∀ e ∈ S.take i, basicB e = true) ⟨⟨_, _, _, _, rfl⟩, fun _ _ e => e, fun e he => absurd he (by simp)⟩ (fun i σ H1 _ hI2 => same_tup hI2.2.1 ht) (fun i x σ H1 hx hI2 => ?_) (fun σ H1 hI2 => ?_)⟩
    · obtain ⟨⟨y1, y2, y3, y4, rfl⟩, sm, hg⟩ := hI2
      obtain ⟨dd, hdd, hxd⟩ := dpAll_at' hys hx
      obtain ⟨r, hr0, rfl⟩ := map_at hdd
      have hxd2 := dp_same sm _ _ hxd
      obtain ⟨b, v1, v2, v3, v4, rfl, hT, h1, h2, h3, h4⟩ := of_rd hxd2
      obtain ⟨c1, rfl, t1⟩ := of_wd h1
      obtain ⟨c2, rfl, t2⟩ := of_wd h2
      refine ⟨.ref b, rfl, b, [.ref c1, .ref c2, v3, v4], rfl, hT, rfl, _, _, rfl, _, _, rfl, _, _, rfl, _, [], rfl, rfl, ?_⟩
      have bad : basicB r = false → ∀ dx, H1 dx = none → E (.ref CB) (some dx) (upd H1 dx (.xd [(("culprit" : Str), .ref b)])) := fun e dx hdx => (q H1 sm).2 i r hr0 e hg _ hxd2 dx hdx
      refine ⟨.ref c1, rfl, c1, _, rfl, .inr t1, rfl, _, rfl, ?_⟩
      have ln : (r.1.map V.str).length = r.1.length := List.length_map ..
      refine ite2 (fun e => ?_) (fun e => ?_)
      · have e' : ¬ r.1.length = 1 := fun z => by
          rw [ln, z] at e
          exact absurd e (by decide)
        refine iteT ⟨.ref b, rfl, err_made (bad ?_)⟩
        unfold basicB
        rw [decide_eq_false e']
        rfl
      · have e' : r.1.length = 1 := by
          have e2 : decide (V.int (((r.1.map V.str).length : Nat) : Int) = V.int 1) = true := by simpa using e
          have := V.int.inj (of_decide_eq_true e2)
          omega
        refine ⟨.ref c2, rfl, _, .inr (.inl ⟨_, t2, rfl⟩), ?_⟩
        cases e2 : r.2.1 with
        | nil =>
          refine iteF ⟨⟨_, _, _, _, rfl⟩, sm, fun e he => ?_⟩
          rw [take_snoc hr0] at he
          rcases List.mem_append.mp he with he | he
          · exact hg e he
          · rw [List.mem_singleton.mp he]
            unfold basicB
            rw [decide_eq_true e', e2]
            rfl
        | cons z zs =>
          refine iteT ⟨.ref b, rfl, err_made (bad ?_)⟩
          unfold basicB
          rw [e2, Bool.and_eq_false_iff]
          exact .inr rfl
    · obtain ⟨⟨y1, y2, y3, y4, rfl⟩, sm, hg⟩ := hI2
      rw [yl, List.take_length] at hg
      exact (q H1 sm).1 hg
  · exact ⟨v, rfl, v, rfl, .inr ⟨d, hd, q⟩⟩
end
end Rw
namespace Rw
open PySem PySem.Spec PyProof.Rows L2
/-! ### _heads, _show -/
abbrev sHeads : Stmt := topS 33
abbrev sShow : Stmt := topS 34
theorem scHeads : FnScope ["rows", "row"] ["rows"] (defScope sHeads) := ⟨rfl, rfl, rfl, by decide +kernel, rfl, by decide +kernel, by decide +kernel⟩
theorem scShow : FnScope ["shown", "step", "word", "what", "names", "name"] ["shown", "step"] (defScope sShow) := ⟨rfl, rfl, rfl, by decide +kernel, rfl, by decide +kernel, by decide +kernel⟩
/-- the one head of a basic rule -/
def hd (r : Rl) : Str := r.1.headD notS
theorem hd_of {r : Rl} (h : basicB r = true) : r.1 = [hd r] := by
  unfold basicB at h
  rw [Bool.and_eq_true] at h
  have e := of_decide_eq_true h.1
  unfold hd
  match h1 : r.1, e with
  | [x], _ => rfl
/-- a list of rules -/
def RL (K : PySem.W.Frag) (H : Hp) (l : Addr) (R : List Rl) : Prop := ∃ ys, H l = some (.lst ys) ∧ DpAll K H ys (R.map rd)
theorem RL.same {K : PySem.W.Frag} {H H' : Hp} {l : Addr} {R : List Rl} (h : RL K H l R) (e : Same H H') : RL K H' l R := by
  obtain ⟨ys, h1, h2⟩ := h
  exact ⟨ys, e _ _ h1, dpAll_same e _ _ h2⟩
/-- a dict of names -/
def ND (names : W) (g : Str → V) : HO := .dK (names.map fun z => (.inr z, g z))
def setN (g : Str → V) (z : Str) (v : V) : Str → V := fun y => if y = z then v else g y
def setNs (g : Str → V) : W → V → Str → V
  | [], _ => g
  | z :: zs, v => setNs (setN g z v) zs v
theorem setNs_at : ∀ {zs : W} {g : Str → V} {v : V} {y : Str}, setNs g zs v y = if y ∈ zs then v else g y
  | [], g, v, y => by simp [setNs]
  | z :: zs, g, v, y => by
    rw [setNs, setNs_at]
    unfold setN
    by_cases h : y ∈ zs
    · rw [if_pos h, if_pos (List.mem_cons_of_mem _ h)]
    · rw [if_neg h]
      by_cases e : y = z
      · rw [if_pos e, if_pos (by rw [e]; exact List.mem_cons_self)]
      · rw [if_neg e, if_neg (by simp [e, h])]
theorem setNs_snoc : ∀ {zs : W} {g : Str → V} {v : V} {z : Str}, setNs g (zs ++ [z]) v = setN (setNs g zs v) z v
  | [], _, _, _ => rfl
  | _ :: zs, _, _, _ => by rw [List.cons_append, setNs, setNs, setNs_snoc]
theorem put_nd {names : W} {g : Str → V} {z : Str} {v : V} (h : z ∈ names) : putK (names.map fun y => ((.inr y : Key), g y)) (.inr z) v = names.map fun y => ((.inr y : Key), setN g z v y) := by
  have e : ((names.map fun y => ((.inr y : Key), g y)).any fun kv => decide (kv.1 = .inr z)) = true := by
    rw [List.any_eq_true]
    exact ⟨(.inr z, g z), List.mem_map.mpr ⟨z, h, rfl⟩, decide_eq_true rfl⟩
  unfold putK
  rw [if_pos e, List.map_map]
  refine List.map_congr_left fun y _ => ?_
  show (if (Sum.inr y : Key) = .inr z then ((.inr y : Key), v) else (.inr y, g y)) = _
  unfold setN
  by_cases e : y = z
  · rw [if_pos (by rw [e]), if_pos e]
  · rw [if_neg (fun q => e (Sum.inr.inj q)), if_neg e]
section
variable {P : Program} {w : World} {K : PySem.W.Frag} {mg : Str → Option Value} {base : Heap} {f : Addr} {fd : FuncData} {k : Nat}
def spHeads (K : PySem.W.Frag) : Sp := fun vs H Q _ => ∃ (l : Addr) (R : List Rl), vs = [.ref l] ∧ RL K H l R ∧ (∀ r ∈ R, basicB r = true) ∧ R.length ≤ 1000 ∧ ∀ H' D, Same H H' → H D = none → H' D = some (.lst ((R.map hd).map V.str)) → Q (.ref D) H'
theorem ok_heads (F : Fun K "_heads" "_heads" sHeads f fd) : FnOk P w K mg base CX0 (k + 1) f fd ["rows"] (spHeads K) := by
  refine F.ok scHeads (fun vs H Q E h => ?_) (fun cdv A outer s H vs Q E hr h => ?_)
  · obtain ⟨l, R, rfl, _⟩ := h
    rfl
  obtain ⟨l, R, rfl, ⟨ys, hl, hys⟩, hb, few, q⟩ := h
  have yl : ys.length = R.length := by rw [dpAll_len hys, List.length_map]
  refine ⟨_, pss_one (ps_ret (pe_lc (own := [("row", 1)]) (g := gName 1) (te := tOp (rIxT K) (tOp (rIxT K) (tVar 1) (tC (.int 0))) (tC (.int 0))) (by rfl) scHeads.nd (pi_list (pv 0)) (blkOk_by (N := ["rows", "row"]) (sc := defScope sHeads) (by decide +kernel))
        (fun _ _ _ _ _ => pg_name (i := 1) scHeads.nd rfl (Or.inl rfl)) (fun _ _ _ _ _ => pts_nil) (fun _ _ _ _ _ => pe_ix ix_tup (pe_ix ix_tup (pv 1) pe_int (fun _ _ => rfl)) pe_int (fun _ _ => rfl)))), ?_⟩
  refine ⟨.ref l, rfl, l, rfl, ⟨_, SqL.of hl⟩, fun D hD => ?_⟩
  refine lc_list (xs := ys) (fun i H1 => Same H H1 ∧ H1 D = some (.lst (((R.take i).map hd).map V.str))) ⟨same_new hD _, upd_same⟩ (fun i H1 _ hI => SqL.of (hI.1 _ _ hl)) (fun i x H1 hx hI => ?_) (fun H1 hI => ?_)
  · obtain ⟨sm, hd'⟩ := hI
    obtain ⟨dd, hdd, hxd⟩ := dpAll_at' hys hx
    obtain ⟨r, hr0, rfl⟩ := map_at hdd
    obtain ⟨b, v1, v2, v3, v4, rfl, hT, h1, _⟩ := of_rd (dp_same sm _ _ hxd)
    obtain ⟨c1, rfl, t1⟩ := of_wd h1
    have e1 := hd_of (hb r (List.mem_of_getElem? hr0))
    have il : i < R.length := (List.getElem?_eq_some_iff.mp hr0).1
    refine ⟨rfl, .ref b, rfl, b, _, 0, .ref c1, rfl, rfl, hT, rfl, ?_⟩
    refine ⟨c1, r.1.map V.str, 0, .str (hd r), rfl, rfl, t1, by rw [e1]; rfl, ?_⟩
    refine ⟨_, hd', small_line' (by rw [List.length_map, List.length_map, List.length_take]; omega), same_put sm hD, ?_⟩
    rw [upd_same, take_snoc hr0, List.map_append, List.map_append]
    rfl
  · obtain ⟨sm, hd'⟩ := hI
    rw [yl, List.take_length] at hd'
    exact q H1 D sm hD hd'
/-- a step: a basic rule whose head is true, or names that are false -/
def StepD (names : W) (x : PyData) (zs : W) (b : Bool) : Prop := (∃ r, x = .tuple [.str "true", rd r] ∧ basicB r = true ∧ zs = [hd r] ∧ b = true) ∨ (x = .tuple [.str "false", wd zs] ∧ b = false)
def spShow (K : PySem.W.Frag) : Sp := fun vs H Q _ => ∃ (a : Addr) (x : V) (names : W) (g : Str → V) (d : PyData) (zs : W) (b : Bool), vs = [.ref a, x] ∧ H a = some (ND names g) ∧ names.length ≤ 1000 ∧ Dp K H x d ∧ StepD names d zs b ∧ (∀ z ∈ zs, z ∈ names) ∧ Q .non (upd H a (ND names (setNs g zs (.bl b))))
theorem ok_show (F : Fun K "_show" "_show" sShow f fd) : FnOk P w K mg base CX0 (k + 1) f fd ["shown", "step"] (spShow K) := by
  refine F.ok scShow (fun vs H Q E h => ?_) (fun cdv A outer s H vs Q E hr h => ?_)
  · obtain ⟨a, x, names, g, d, zs, b, rfl, _⟩ := h
    rfl
  obtain ⟨a, x, names, g, d, zs, b, rfl, ha, few, hx, st, hz, q⟩ := h
  have hu : (cxOf CX0 P w K mg base ["shown", "step", "word", "what", "names", "name"] "_show" (defScope sShow) f cdv A outer s H E).nox.A.units + 1 < cLine := Nat.lt_of_le_of_lt (Nat.add_le_add_left (by decide) _) hr.units
  refine ⟨_, pss_cons (ps_asg (pv 1) (pg_tup (by rfl) (pgs_cons (pg_name (i := 2) scShow.nd rfl (.inl rfl)) (pgs_cons (pg_name (i := 3) scShow.nd rfl (.inl rfl)) pgs_nil))))
    (pss_cons (ps_set (i := 4) scShow.nd rfl (.inl rfl) (pe_ifExp (pt_cmpR op_eq (pv 2) pe_str (nomark _)) (pe_ix ix_tup (pv 3) pe_int (fun _ _ => rfl)) (pv 3)))
    (pss_one (ps_for PassesOwn.never rfl (pi_tup (pv 4)) (pg_name (i := 5) scShow.nd rfl (.inl rfl))
      (pss_one (ps_dput hu (pv 0) (pv 5) (pe_cmpR op_eq (pv 2) pe_str (nomark _)) rfl))))), ?_⟩
  have hmut : Mut (H a) := by
    rw [ha]
    exact True.intro
  -- the walk over the names
  have walk : ∀ (t : Addr) (word : Str) (what : V), SqT K H t (zs.map V.str) → decide (V.str word = V.str ("true" : Str)) = b →
      ∀ (tb : TS) (D : Ends), (∀ σ H', D.nx σ H' = Q .non H') → (tb = sDPut (tVar 0) (tVar 5) (tOp rEq (tVar 2) (tC (.str ("true" : Str))))) →
      ∃ W : Nat → Nat → L2.St → Hp → Prop, (∃ m, W 0 m [some (.ref a), some x, some (.str word), some what, some (.ref t), none] H) ∧ ∀ i m σ H, W i m σ H →
        ((Itt K t).stop i H ∧ D.nx σ H) ∨ ((Itt K t).go i H ∧ ∃ N : L2.St → Hp → Prop, (∀ σ' H', N σ' H' → ∃ m', m' < m ∧ W (i + 1) m' σ' H') ∧ ∀ x H', (Itt K t).yld i H x H' → gName 5 x σ H' fun σ2 H2 => tb { D with nx := N, ct := N, bk := D.nx } σ2 H2) := by
    intro t word what ht hb tb D hD etb
    subst etb
    refine for_tup (xs := zs.map V.str) (fun i σ H1 => (∃ y5, σ = [some (.ref a), some x, some (.str word), some what, some (.ref t), y5]) ∧ H1 = upd H a (ND names (setNs g (zs.take i) (.bl b)))) ⟨⟨none, rfl⟩, ?_⟩ (fun i σ H1 _ hI => ?_) (fun i y σ H1 hy hI => ?_) (fun σ H1 hI => ?_)
    · show H = upd H a (ND names g)
      funext y
      by_cases e : y = a
      · rw [e, upd_same, ha]
      · rw [upd_ne e]
    · rw [hI.2]
      exact (Bar.stay .draw hmut).seq ht
    · obtain ⟨⟨y5, rfl⟩, rfl⟩ := hI
      obtain ⟨z, hz0, rfl⟩ := map_at hy
      refine ⟨.str word, rfl, rfl, .ref a, rfl, .str z, rfl, a, _, rfl, .inl ⟨_, .inr z, upd_same, rfl, small_line' (by rw [List.length_map]; omega), rfl⟩, ⟨_, rfl⟩, ?_⟩
      rw [put_nd (hz z (List.mem_of_getElem? hz0)), take_snoc hz0, setNs_snoc, hb]
      funext y
      by_cases e : y = a
      · rw [e, upd_same, upd_same]
        rfl
      · rw [upd_ne e, upd_ne e, upd_ne e]
    · obtain ⟨_, rfl⟩ := hI
      rw [hD, List.length_map, List.take_length]
      exact q
  rcases st with ⟨r, rfl, hbas, rfl, rfl⟩ | ⟨rfl, rfl⟩
  · cases hx with
    | @tup p ys _ hS hys =>
      cases hys with
      | cons c1 t1 =>
        cases t1 with
        | cons c2 t2 =>
          cases t2
          cases c1
          obtain ⟨b0, v1, v2, v3, v4, rfl, hT, h1, _⟩ := of_rd c2
          obtain ⟨c1, rfl, t1⟩ := of_wd h1
          rw [hd_of hbas] at t1
          refine ⟨.ref p, rfl, p, _, rfl, hS, rfl, _, _, rfl, _, [], rfl, rfl, ?_⟩
          refine ⟨.str "true", rfl, rfl, true, congrArg V.bl (decide_eq_true rfl), iteT ?_⟩
          refine ⟨.ref b0, rfl, b0, _, 0, .ref c1, rfl, rfl, hT, rfl, ?_⟩
          refine ⟨.ref c1, rfl, c1, rfl, ⟨_, t1⟩, ?_⟩
          exact walk c1 "true" _ t1 (decide_eq_true rfl) _ _ (fun _ _ => rfl) rfl
  · cases hx with
    | @tup p ys _ hS hys =>
      cases hys with
      | cons c1 t1 =>
        cases t1 with
        | cons c2 t2 =>
          cases t2
          cases c1
          obtain ⟨c1, rfl, t1⟩ := of_wd c2
          refine ⟨.ref p, rfl, p, _, rfl, hS, rfl, _, _, rfl, _, [], rfl, rfl, ?_⟩
          refine ⟨.str "false", rfl, rfl, false, congrArg V.bl (decide_eq_false fun e => absurd (V.str.inj e) (by decide)), iteF ?_⟩
          refine ⟨.ref c1, rfl, .ref c1, rfl, c1, rfl, ⟨_, t1⟩, ?_⟩
          exact walk c1 "false" _ t1 (decide_eq_false fun e => absurd (V.str.inj e) (by decide)) _ _ (fun _ _ => rfl) rfl
end
end Rw
namespace Rw
open PySem PySem.Spec PyProof.Rows L2
/-! ### _reasons -/
abbrev sReasons : Stmt := topS 32
abbrev nReasons : List Str := ["program", "world", "row", "rows", "found", "known", "grows", "heads", "_", "needs"]
theorem scReasons : FnScope ["program", "world", "row", "rows", "found", "known", "grows", "heads", "_", "needs"] ["program", "world"] (defScope sReasons) := ⟨rfl, rfl, rfl, by decide +kernel, rfl, by decide +kernel, by decide +kernel⟩
/-- what follows from the rules of S that no name of ws bars -/
inductive Reach (S : List Rl) (ws : W) : Str → Prop
  | mk (r : Rl) : r ∈ S → meets r.2.2.2 ws = false → (∀ z ∈ r.2.2.1, Reach S ws z) → Reach S ws (hd r)
theorem seq_of {t u : TS} {D : Ends} {σ : L2.St} {H : Hp} (h : t { D with nx := u D } σ H) : tSeq t u D σ H := h
theorem asg_c {u : TS} {D : Ends} {σ : L2.St} {H : Hp} {i : Nat} {v : V} (h : u D (σ.set i (some v)) H) : tSeq (tAsg (tC v) (gName i)) u D σ H := h
theorem dps_snoc {K : PySem.W.Frag} {H : Hp} {x : V} {d : PyData} (h2 : Dp K H x d) : ∀ {xs : List V} {ds : List PyData}, DpAll K H xs ds → DpAll K H (xs ++ [x]) (ds ++ [d])
  | [], [], _ => .cons h2 .nil
  | _ :: _, _ :: _, .cons h t => .cons h (dps_snoc h2 t)
/-- the dict of the heads of R -/
def KD (R : List Rl) : List (Key × V) := (R.map hd).map fun z => ((.inr z : Key), V.bl true)
theorem has_kd (zs : W) (v : V) (z : Str) : hasK (zs.map fun z => ((.inr z : Key), v)) z = decide (z ∈ zs) := by
  unfold hasK valV
  rw [Option.isSome_map]
  by_cases h : z ∈ zs
  · rw [decide_eq_true h, List.find?_isSome]
    exact ⟨_, List.mem_map.mpr ⟨z, h, rfl⟩, decide_eq_true rfl⟩
  · rw [decide_eq_false h]
    cases e : (zs.map fun z => ((.inr z : Key), v)).find? fun kv => decide (kv.1 = .inr z) with
    | none => rfl
    | some p =>
      have h1 := List.find?_some e
      obtain ⟨y, hy, rfl⟩ := List.mem_map.mp (List.mem_of_find?_eq_some e)
      exact absurd ((Sum.inr.inj (of_decide_eq_true h1)) ▸ hy) h
theorem put_kd {R : List Rl} {r : Rl} (h : hd r ∉ R.map hd) : putK (KD R) (.inr (hd r)) (.bl true) = KD (R ++ [r]) := by
  have e : ((KD R).any fun kv => decide (kv.1 = .inr (hd r))) = false := by
    rw [List.any_eq_false]
    intro p hp
    obtain ⟨y, hy, rfl⟩ := List.mem_map.mp hp
    simp only [decide_eq_true_eq]
    exact fun q => h (Sum.inr.inj q ▸ hy)
  unfold putK
  rw [if_neg (by rw [e]; exact Bool.false_ne_true)]
  unfold KD
  rw [List.map_append, List.map_append]
  rfl
/-- all stays but what is at l and d -/
def Two (l d : Addr) (H H' : Hp) : Prop := ∀ b u, b ≠ l → b ≠ d → H b = some u → H' b = some u
theorem Two.trans {l d : Addr} {H H1 H2 : Hp} (a : Two l d H H1) (b : Two l d H1 H2) : Two l d H H2 := fun c u n1 n2 e => b c u n1 n2 (a c u n1 n2 e)
theorem Two.same {l d : Addr} {H H' : Hp} (s : Same H H') : Two l d H H' := fun b u _ _ e => s b u e
theorem Two.left {l d : Addr} {H : Hp} {o : HO} : Two l d H (upd H l o) := fun b u n _ e => by rw [upd_ne n]; exact e
theorem Two.right {l d : Addr} {H : Hp} {o : HO} : Two l d H (upd H d o) := fun b u _ n e => by rw [upd_ne n]; exact e
theorem Two.stay {l d : Addr} {H H' : Hp} (h : Two l d H H') (ml : Mut (H l)) (md : Mut (H d)) : Stay H H' := fun b xs r => by
  rcases r with r | ⟨o, r⟩
  · refine .inl (h b _ (fun z => ?_) (fun z => ?_) r)
    · rw [← z, r] at ml
      exact ml
    · rw [← z, r] at md
      exact md
  · refine .inr ⟨o, h b _ (fun z => ?_) (fun z => ?_) r⟩
    · rw [← z, r] at ml
      exact ml
    · rw [← z, r] at md
      exact md
theorem reach_head {S : List Rl} {ws : W} {R rows : List Rl} (er : rows = S.filter fun r => !meets r.2.2.2 ws) (cl : ∀ r ∈ rows, (∀ z ∈ r.2.2.1, z ∈ R.map hd) → hd r ∈ R.map hd) {y : Str} (h : Reach S ws y) : y ∈ R.map hd := by
  induction h with
  | mk r hr hm _ ih => exact cl r (by rw [er]; exact List.mem_filter.mpr ⟨hr, by rw [hm]; rfl⟩) ih
section
variable {P : Program} {w : World} {K : PySem.W.Frag} {mg : Str → Option Value} {base : Heap} {f : Addr} {fd : FuncData} {k : Nat}
def spReasons (K : PySem.W.Frag) (C : Addr) : Sp := fun vs H Q _ => ∃ (v wv : V) (S : List Rl) (ws : W), vs = [v, wv] ∧ PgAt K C H v S ∧ (∀ r ∈ S, IsR r) ∧ (∀ r ∈ S, basicB r = true) ∧ S.length < 64 ∧ Ws K H wv ws ∧
  ∀ H' D R, Same H H' → H D = none → RL K H' D R → (∀ r ∈ R, r ∈ S) → (R.map hd).Nodup → R.length ≤ S.length → (∀ y, y ∈ R.map hd ↔ Reach S ws y) → Q (.ref D) H'
theorem ok_reasons {C pr f1 f2 f3 : Addr} {fd1 fd2 fd3 : FuncData} (F : Fun K "_reasons" "_reasons" sReasons f fd) (T : Bl mg) (c : Cls K C) (hp : PropOf K C "rules" pr f2)
    (G1 : FnOk P w K mg base CX0 (k + 1) f1 fd1 ["one", "other"] (spMeet K)) (G1d : FnOk P w K mg base CX0 (k + 1) f1 fd1 ["one", "other"] (spMeetD K)) (b1 : Binds K fd1 ["one", "other"] []) (k1 : PySem.W.keepIn K (.ref f1) = true) (m1 : mg "meet" = some (.ref f1))
    (G2 : FnOk P w K mg base CX0 k f2 fd2 ["self"] (spRules K C)) (b2 : Binds K fd2 ["self"] [])
    (G3 : FnOk P w K mg base CX0 (k + 1) f3 fd3 ["names", "wanted"] (spHasAllD K)) (b3 : Binds K fd3 ["names", "wanted"] []) (k3 : PySem.W.keepIn K (.ref f3) = true) (m3 : mg "has_all" = some (.ref f3)) : FnOk P w K mg base CX0 (k + 2) f fd ["program", "world"] (spReasons K C) := by
  refine F.ok scReasons (fun vs H Q E h => ?_) (fun cdv A outer s H vs Q E hr h => ?_)
  · obtain ⟨v, wv, S, ws, rfl, _⟩ := h
    rfl
  obtain ⟨v, wv, S, ws, rfl, hS, hI, hB, few, hw, q⟩ := h
  have hu : (cxOf CX0 P w K mg base nReasons "_reasons" (defScope sReasons) f cdv A outer s H E).nox.A.units + 1 < cLine := Nat.lt_of_le_of_lt (Nat.add_le_add_left (by decide) _) hr.units
  refine ⟨_, pss_cons (ps_setLc (i := 3) (own := [("row", 2)]) (g := gName 2) (tt := tNot (tB (tCall (spMeet K) [] (fun _ _ _ => False) (tCons (tOp (rIxT K) (tVar 2) (tC (.int 3))) (tCons (tVar 1) tNil))))) (by rfl) scReasons.nd rfl rfl (sw_true rfl rfl rfl (by decide +kernel)) (pi_tup (pe_prop (pv 0) c hp G2 hr b2 .nil pass0 rfl)) (blkOk_by (N := nReasons) (sc := defScope sReasons) (by decide +kernel))
        (fun _ _ _ _ _ => pg_name (i := 2) scReasons.nd rfl (Or.inl rfl)) (fun _ _ _ _ _ => pts_one (pt_not (pt_val (pe_call G1 hr (by rfl) m1 k1 b1 .nil pass0 (pa_cons (pe_ix ix_tup (pv 2) pe_int (fun _ _ => rfl)) (pa_cons (pv 1) pa_nil)))))) (fun _ _ _ _ _ => pv 2))
    (pss_cons (ps_set (i := 4) scReasons.nd rfl (.inl rfl) (pe_lst pa_nil))
    (pss_cons (ps_set (i := 5) scReasons.nd rfl (.inl rfl) pe_dnewK)
    (pss_cons (ps_set (i := 6) scReasons.nd rfl (.inl rfl) pe_bl)
    (pss_cons (ps_while PassesOwn.never (pt_truth (pv 6) fun _ => rfl)
      (pss_cons (ps_set (i := 6) scReasons.nd rfl (.inl rfl) pe_bl)
      (pss_one (ps_for PassesOwn.never rfl (pi_list (pv 3)) (pg_name (i := 2) scReasons.nd rfl (.inl rfl))
        (pss_cons (ps_asg (pv 2) (pg_tup (by rfl) (pgs_cons (pg_name (i := 7) scReasons.nd rfl (.inl rfl)) (pgs_cons (pg_name (i := 8) scReasons.nd rfl (.inl rfl)) (pgs_cons (pg_name (i := 9) scReasons.nd rfl (.inl rfl)) (pgs_cons (pg_name (i := 8) scReasons.nd rfl (.inl rfl)) pgs_nil))))))
        (pss_one (ps_if (PW.pt (pw_and (pt_not (pt_val (pe_call G1d hr (by rfl) m1 k1 b1 .nil pass0 (pa_cons (pv 7) (pa_cons (pv 5) pa_nil))))) (pw_and1 (pt_val (pe_call G3 hr (by rfl) m3 k3 b3 .nil pass0 (pa_cons (pv 5) (pa_cons (pv 9) pa_nil)))))))
          (pss_cons (ps_dput hu (pv 5) (pe_ix ix_tup (pv 7) pe_int (fun _ _ => rfl)) pe_bl rfl)
          (pss_cons (ps_expr (pe_bm PySem.F.plainAttrs_list PySem.F.slot_list_append PySem.F.type_list_append mt_append (pv 4) (pa_cons (pv 2) pa_nil)))
          (pss_one (ps_set (i := 6) scReasons.nd rfl (.inl rfl) pe_bl)))) pss_nil)))))))
    (pss_one (ps_ret (pv 4))))))), ?_⟩
  let rows : List Rl := S.filter fun r => !meets r.2.2.2 ws
  have rowsS : ∀ r ∈ rows, r ∈ S := fun r hr => (List.mem_filter.mp hr).1
  obtain ⟨a, dx, t0, ys0, rfl, i1', i2', i3'⟩ := id hS
  refine ⟨.ref a, rfl, a, dx, _, rfl, i1', .ref a, S, rfl, hS, fun t ys ht hys => ?_⟩
  have yl : ys.length = S.length := by rw [dpAll_len hys, List.length_map]
  refine ⟨t, rfl, ⟨_, ht⟩, fun lr hlr => ?_⟩
  refine lc_tup (xs := ys) (fun i H1 => Same H H1 ∧ ∃ zs, H1 lr = some (.lst zs) ∧ DpAll K H1 zs (((S.take i).filter fun r => !meets r.2.2.2 ws).map rd) ∧ zs.length ≤ i) ⟨same_new hlr _, [], upd_same, .nil, Nat.le_refl _⟩ (fun i H1 _ hI1 => same_tup hI1.1 ht) (fun i x H1 hx hI1 => ?_) (fun H1 hI1 => ?_)
  · obtain ⟨sm, zs, hz, hzs, lz⟩ := hI1
    obtain ⟨dd, hdd, hxd⟩ := dpAll_at' hys hx
    obtain ⟨r, hr0, rfl⟩ := map_at hdd
    have il : i < ys.length := (List.getElem?_eq_some_iff.mp hx).1
    have hxd2 := dp_same sm _ _ hxd
    obtain ⟨b, v1, v2, v3, v4, rfl, hT, h1, h2, h3, h4⟩ := of_rd hxd2
    have hr' := hI r (List.mem_of_getElem? hr0)
    have fb := hr'.b.few
    have mz : Mut (H1 lr) := by
      rw [hz]
      exact True.intro
    refine ⟨rfl, .ref b, rfl, b, _, 3, v4, rfl, rfl, hT, rfl, wv, rfl, v4, wv, r.2.2.2, ws, rfl, h4, hw.same sm, by omega, fun H2 s2 => ⟨_, rfl, ite2 (fun e => ?_) (fun e => ?_)⟩⟩
    · refine ⟨.ref b, rfl, zs, s2 _ _ hz, small_line' (by omega), same_put (sm.trans s2) hlr, zs ++ [.ref b], upd_same, ?_, by rw [List.length_append]; show zs.length + 1 ≤ i + 1; omega⟩
      rw [filt_t hr0 (show (!meets r.2.2.2 ws) = true from e), List.map_append]
      have mz2 : Mut (H2 lr) := by
        rw [s2 _ _ hz]
        exact True.intro
      exact dps_snoc ((Stay.put mz2 _).rd (dp_same s2 _ _ hxd2)) ((Stay.put mz2 _).dpAll _ _ (okDs_rd _) (dpAll_same s2 _ _ hzs))
    · refine ⟨sm.trans s2, zs, s2 _ _ hz, ?_, by omega⟩
      rw [filt_f hr0 (show (!meets r.2.2.2 ws) = false by simpa using e)]
      exact dpAll_same s2 _ _ hzs
  obtain ⟨sm, zs, hz, hzs, lz⟩ := hI1
  rw [yl, List.take_length] at hzs
  have zl : zs.length = rows.length := by rw [dpAll_len hzs, List.length_map]
  have rl : rows.length ≤ S.length := List.length_filter_le _ _
  -- found, known
  refine ⟨by show 0 ≤ sizeLine; decide, fun l hl d hd' => ?_⟩
  have sl := same_new hl (.lst [])
  have sd := same_new hd' (.dK [])
  let HS : Hp := upd (upd H1 l (.lst [])) d (.dK [])
  have ld : l ≠ d := fun z => by
    rw [← z, upd_same] at hd'
    cases hd'
  have hSl : HS l = some (.lst []) := sd _ _ upd_same
  have hSd : HS d = some (.dK []) := upd_same
  have hzS : HS lr = some (.lst zs) := (sl.trans sd) _ _ hz
  have hzsS : DpAll K HS zs (rows.map rd) := dpAll_same (sl.trans sd) _ _ hzs
  have nl : lr ≠ l := fun z => by
    rw [z, hl] at hz
    cases hz
  have nd : lr ≠ d := fun z => by
    rw [z] at hz
    have := sl _ _ hz
    rw [hd'] at this
    cases this
  have mutl : Mut (HS l) := by
    rw [hSl]
    exact True.intro
  have mutd : Mut (HS d) := by
    rw [hSd]
    exact True.intro
  have reach_row : ∀ {R : List Rl} {r : Rl}, r ∈ rows → (∀ y ∈ R.map hd, Reach S ws y) → (∀ z ∈ r.2.2.1, z ∈ R.map hd) → Reach S ws (hd r) := fun {R r} hr hs hn => by
    have := List.mem_filter.mp hr
    exact .mk r this.1 (by simpa using this.2) fun z hz => hs z (hn z hz)
  have lenR : ∀ {R : List Rl}, (R.map hd).Nodup → (∀ r ∈ R, r ∈ rows) → R.length ≤ rows.length := fun {R} n h => len_le (nodup_of_map n) h
  let Good : L2.St → Hp → Bool → List Rl → Prop := fun σ H' g R => (∃ y2 y7 y8 y9, σ = [some (.ref a), some wv, y2, some (.ref lr), some (.ref l), some (.ref d), some (.bl g), y7, y8, y9]) ∧ Two l d HS H' ∧ (∃ ys2, H' l = some (.lst ys2) ∧ DpAll K H' ys2 (R.map rd)) ∧ H' d = some (.dK (KD R)) ∧ (R.map hd).Nodup ∧ (∀ r ∈ R, r ∈ rows) ∧ (∀ y ∈ R.map hd, Reach S ws y)
  let μ : L2.St → Hp → Nat := fun σ H' => 2 * (rows.length - (match H' l with | some (.lst ys) => ys.length | _ => 0)) + (match σ[6]? with | some (some (.bl true)) => 1 | _ => 0)
  have μ_val : ∀ {σ H' g R}, Good σ H' g R → μ σ H' = 2 * (rows.length - R.length) + (if g = true then 1 else 0) := fun {σ H' g R} h => by
    obtain ⟨⟨y2, y7, y8, y9, rfl⟩, _, ⟨ys2, e1, e2⟩, _⟩ := h
    have el : ys2.length = R.length := by rw [dpAll_len e2, List.length_map]
    show 2 * (rows.length - (match H' l with | some (.lst ys) => ys.length | _ => 0)) + _ = _
    rw [e1]
    show 2 * (rows.length - ys2.length) + _ = _
    rw [el]
    cases g <;> rfl
  dsimp only [gName, tSeq, tAsg, tC]
  refine while_by (fun σ H' => ∃ g R, Good σ H' g R ∧ (g = false → ∀ r ∈ rows, (∀ z ∈ r.2.2.1, z ∈ R.map hd) → hd r ∈ R.map hd)) μ ⟨true, [], ⟨⟨_, _, _, _, rfl⟩, fun _ _ _ _ e => e, ⟨[], hSl, .nil⟩, hSd, List.nodup_nil, (fun _ z => nomatch z), fun _ z => nomatch z⟩, fun e => nomatch e⟩ (fun σ H2 hP => ?_) (fun σ H2 Q1 Q2 m h => by
    obtain ⟨v, hv, k, t, q⟩ := h
    exact ⟨v, hv, k, t, m _ _ q⟩)
  obtain ⟨g, R, hG, hcl⟩ := hP
  obtain ⟨⟨y2, y7, y8, y9, rfl⟩, two, ⟨ys2, hl2, hys2⟩, hd2, ndp, sub, snd⟩ := id hG
  refine ⟨.bl g, rfl, g, rfl, ?_⟩
  cases g with
  | false =>
    refine iteF ?_
    refine ⟨.ref l, rfl, q H2 l R (fun b u e => two b u (fun z => ?_) (fun z => ?_) ((sm.trans (sl.trans sd)) b u e)) (none_back sm hl) ⟨ys2, hl2, hys2⟩ (fun r hr => rowsS r (sub r hr)) ndp (Nat.le_trans (lenR ndp sub) rl) fun y => ⟨snd y, reach_head rfl (hcl rfl)⟩⟩
    · rw [z, none_back sm hl] at e
      cases e
    · rw [z, none_back (sm.trans sl) hd'] at e
      cases e
  | true =>
    refine iteT ?_
    have hGμ := μ_val hG
    refine ⟨.ref lr, rfl, lr, rfl, ⟨_, SqL.of (two _ _ nl nd hzS)⟩, for_list (xs := zs) (fun i σ H3 => ∃ g' R', Good σ H3 g' R' ∧ R.length ≤ R'.length ∧ (g' = true → R.length < R'.length) ∧ (g' = false → R' = R ∧ ∀ r ∈ rows.take i, (∀ z ∈ r.2.2.1, z ∈ R.map hd) → hd r ∈ R.map hd)) ⟨false, R, ⟨⟨_, _, _, _, rfl⟩, two, ⟨ys2, hl2, hys2⟩, hd2, ndp, sub, snd⟩, Nat.le_refl _, (fun e => nomatch e), fun _ => ⟨rfl, fun r hr => absurd hr (by simp)⟩⟩ (fun i σ H3 _ hI3 => ?_) (fun i x σ H3 hx hI3 => ?_) (fun σ H3 hI3 => ?_)⟩
    · obtain ⟨g', R', ⟨_, two', _⟩, _⟩ := hI3
      exact SqL.of (two' _ _ nl nd hzS)
    · obtain ⟨g', R', hG', le', gt', cl'⟩ := hI3
      obtain ⟨⟨z2, z7, z8, z9, rfl⟩, two', ⟨ys3, hl3, hys3⟩, hd3, ndp', sub', snd'⟩ := hG'
      have st : Stay HS H3 := two'.stay mutl mutd
      obtain ⟨dd, hdd, hxd⟩ := dpAll_at' hzsS hx
      obtain ⟨r, hr0, rfl⟩ := map_at hdd
      have hrr : r ∈ rows := List.mem_of_getElem? hr0
      have hr' := hI r (rowsS r hrr)
      have hxd3 := st.rd hxd
      obtain ⟨b, v1, v2, v3, v4, rfl, hT, h1, h2, h3, h4⟩ := of_rd hxd3
      obtain ⟨c1, rfl, t1⟩ := of_wd h1
      have eh := hd_of (hB r (rowsS r hrr))
      have f1' := hr'.h.few
      have f3' := hr'.n.few
      have mem_any : r.1.any (hasK (KD R')) = decide (hd r ∈ R'.map hd) := by
        rw [eh, List.any_cons, List.any_nil, Bool.or_false]
        exact has_kd _ _ _
      have mem_all : r.2.2.1.all (hasK (KD R')) = decide (∀ z ∈ r.2.2.1, z ∈ R'.map hd) := by
        have : (hasK (KD R')) = fun z => decide (z ∈ R'.map hd) := funext fun z => has_kd _ _ z
        rw [this]
        by_cases h : ∀ z ∈ r.2.2.1, z ∈ R'.map hd
        · rw [decide_eq_true h, List.all_eq_true]
          exact fun z hz => decide_eq_true (h z hz)
        · rw [decide_eq_false h, List.all_eq_false]
          simp only [decide_eq_true_eq]
          exact Classical.not_forall.mp h |>.elim fun z hz => ⟨z, (Classical.not_imp.mp hz).1, (Classical.not_imp.mp hz).2⟩
      -- nothing is shown by this row
      have stay : ∀ H5, Same H3 H5 → (hd r ∈ R'.map hd ∨ ¬ ∀ z ∈ r.2.2.1, z ∈ R'.map hd) → ∃ g2 R2, Good [some (.ref a), some wv, some (.ref b), some (.ref lr), some (.ref l), some (.ref d), some (.bl g'), some (.ref c1), some v4, some v3] H5 g2 R2 ∧ R.length ≤ R2.length ∧ (g2 = true → R.length < R2.length) ∧ (g2 = false → R2 = R ∧ ∀ r ∈ rows.take (i + 1), (∀ z ∈ r.2.2.1, z ∈ R.map hd) → hd r ∈ R.map hd) := fun H5 h5 h => by
        refine ⟨g', R', ⟨⟨_, _, _, _, rfl⟩, two'.trans (.same h5), ⟨ys3, h5 _ _ hl3, dpAll_same h5 _ _ hys3⟩, h5 _ _ hd3, ndp', sub', snd'⟩, le', gt', fun e => ?_⟩
        obtain ⟨rfl, hc⟩ := cl' e
        refine ⟨rfl, fun r2 hr2 hn => ?_⟩
        rw [take_snoc hr0] at hr2
        rcases List.mem_append.mp hr2 with z | z
        · exact hc r2 z hn
        · rw [List.mem_singleton.mp z] at hn ⊢
          rcases h with h | h
          · exact h
          · exact absurd hn h
      have lim := lenR ndp' sub'
      refine ⟨.ref b, rfl, b, [.ref c1, v2, v3, v4], rfl, hT, rfl, _, _, rfl, _, _, rfl, _, _, rfl, _, [], rfl, rfl, ?_⟩
      refine ⟨.ref c1, rfl, .ref d, rfl, .ref c1, d, r.1, KD R', rfl, to_wd t1, hd3, by omega, fun H4 s4 => ⟨_, rfl, ?_⟩⟩
      rw [mem_any]
      refine ite2 (fun e1 => ?_) (fun e1 => ?_)
      · have e1' : hd r ∉ R'.map hd := by simpa using e1
        refine ⟨.ref d, rfl, v3, rfl, d, v3, KD R', r.2.2.1, rfl, s4 _ _ hd3, dp_same s4 _ _ h3, by omega, fun H5 s5 => ⟨_, rfl, ?_⟩⟩
        rw [mem_all]
        have s45 := s4.trans s5
        refine ite2 (fun e2 => ?_) (fun e2 => ?_)
        · have e2' : ∀ z ∈ r.2.2.1, z ∈ R'.map hd := of_decide_eq_true e2
          have t1' := same_tup s45 t1
          have kl : (KD R').length = R'.length := by
            unfold KD
            rw [List.length_map, List.length_map]
          have yl3 : ys3.length = R'.length := by rw [dpAll_len hys3, List.length_map]
          refine ⟨.ref d, rfl, .ref c1, rfl, c1, _, 0, .str (hd r), rfl, rfl, t1', by rw [eh]; rfl, d, _, rfl, .inl ⟨_, .inr (hd r), s45 _ _ hd3, rfl, small_line' (by omega), rfl⟩, ?_⟩
          let H6 : Hp := upd H5 d (.dK (putK (KD R') (.inr (hd r)) (.bl true)))
          have hl6 : H6 l = some (.lst ys3) := by
            show upd _ _ _ l = _
            rw [upd_ne ld]
            exact s45 _ _ hl3
          refine ⟨.ref l, rfl, .inl ⟨rfl, ys3, SqL.of hl6⟩, .ref b, rfl, l, ys3, .ref b, rfl, rfl, hl6, small_line' (by omega), ?_⟩
          have two37 : Two l d H3 (upd H6 l (.lst (ys3 ++ [.ref b]))) := (Two.same s45).trans (Two.right.trans .left)
          have ml3 : Mut (H3 l) := by
            rw [hl3]
            exact True.intro
          have md3 : Mut (H3 d) := by
            rw [hd3]
            exact True.intro
          have st37 := two37.stay ml3 md3
          refine ⟨true, R' ++ [r], ⟨⟨_, _, _, _, rfl⟩, two'.trans two37, ⟨ys3 ++ [.ref b], upd_same, ?_⟩, ?_, ?_, fun r2 h => ?_, fun y hy => ?_⟩, by rw [List.length_append]; omega, fun _ => by rw [List.length_append]; show R.length < R'.length + 1; omega, fun e => nomatch e⟩
          · rw [List.map_append]
            exact dps_snoc (st37.rd hxd3) (st37.dpAll _ _ (okDs_rd _) hys3)
          · rw [upd_ne (Ne.symm ld)]
            show upd _ _ _ d = _
            rw [upd_same, put_kd e1']
          · rw [List.map_append]
            exact List.nodup_append.mpr ⟨ndp', by simp, fun x hx y hy e => by
              rw [List.mem_singleton.mp hy] at e
              exact e1' (e ▸ hx)⟩
          · rcases List.mem_append.mp h with h | h
            · exact sub' r2 h
            · rw [List.mem_singleton.mp h]
              exact hrr
          · rw [List.map_append] at hy
            rcases List.mem_append.mp hy with h | h
            · exact snd' y h
            · rw [List.mem_singleton.mp h]
              exact reach_row hrr snd' e2'
        · exact stay H5 s45 (.inr (by simpa using e2))
      · exact stay H4 s4 (.inl (by simpa using e1))
    · obtain ⟨g', R', hG', le', gt', cl'⟩ := hI3
      refine ⟨⟨g', R', hG', fun e => ?_⟩, ?_⟩
      · obtain ⟨rfl, h⟩ := cl' e
        rw [zl, List.take_length] at h
        exact h
      · rw [hGμ, μ_val hG', if_pos rfl]
        have lim := lenR (R := R') hG'.2.2.2.2.1 hG'.2.2.2.2.2.1
        cases g' with
        | true =>
          have := gt' rfl
          rw [if_pos rfl]
          omega
        | false =>
          obtain ⟨rfl, _⟩ := cl' rfl
          rw [if_neg Bool.false_ne_true]
          omega
end
end Rw
namespace Rw
open PySem PySem.Spec PyProof.Rows L2
/-! ### founded values: what is true and what is false -/
inductive ReachP (S : List Rl) (X : Str → Prop) : Str → Prop
  | mk (r : Rl) : r ∈ S → (∀ z ∈ r.2.2.2, ¬ X z) → (∀ z ∈ r.2.2.1, ReachP S X z) → ReachP S X (hd r)
theorem meets_iff {ns ms : W} : meets ns ms = false ↔ ∀ z ∈ ns, ¬ z ∈ ms := by
  unfold meets
  rw [List.any_eq_false]
  simp only [decide_eq_true_eq]
theorem reach_iff {S : List Rl} {ws : W} {X : Str → Prop} (h : ∀ y, X y ↔ y ∈ ws) {y : Str} : Reach S ws y ↔ ReachP S X y := by
  constructor
  · intro r
    induction r with
    | mk r hr hm _ ih => exact .mk r hr (fun z hz x => meets_iff.mp hm z hz ((h z).mp x)) ih
  · intro r
    induction r with
    | mk r hr hm _ ih => exact .mk r hr (meets_iff.mpr fun z hz x => hm z hz ((h z).mpr x)) ih
section
variable {S : List Rl} {nm X Y T F : Str → Prop} {y : Str}
theorem reach_anti (h : ∀ y, X y → Y y) (r : ReachP S Y y) : ReachP S X y := by
  induction r with
  | mk r hr hm _ ih => exact .mk r hr (fun z hz x => hm z hz (h z x)) ih
/-- closed under the rules, and under what cannot be reached -/
def Closed (S : List Rl) (nm T F : Str → Prop) : Prop := (∀ r ∈ S, (∀ z ∈ r.2.2.1, T z) → (∀ z ∈ r.2.2.2, F z) → T (hd r)) ∧ ∀ y, nm y → ¬ ReachP S T y → F y
def TT (S : List Rl) (nm : Str → Prop) (y : Str) : Prop := ∀ T F, Closed S nm T F → T y
def FF (S : List Rl) (nm : Str → Prop) (y : Str) : Prop := ∀ T F, Closed S nm T F → F y
theorem tt_closed : Closed S nm (TT S nm) (FF S nm) :=
  ⟨fun r hr hn hb T F c => c.1 r hr (fun z hz => hn z hz T F c) (fun z hz => hb z hz T F c), fun y hy no T F c => c.2 y hy fun r => no (reach_anti (fun z t => t T F c) r)⟩
theorem ff_no (h : FF S nm y) : nm y ∧ ¬ ReachP S (TT S nm) y :=
  h (TT S nm) (fun y => nm y ∧ ¬ ReachP S (TT S nm) y) ⟨fun r hr hn hb => tt_closed.1 r hr hn fun z hz => tt_closed.2 z (hb z hz).1 (hb z hz).2, fun y a b => ⟨a, b⟩⟩
theorem aa_tt (hb : ∀ r ∈ S, ∀ z ∈ r.2.2.2, nm z) (h : ReachP S (ReachP S (TT S nm)) y) : TT S nm y := by
  induction h with
  | mk r hr hm _ ih => exact tt_closed.1 r hr ih fun z hz => tt_closed.2 z (hb r hr z hz) (hm z hz)
theorem tt_aa (hb : ∀ r ∈ S, ∀ z ∈ r.2.2.2, nm z) (h : TT S nm y) : ReachP S (ReachP S (TT S nm)) y :=
  h _ (fun y => nm y ∧ ¬ ReachP S (TT S nm) y) ⟨fun r hr hn hbr => .mk r hr (fun z hz => (hbr z hz).2) hn, fun y a b => ⟨a, fun q => b (reach_anti (fun z => aa_tt hb) q)⟩⟩
theorem tt_a (hb : ∀ r ∈ S, ∀ z ∈ r.2.2.2, nm z) (h : TT S nm y) : ReachP S (TT S nm) y :=
  h _ (fun y => nm y ∧ ¬ ReachP S (ReachP S (TT S nm)) y) ⟨fun r hr hn hbr => .mk r hr (fun z hz t => (hbr z hz).2 (tt_aa hb t)) hn, fun y a b => ⟨a, b⟩⟩
theorem tt_ff (hb : ∀ r ∈ S, ∀ z ∈ r.2.2.2, nm z) (h : TT S nm y) (h2 : FF S nm y) : False := (ff_no h2).2 (tt_a hb h)
/-- what cannot be reached from true names is false -/
theorem ff_of (h : ∀ y, T y → TT S nm y) (n : nm y) (no : ¬ ReachP S T y) : FF S nm y := tt_closed.2 y n fun r => no (reach_anti h r)
/-- what is reached when all bars are false is true -/
theorem tt_of (hb : ∀ r ∈ S, ∀ z ∈ r.2.2.2, nm z) (h : ∀ y, T y → TT S nm y) (r : ReachP S (ReachP S T) y) : TT S nm y := by
  induction r with
  | mk r hr hm _ ih => exact tt_closed.1 r hr ih fun z hz => ff_of h (hb r hr z hz) (hm z hz)
theorem tt_end (c : Closed S nm T F) (h : ∀ y, T y → TT S nm y) : T y ↔ TT S nm y := ⟨h y, fun t => t T F c⟩
theorem ff_end (c : Closed S nm T F) (h : ∀ y, F y → FF S nm y) : F y ↔ FF S nm y := ⟨h y, fun t => t T F c⟩
/-- the program's end: nothing rises any more -/
theorem closed_prog (up : ∀ y, T y → ReachP S (ReachP S T) y) (stop : ∀ y, ReachP S (ReachP S T) y → T y) (no : ∀ y, F y → ¬ ReachP S T y) (all : ∀ y, nm y → ¬ ReachP S T y → F y) : Closed S nm T F :=
  ⟨fun r hr hn hb => stop _ (.mk r hr (fun z hz => no z (hb z hz)) fun z hz => up z (hn z hz)), all⟩
/-- T grows: what holds of it is kept -/
theorem aa_mono (h : ∀ y, X y → Y y) (r : ReachP S (ReachP S X) y) : ReachP S (ReachP S Y) y := reach_anti (fun z => reach_anti h) r
end
end Rw
namespace Rw
open PySem PySem.Spec PyProof.Rows L2
/-! ### _steps_to_all -/
abbrev sSteps : Stmt := topS 31
abbrev nSteps : List Str := ["program", "steps", "risen", "fallen", "possible_names", "falling", "rising", "name", "row"]
theorem scSteps : FnScope ["program", "steps", "risen", "fallen", "possible_names", "falling", "rising", "name", "row"] ["program"] (defScope sSteps) := ⟨rfl, rfl, rfl, by decide +kernel, rfl, by decide +kernel, by decide +kernel⟩
/-- the names of S -/
def nmP (S : List Rl) (y : Str) : Prop := y ∈ namesL S
/-- what holds between two rounds -/
structure StI (S : List Rl) (T F : W) (ds : List PyData) : Prop where
  tt : ∀ y ∈ T, TT S (nmP S) y
  ff : ∀ y ∈ F, FF S (nmP S) y
  no : ∀ y ∈ F, ¬ ReachP S (· ∈ T) y
  up : ∀ y ∈ T, ReachP S (ReachP S (· ∈ T)) y
  nT : T.Nodup
  nF : F.Nodup
  st : ∀ d ∈ ds, ∃ zs b, StepD [] d zs b ∧ (b = true → ∀ z ∈ zs, z ∈ T) ∧ (b = false → ∀ z ∈ zs, z ∈ F)
  aT : ∀ y ∈ T, ∃ d ∈ ds, ∃ zs, StepD [] d zs true ∧ y ∈ zs
  aF : ∀ y ∈ F, ∃ d ∈ ds, ∃ zs, StepD [] d zs false ∧ y ∈ zs
  len : ds.length ≤ T.length + F.length
theorem own_part {S : List Rl} {r : Rl} {t : W} {z : Str} (hr : r ∈ S) (ht : t ∈ parts r) (hz : z ∈ t) : nmP S z :=
  List.mem_flatMap.mpr ⟨r, hr, List.mem_flatMap.mpr ⟨t, ht, hz⟩⟩
theorem bars_nm {S : List Rl} : ∀ r ∈ S, ∀ z ∈ r.2.2.2, nmP S z := fun r hr z hz => own_part hr (by unfold parts; simp) hz
theorem reach_nm {S : List Rl} (hB : ∀ r ∈ S, basicB r = true) {X : Str → Prop} {y : Str} (h : ReachP S X y) : nmP S y := by
  cases h with
  | mk r hr _ _ => exact own_part hr (t := r.1) (by unfold parts; simp) (by rw [hd_of (hB r hr)]; simp)
theorem StI.start {S : List Rl} : StI S [] [] [] := ⟨(fun _ z => nomatch z), (fun _ z => nomatch z), (fun _ z => nomatch z), (fun _ z => nomatch z), List.nodup_nil, List.nodup_nil, (fun _ z => nomatch z), (fun _ z => nomatch z), (fun _ z => nomatch z), Nat.le_refl _⟩
section
variable {S : List Rl} {T F U ns : W} {ds : List PyData}
def fallL (ns U F : W) : W := ns.filter fun z => !decide (z ∈ U) && !decide (z ∈ F)
theorem mem_fall {z : Str} : z ∈ fallL ns U F ↔ z ∈ ns ∧ z ∉ U ∧ z ∉ F := by
  unfold fallL
  rw [List.mem_filter]
  simp
theorem fall_all (hU : ∀ y, y ∈ U ↔ ReachP S (· ∈ T) y) (hn : ∀ z, z ∈ ns ↔ z ∈ namesL S) : ∀ y, nmP S y → ¬ ReachP S (· ∈ T) y → y ∈ F ++ fallL ns U F := fun y n no => by
  by_cases h : y ∈ F
  · exact List.mem_append.mpr (.inl h)
  · exact List.mem_append.mpr (.inr (mem_fall.mpr ⟨(hn y).mpr n, fun u => no ((hU y).mp u), h⟩))
theorem StI.fall (h : StI S T F ds) (hU : ∀ y, y ∈ U ↔ ReachP S (· ∈ T) y) (hn : ∀ z, z ∈ ns ↔ z ∈ namesL S) (nn : ns.Nodup) (ne : fallL ns U F ≠ []) : StI S T (F ++ fallL ns U F) (ds ++ [.tuple [.str "false", wd (fallL ns U F)]]) := by
  have no : ∀ y ∈ fallL ns U F, ¬ ReachP S (· ∈ T) y := fun y hy r => (mem_fall.mp hy).2.1 ((hU y).mpr r)
  refine ⟨h.tt, fun y hy => ?_, fun y hy => ?_, h.up, h.nT, ?_, fun d hd => ?_, fun y hy => ?_, fun y hy => ?_, ?_⟩
  · rcases List.mem_append.mp hy with z | z
    · exact h.ff y z
    · exact ff_of (T := (· ∈ T)) h.tt ((hn y).mp (mem_fall.mp z).1) (no y z)
  · rcases List.mem_append.mp hy with z | z
    · exact h.no y z
    · exact no y z
  · refine List.nodup_append.mpr ⟨h.nF, nn.sublist List.filter_sublist, fun x hx y hy e => ?_⟩
    subst e
    exact (mem_fall.mp hy).2.2 hx
  · rcases List.mem_append.mp hd with z | z
    · obtain ⟨zs, b, h1, h2, h3⟩ := h.st d z
      exact ⟨zs, b, h1, h2, fun e x hx => List.mem_append.mpr (.inl (h3 e x hx))⟩
    · rw [List.mem_singleton.mp z]
      exact ⟨_, false, .inr ⟨rfl, rfl⟩, (fun e => nomatch e), fun _ x hx => List.mem_append.mpr (.inr hx)⟩
  · obtain ⟨d, hd, zs, h1, h2⟩ := h.aT y hy
    exact ⟨d, List.mem_append.mpr (.inl hd), zs, h1, h2⟩
  · rcases List.mem_append.mp hy with z | z
    · obtain ⟨d, hd, zs, h1, h2⟩ := h.aF y z
      exact ⟨d, List.mem_append.mpr (.inl hd), zs, h1, h2⟩
    · exact ⟨_, List.mem_append.mpr (.inr List.mem_cons_self), _, .inr ⟨rfl, rfl⟩, z⟩
  · have := h.len
    have p : 0 < (fallL ns U F).length := List.length_pos_iff.mpr ne
    rw [List.length_append, List.length_append]
    show ds.length + 1 ≤ _
    omega
def stepT (r : Rl) : PyData := .tuple [.str "true", rd r]
theorem StI.rise {R : List Rl} (h : StI S T F ds) (hB : ∀ r ∈ S, basicB r = true) (hU : ∀ y, y ∈ U ↔ ReachP S (· ∈ T) y) (hS : ∀ r ∈ R, r ∈ S) (nR : (R.map hd).Nodup) (hR : ∀ y ∈ R.map hd, ReachP S (· ∈ U) y) (hno : ∀ r ∈ R, hd r ∉ T) : StI S (T ++ R.map hd) F (ds ++ R.map stepT) := by
  have eU : ∀ y, ReachP S (· ∈ U) y → ReachP S (ReachP S (· ∈ T)) y := fun y r => reach_anti (fun z t => (hU z).mpr t) r
  have sub : ∀ y, y ∈ T → y ∈ T ++ R.map hd := fun y hy => List.mem_append.mpr (.inl hy)
  refine ⟨fun y hy => ?_, h.ff, fun y hy r => h.no y hy (reach_anti sub r), fun y hy => ?_, ?_, h.nF, fun d hd' => ?_, fun y hy => ?_, fun y hy => ?_, ?_⟩
  · rcases List.mem_append.mp hy with z | z
    · exact h.tt y z
    · exact tt_of bars_nm h.tt (eU y (hR y z))
  · rcases List.mem_append.mp hy with z | z
    · exact aa_mono sub (h.up y z)
    · exact aa_mono sub (eU y (hR y z))
  · refine List.nodup_append.mpr ⟨h.nT, nR, fun x hx y hy e => ?_⟩
    subst e
    obtain ⟨r, hr, rfl⟩ := List.mem_map.mp hy
    exact hno r hr hx
  · rcases List.mem_append.mp hd' with z | z
    · obtain ⟨zs, b, h1, h2, h3⟩ := h.st d z
      exact ⟨zs, b, h1, fun e x hx => sub x (h2 e x hx), h3⟩
    · obtain ⟨r, hr, rfl⟩ := List.mem_map.mp z
      exact ⟨[hd r], true, .inl ⟨r, rfl, hB r (hS r hr), rfl, rfl⟩, (fun _ x hx => List.mem_append.mpr (.inr (by rw [List.mem_singleton.mp hx]; exact List.mem_map.mpr ⟨r, hr, rfl⟩))), fun e => nomatch e⟩
  · rcases List.mem_append.mp hy with z | z
    · obtain ⟨d, hd, zs, h1, h2⟩ := h.aT y z
      exact ⟨d, List.mem_append.mpr (.inl hd), zs, h1, h2⟩
    · obtain ⟨r, hr, rfl⟩ := List.mem_map.mp z
      exact ⟨stepT r, List.mem_append.mpr (.inr (List.mem_map.mpr ⟨r, hr, rfl⟩)), [hd r], .inl ⟨r, rfl, hB r (hS r hr), rfl, rfl⟩, List.mem_cons_self⟩
  · obtain ⟨d, hd, zs, h1, h2⟩ := h.aF y hy
    exact ⟨d, List.mem_append.mpr (.inl hd), zs, h1, h2⟩
  · have := h.len
    rw [List.length_append, List.length_append, List.length_map, List.length_map]
    omega
theorem StI.fin {U : W} (h : StI S T F ds) (hU : ∀ y, y ∈ U ↔ ReachP S (· ∈ T) y) (stop : ∀ y, ReachP S (· ∈ U) y → y ∈ T) (all : ∀ y, nmP S y → ¬ ReachP S (· ∈ T) y → y ∈ F) : (∀ y, TT S (nmP S) y → y ∈ T) ∧ ∀ y, FF S (nmP S) y → y ∈ F := by
  have c : Closed S (nmP S) (· ∈ T) (· ∈ F) := closed_prog (fun y hy => h.up y hy) (fun y r => stop y (reach_anti (fun z t => (hU z).mp t) r)) (fun y hy => h.no y hy) all
  exact ⟨fun y t => t _ _ c, fun y t => t _ _ c⟩
end
section
variable {P : Program} {w : World} {K : PySem.W.Frag} {mg : Str → Option Value} {base : Heap} {f : Addr} {fd : FuncData} {k : Nat}
def spSteps (K : PySem.W.Frag) (C : Addr) : Sp := fun vs H Q _ => ∃ (v : V) (S : List Rl) (bd : W), vs = [v] ∧ PgAt K C H v S ∧ (∀ r ∈ S, IsR r) ∧ (∀ r ∈ S, basicB r = true) ∧ S.length < 64 ∧ (∀ z ∈ namesL S, z ∈ bd) ∧ bd.length ≤ 40 ∧
  ∀ H' D ys ds, Same H H' → H' D = some (.lst ys) → DpAll K H' ys ds → (∀ d ∈ ds, ∃ zs b, StepD [] d zs b ∧ (b = true → ∀ z ∈ zs, TT S (nmP S) z) ∧ (b = false → ∀ z ∈ zs, FF S (nmP S) z)) →
    (∀ y, TT S (nmP S) y → ∃ d ∈ ds, ∃ zs, StepD [] d zs true ∧ y ∈ zs) → (∀ y, FF S (nmP S) y → ∃ d ∈ ds, ∃ zs, StepD [] d zs false ∧ y ∈ zs) → Q (.ref D) H'
end
end Rw
namespace Rw
open PySem PySem.Spec PyProof.Rows L2
theorem dps_app {K : PySem.W.Frag} {H : Hp} {ys : List V} {es : List PyData} (h2 : DpAll K H ys es) : ∀ {xs : List V} {ds : List PyData}, DpAll K H xs ds → DpAll K H (xs ++ ys) (ds ++ es)
  | [], [], _ => h2
  | _ :: _, _ :: _, .cons h t => .cons h (dps_app h2 t)
section
variable {P : Program} {w : World} {K : PySem.W.Frag} {mg : Str → Option Value} {base : Heap} {f : Addr} {fd : FuncData} {k : Nat}
theorem ok_steps {C pN pR f1 f2 f3 f4 : Addr} {fd1 fd2 fd3 fd4 : FuncData} (F : Fun K "_steps_to_all" "_steps_to_all" sSteps f fd) (T : Bl mg) (c : Cls K C) (hp : PropOf K C "names" pN f2)
    (G1 : FnOk P w K mg base CX0 (k + 1) f1 fd1 ["program", "world"] (spReasons K C)) (b1 : Binds K fd1 ["program", "world"] []) (k1 : PySem.W.keepIn K (.ref f1) = true) (m1 : mg "_reasons" = some (.ref f1))
    (G2 : FnOk P w K mg base CX0 k f2 fd2 ["self"] (spNames K C)) (b2 : Binds K fd2 ["self"] [])
    (G3 : FnOk P w K mg base CX0 (k + 1) f3 fd3 ["rows"] (spHeads K)) (b3 : Binds K fd3 ["rows"] []) (k3 : PySem.W.keepIn K (.ref f3) = true) (m3 : mg "_heads" = some (.ref f3))
    (G4 : FnOk P w K mg base CX0 (k + 1) f4 fd4 ["one", "other"] (spMeet K)) (b4 : Binds K fd4 ["one", "other"] []) (k4 : PySem.W.keepIn K (.ref f4) = true) (m4 : mg "meet" = some (.ref f4)) : FnOk P w K mg base CX0 (k + 2) f fd ["program"] (spSteps K C) := by
  refine F.ok scSteps (fun vs H Q E h => ?_) (fun cdv A outer s H vs Q E hr h => ?_)
  · obtain ⟨v, S, bd, rfl, _⟩ := h
    rfl
  obtain ⟨v, S, bd, rfl, hS, hI, hB, few, hbd, lbd, q⟩ := h
  refine ⟨_, pss_cons (ps_set (i := 1) scSteps.nd rfl (.inl rfl) (pe_lst pa_nil))
    (pss_cons (ps_asg (pe_tup (pa_cons (pe_lst pa_nil) (pa_cons (pe_lst pa_nil) pa_nil))) (pg_tup (by rfl) (pgs_cons (pg_name (i := 2) scSteps.nd rfl (.inr rfl)) (pgs_cons (pg_name (i := 3) scSteps.nd rfl (.inr rfl)) pgs_nil))))
    (pss_one (ps_while PassesOwn.never (pt_val pe_bl)
      (pss_cons (ps_set (i := 4) scSteps.nd rfl (.inr rfl) (pe_call G3 hr (by rfl) m3 k3 b3 .nil pass0 (pa_cons (pe_call G1 hr (by rfl) m1 k1 b1 .nil pass0 (pa_cons (pv 0) (pa_cons (pv 2) pa_nil))) pa_nil)))
      (pss_cons (ps_setLc (i := 5) (own := [("name", 7)]) (g := gName 7) (tt := tAnd (tTest (tOp (rIn K true) (tVar 7) (tVar 4))) (tTest (tOp (rIn K true) (tVar 7) (tVar 3)))) (by rfl) scSteps.nd rfl rfl (sw_true rfl rfl rfl (by decide +kernel)) (pi_tup (pe_prop (pv 0) c hp G2 hr b2 .nil pass0 rfl)) (blkOk_by (N := nSteps) (sc := defScope sSteps) (by decide +kernel))
          (fun _ _ _ _ _ => pg_name (i := 7) scSteps.nd rfl (Or.inl rfl)) (fun _ _ _ _ _ => pts_one (PW.pt (pw_and (pt_cmpR (r := rIn K true) op_notIn_seq (pv 7) (pv 4) (by rfl)) (pw_and1 (pt_cmpR (r := rIn K true) op_notIn_seq (pv 7) (pv 3) (by rfl)))))) (fun _ _ _ _ _ => pv 7))
      (pss_mid (ps_if (pt_truth (pv 5) fun _ => rfl)
        (pss_cons (ps_expr (pe_bm PySem.F.plainAttrs_list PySem.F.slot_list_append PySem.F.type_list_append mt_append (pv 1) (pa_cons (pe_tup (pa_cons pe_str (pa_cons (pe_callTy call_tuple_of (by rfl) T.tuple (by decide +kernel) (pa_cons (pv 5) pa_nil)) pa_nil))) pa_nil)))
        (pss_one (ps_set (i := 3) scSteps.nd rfl (.inr rfl) (pe_op op_cat (pv 3) (pv 5))))) pss_nil)
      (pss_cons (ps_setLc (i := 6) (own := [("row", 8)]) (g := gName 8) (tt := tNot (tB (tCall (spMeet K) [] (fun _ _ _ => False) (tCons (tOp (rIxT K) (tVar 8) (tC (.int 0))) (tCons (tVar 2) tNil))))) (by rfl) scSteps.nd rfl rfl (sw_true rfl rfl rfl (by decide +kernel)) (pi_list (pe_call G1 hr (by rfl) m1 k1 b1 .nil pass0 (pa_cons (pv 0) (pa_cons (pv 4) pa_nil)))) (blkOk_by (N := nSteps) (sc := defScope sSteps) (by decide +kernel))
          (fun _ _ _ _ _ => pg_name (i := 8) scSteps.nd rfl (Or.inl rfl)) (fun _ _ _ _ _ => pts_one (pt_not (pt_val (pe_call G4 hr (by rfl) m4 k4 b4 .nil pass0 (pa_cons (pe_ix ix_tup (pv 8) pe_int (fun _ _ => rfl)) (pa_cons (pv 2) pa_nil)))))) (fun _ _ _ _ _ => pv 8))
      (pss_cons (ps_if (pt_not (pt_truth (pv 6) fun _ => rfl)) (pss_one (ps_ret (pv 1))) pss_nil)
      (pss_cons (ps_expr (pe_bm PySem.F.plainAttrs_list PySem.F.slot_list_extend PySem.F.type_list_extend mt_extend (pv 1) (pa_cons (pe_lc (own := [("row", 8)]) (g := gName 8) (te := tTup (tCons (tC (.str "true")) (tCons (tVar 8) tNil))) (by rfl) scSteps.nd (pi_list (pv 6)) (blkOk_by (N := nSteps) (sc := defScope sSteps) (by decide +kernel))
          (fun _ _ _ _ _ => pg_name (i := 8) scSteps.nd rfl (Or.inl rfl)) (fun _ _ _ _ _ => pts_nil) (fun _ _ _ _ _ => pe_tup (pa_cons pe_str (pa_cons (pv 8) pa_nil)))) pa_nil)))
      (pss_one (ps_set (i := 2) scSteps.nd rfl (.inr rfl) (pe_op op_cat (pv 2) (pe_call G3 hr (by rfl) m3 k3 b3 .nil pass0 (pa_cons (pv 6) pa_nil)))))))))))))), ?_⟩
  obtain ⟨a, dx, t0, ys0, rfl, i1', i2', i3'⟩ := id hS
  have inbd : ∀ y, nmP S y → y ∈ bd := fun y h => hbd y h
  have lenT : ∀ {T F : W} {ds}, StI S T F ds → T.length ≤ 40 := fun h => Nat.le_trans (len_le h.nT fun y hy => inbd y (reach_nm hB (tt_a bars_nm (h.tt y hy)))) lbd
  have lenF : ∀ {T F : W} {ds}, StI S T F ds → F.length ≤ 40 := fun h => Nat.le_trans (len_le h.nF fun y hy => inbd y (ff_no (h.ff y hy)).1) lbd
  refine ⟨by show 0 ≤ sizeLine; decide, fun l hl => ⟨by show 0 ≤ sizeLine; decide, fun l1 hl1 => ⟨by show 0 ≤ sizeLine; decide, fun l2 hl2 => ⟨by show 2 ≤ sizeLine; decide, fun t ht => ⟨t, [.ref l1, .ref l2], rfl, SqT.of upd_same, rfl, _, _, rfl, _, [], rfl, rfl, ?_⟩⟩⟩⟩⟩
  have s0 := same_new hl (.lst [])
  have s1 := same_new hl1 (.lst [])
  have s2 := same_new hl2 (.lst [])
  have s3 := same_new ht (.tup [.ref l1, .ref l2])
  let HS : Hp := upd (upd (upd (upd H l (.lst [])) l1 (.lst [])) l2 (.lst [])) t (.tup [.ref l1, .ref l2])
  have hSl : HS l = some (.lst []) := (s1.trans (s2.trans s3)) _ _ upd_same
  have hS1 : HS l1 = some (.lst []) := (s2.trans s3) _ _ upd_same
  have hS2 : HS l2 = some (.lst []) := s3 _ _ upd_same
  have n1 : l1 ≠ l := fun z => by
    rw [z, upd_same] at hl1
    cases hl1
  have n2 : l2 ≠ l := fun z => by
    rw [z, s1 l _ upd_same] at hl2
    cases hl2
  have base : Same H HS := s0.trans (s1.trans (s2.trans s3))
  have mutl : Mut (HS l) := by
    rw [hSl]
    exact True.intro
  let Good : L2.St → Hp → W → W → List PyData → Prop := fun σ H' T F ds => (∃ lT lF y4 y5 y6, σ = [some (.ref a), some (.ref l), some (.ref lT), some (.ref lF), y4, y5, y6, none, none] ∧ H' lT = some (.lst (T.map V.str)) ∧ H' lF = some (.lst (F.map V.str)) ∧ lT ≠ l ∧ lF ≠ l) ∧ Bar l HS H' ∧ (∃ ys, H' l = some (.lst ys) ∧ DpAll K H' ys ds) ∧ StI S T F ds ∧ ∀ d ∈ ds, okD d = true
  let μ : L2.St → Hp → Nat := fun σ H' => 41 - (match σ[2]? with | some (some (V.ref b)) => (match H' b with | some (.lst ys) => ys.length | _ => 0) | _ => 0)
  have μ_val : ∀ {σ H' T F ds}, Good σ H' T F ds → μ σ H' = 41 - T.length := fun {σ H' T F ds} h => by
    obtain ⟨⟨lT, lF, y4, y5, y6, rfl, e, _⟩, _⟩ := h
    show 41 - (match H' lT with | some (.lst ys) => ys.length | _ => 0) = _
    rw [e]
    show 41 - (T.map V.str).length = _
    rw [List.length_map]
  dsimp only [gName, tSeq, tAsg, tC]
  refine while_by (fun σ H' => ∃ T F ds, Good σ H' T F ds) μ ⟨[], [], [], ⟨l1, l2, _, _, _, rfl, hS1, hS2, n1, n2⟩, fun _ _ _ e => e, ⟨[], hSl, .nil⟩, StI.start, fun _ z => nomatch z⟩ (fun σ H2 hP => ?_) (fun σ H2 Q1 Q2 m h => by
    obtain ⟨c, e, q⟩ := h
    exact ⟨c, e, m _ _ q⟩)
  obtain ⟨T, F, ds, hG⟩ := hP
  obtain ⟨⟨lT, lF, y4, y5, y6, rfl, hT, hF, nT, nF⟩, bar, ⟨ys, hl2', hys⟩, I, okd⟩ := id hG
  have hμ := μ_val hG
  have lT40 := lenT I
  have lF40 := lenF I
  have dsl := I.len
  have ysl : ys.length = ds.length := dpAll_len hys
  refine ⟨true, rfl, iteT ?_⟩
  have hS2' : PgAt K C H2 (.ref a) S := by
    refine ⟨a, dx, t0, ys0, rfl, ?_, ?_, ?_⟩
    · exact bar a _ (fun z => by rw [z, hl] at i1'; cases i1') (base _ _ i1')
    · exact (bar.stay mutl).seq (same_tup base i2')
    · exact (bar.stay mutl).dpAll _ _ (okDs_rd S) (dpAll_same base _ _ i3')
  have ml2 : Mut (H2 l) := by
    rw [hl2']
    exact True.intro
  -- possible names
  refine ⟨.ref a, rfl, .ref lT, rfl, .ref a, .ref lT, S, T, rfl, hS2', hI, hB, few, ⟨lT, rfl, .inl (SqL.of hT)⟩, fun H3 lr R s3' nlr hRL hRS nR lR hRe => ?_⟩
  refine ⟨lr, R, rfl, hRL, fun r hr => hB r (hRS r hr), by omega, fun H4 lU s4 nlU hU => ?_⟩
  have hUr : ∀ y, y ∈ R.map hd ↔ ReachP S (· ∈ T) y := fun y => (hRe y).trans (reach_iff fun _ => Iff.rfl)
  have s24 := s3'.trans s4
  -- the names that fall
  obtain ⟨_, _, _, _, er, j1, j2, j3⟩ := hS2'.same s24
  cases er
  refine ⟨.ref a, rfl, a, _, _, rfl, j1, .ref a, S, bd, rfl, hS2'.same s24, hI, hbd, lbd, fun H5 tn ns s5 htn hns hmem => ?_⟩
  refine ⟨tn, rfl, ⟨_, htn⟩, fun D hD => ?_⟩
  have s25 := s24.trans s5
  have fmem : ∀ i, fallL (ns.take i) (R.map hd) F = (ns.take i).filter fun z => !decide (z ∈ R.map hd) && !decide (z ∈ F) := fun i => rfl
  refine lc_tup (xs := ns.map V.str) (fun i H6 => Same H5 H6 ∧ H6 D = some (.lst ((fallL (ns.take i) (R.map hd) F).map V.str))) ⟨same_new hD _, upd_same⟩ (fun i H6 _ h6 => same_tup h6.1 htn) (fun i x H6 hx h6 => ?_) (fun H6 h6 => ?_)
  · obtain ⟨s6, hD6⟩ := h6
    obtain ⟨z, hz, rfl⟩ := map_at hx
    have il : i < ns.length := (List.getElem?_eq_some_iff.mp hz).1
    have nl40 := hns.few
    have skip : (!decide (z ∈ R.map hd) && !decide (z ∈ F)) = false → Same H5 H6 ∧ H6 D = some (.lst ((fallL (ns.take (i + 1)) (R.map hd) F).map V.str)) := fun e => ⟨s6, by rw [fmem, filt_f hz e]; exact hD6⟩
    refine ⟨rfl, .str z, rfl, .ref lU, rfl, lU, (R.map hd).map V.str, rfl, .inl (SqL.of ((s5.trans s6) _ _ hU)), rfl, flat_strs _, _, rfl, ?_⟩
    rw [inV_str]
    refine ite2 (fun e1 => ?_) (fun e1 => ?_)
    · have e1' : (!decide (z ∈ R.map hd)) = true := e1
      refine ⟨.str z, rfl, .ref lF, rfl, lF, F.map V.str, rfl, .inl (SqL.of ((s25.trans s6) _ _ hF)), rfl, flat_strs _, _, rfl, ?_⟩
      rw [inV_str]
      refine ite2 (fun e2 => ?_) (fun e2 => ?_)
      · have e2' : (!decide (z ∈ F)) = true := e2
        refine ⟨.str z, rfl, _, hD6, small_line' ?_, same_put s6 hD, ?_⟩
        · rw [List.length_map]
          have := List.length_filter_le (fun z => !decide (z ∈ R.map hd) && !decide (z ∈ F)) (ns.take i)
          rw [List.length_take] at this
          rw [fmem]
          omega
        · rw [upd_same, fmem, fmem, filt_t hz (show (!decide (z ∈ R.map hd) && !decide (z ∈ F)) = true by rw [e1', e2']; rfl), List.map_append]
          rfl
      · exact skip (by rw [e1', show (!decide (z ∈ F)) = false by simpa using e2]; rfl)
    · exact skip (by rw [show (!decide (z ∈ R.map hd)) = false by simpa using e1]; rfl)
  obtain ⟨s6, hD6⟩ := h6
  rw [List.length_map, List.take_length] at hD6
  have s26 := s25.trans s6
  have fall : ∀ y, nmP S y → ¬ ReachP S (· ∈ T) y → y ∈ F ++ fallL ns (R.map hd) F := fall_all hUr hmem
  have Dl : D ≠ l := fun z => by
    rw [z, (s25 _ _ hl2')] at hD
    cases hD
  have Ul : lU ≠ l := fun z => by
    rw [z, s24 _ _ hl2'] at hU
    injection hU with e
    injection e with e
    rw [z, s3' _ _ hl2'] at nlU
    cases nlU
  have fl40 : (fallL ns (R.map hd) F).length ≤ 40 := Nat.le_trans (List.length_filter_le _ _) hns.few
  refine ⟨fun σ H' => ∃ lF' F' ds' ys' y5, σ = [some (.ref a), some (.ref l), some (.ref lT), some (.ref lF'), some (.ref lU), y5, y6, none, none] ∧ Bar l HS H' ∧ H' lT = some (.lst (T.map V.str)) ∧ H' lU = some (.lst ((R.map hd).map V.str)) ∧ H' lF' = some (.lst (F'.map V.str)) ∧ lF' ≠ l ∧ H' l = some (.lst ys') ∧ DpAll K H' ys' ds' ∧ StI S T F' ds' ∧ (∀ d ∈ ds', okD d = true) ∧ (∀ y, nmP S y → ¬ ReachP S (· ∈ T) y → y ∈ F'), ?_, ?_⟩
  · refine ⟨.ref D, rfl, _, .inl ⟨_, SqL.of hD6, rfl⟩, ?_⟩
    cases ef : fallL ns (R.map hd) F with
    | nil =>
      refine iteF ⟨lF, F, ds, ys, _, rfl, bar.trans (.same s26), s26 _ _ hT, (s5.trans s6) _ _ hU, s26 _ _ hF, nF, s26 _ _ hl2', dpAll_same s26 _ _ hys, I, okd, fun y n no => ?_⟩
      have := fall y n no
      rw [ef, List.append_nil] at this
      exact this
    | cons z0 zs0 =>
      have ne : fallL ns (R.map hd) F ≠ [] := by
        rw [ef]
        exact List.cons_ne_nil _ _
      clear ef
      refine iteT ⟨.ref l, rfl, .inl ⟨rfl, ys, SqL.of (s26 _ _ hl2')⟩, .ref D, rfl, D, _, rfl, .inl ⟨SqL.of hD6, fun t2 ht2 => ⟨by show 2 ≤ sizeLine; decide, fun t3 ht3 => ?_⟩⟩⟩
      have u2 := same_new ht2 (.tup ((fallL ns (R.map hd) F).map V.str))
      have u3 := same_new ht3 (.tup [.str "false", .ref t2])
      have u23 := u2.trans u3
      have s28 := s26.trans u23
      refine ⟨l, ys, .ref t3, rfl, rfl, s28 _ _ hl2', small_line' (by omega), ?_⟩
      refine ⟨.ref lF, rfl, .ref D, rfl, lF, D, _, _, rfl, rfl, by rw [upd_ne nF]; exact s28 _ _ hF, by rw [upd_ne Dl]; exact u23 _ _ hD6, small_line (by rw [List.length_map, List.length_map]; omega), fun p hp => ?_⟩
      have sp := same_new hp (.lst (F.map V.str ++ (fallL ns (R.map hd) F).map V.str))
      have pl : p ≠ l := fun z => by
        rw [z, upd_same] at hp
        cases hp
      let H8 : Hp := upd (upd H6 t2 (.tup ((fallL ns (R.map hd) F).map V.str))) t3 (.tup [.str "false", .ref t2])
      have b28 : Bar l H8 (upd (upd H8 l (.lst (ys ++ [.ref t3]))) p (.lst (F.map V.str ++ (fallL ns (R.map hd) F).map V.str))) := Bar.draw.trans (.same sp)
      have m28 : Mut (H8 l) := by
        show Mut ((upd (upd H6 t2 _) t3 _) l)
        rw [s28 _ _ hl2']
        exact True.intro
      have st8 := b28.stay m28
      have bb : Bar l H2 _ := (Bar.same s28).trans b28
      refine ⟨p, F ++ fallL ns (R.map hd) F, _, ys ++ [.ref t3], _, rfl, bar.trans bb, bb _ _ nT hT, b28 _ _ Ul (u23 _ _ ((s5.trans s6) _ _ hU)), by rw [upd_same, List.map_append], pl, sp _ _ upd_same, dps_snoc (.tup (st8.seq (SqT.of upd_same)) (.cons (.str _) (.cons (to_wd (st8.seq (SqT.of (u3 _ _ upd_same)))) .nil))) ((bb.stay ml2).dpAll _ _ (okDs_all okd) hys), I.fall hUr hmem (upX_nodup hns.up) ne, fun d hd => ?_, fall⟩
      rcases List.mem_append.mp hd with z | z
      · exact okd d z
      · rw [List.mem_singleton.mp z]
        show (true && (okD (wd _) && true)) = true
        rw [ok_wd]
        rfl
  · rintro σ H7 ⟨lF', F', ds', ys', y5', rfl, bar', hT', hU', hF', nF', hl', hys', I', okd', all'⟩
    have hS7 : PgAt K C H7 (.ref a) S := by
      refine ⟨a, dx, t0, ys0, rfl, ?_, ?_, ?_⟩
      · exact bar' a _ (fun z => by rw [z, hl] at i1'; cases i1') (base _ _ i1')
      · exact (bar'.stay mutl).seq (same_tup base i2')
      · exact (bar'.stay mutl).dpAll _ _ (okDs_rd S) (dpAll_same base _ _ i3')
    refine ⟨.ref a, rfl, .ref lU, rfl, .ref a, .ref lU, S, R.map hd, rfl, hS7, hI, hB, few, ⟨lU, rfl, .inl (SqL.of hU')⟩, fun H9 lq R2 s9 nlq hRL2 hRS2 nR2 lR2 hRe2 => ?_⟩
    obtain ⟨yq, hq, hyq⟩ := hRL2
    have yql : yq.length = R2.length := by rw [dpAll_len hyq, List.length_map]
    refine ⟨lq, rfl, ⟨_, SqL.of hq⟩, fun D2 hD2 => ?_⟩
    refine lc_list (xs := yq) (fun i H1 => Same H9 H1 ∧ ∃ zs, H1 D2 = some (.lst zs) ∧ DpAll K H1 zs (((R2.take i).filter fun r => !meets r.1 T).map rd) ∧ zs.length ≤ i) ⟨same_new hD2 _, [], upd_same, .nil, Nat.le_refl _⟩ (fun i H1 _ hI1 => SqL.of (hI1.1 _ _ hq)) (fun i x H1 hx hI1 => ?_) (fun H1 hI1 => ?_)
    · obtain ⟨sm, zs, hz, hzs, lz⟩ := hI1
      obtain ⟨dd, hdd, hxd⟩ := dpAll_at' hyq hx
      obtain ⟨r, hr0, rfl⟩ := map_at hdd
      have il : i < yq.length := (List.getElem?_eq_some_iff.mp hx).1
      have hxd2 := dp_same sm _ _ hxd
      obtain ⟨b, v1, v2, v3, v4, rfl, hTb, h1, _⟩ := of_rd hxd2
      have hr' := hI r (hRS2 r (List.mem_of_getElem? hr0))
      have fb := hr'.h.few
      refine ⟨rfl, .ref b, rfl, b, _, 0, v1, rfl, rfl, hTb, rfl, .ref lT, rfl, v1, .ref lT, r.1, T, rfl, h1, ⟨lT, rfl, .inl (SqL.of ((s9.trans sm) _ _ hT'))⟩, by omega, fun H2 s2 => ⟨_, rfl, ite2 (fun e => ?_) (fun e => ?_)⟩⟩
      · refine ⟨.ref b, rfl, zs, s2 _ _ hz, small_line' (by omega), same_put (sm.trans s2) hD2, zs ++ [.ref b], upd_same, ?_, by rw [List.length_append]; show zs.length + 1 ≤ i + 1; omega⟩
        rw [filt_t hr0 (show (!meets r.1 T) = true from e), List.map_append]
        have mz2 : Mut (H2 D2) := by
          rw [s2 _ _ hz]
          exact True.intro
        exact dps_snoc ((Stay.put mz2 _).rd (dp_same s2 _ _ hxd2)) ((Stay.put mz2 _).dpAll _ _ (okDs_rd _) (dpAll_same s2 _ _ hzs))
      · refine ⟨sm.trans s2, zs, s2 _ _ hz, ?_, by omega⟩
        rw [filt_f hr0 (show (!meets r.1 T) = false by simpa using e)]
        exact dpAll_same s2 _ _ hzs
    obtain ⟨s10, zs, hz2, hzs2, lz2⟩ := hI1
    rw [yql, List.take_length] at hzs2
    let rs : List Rl := R2.filter fun r => !meets r.1 T
    have zsl : zs.length = rs.length := by rw [dpAll_len hzs2, List.length_map]
    have rsS : ∀ r ∈ rs, r ∈ S := fun r hr => hRS2 r (List.mem_filter.mp hr).1
    have rsno : ∀ r ∈ rs, hd r ∉ T := fun r hr => by
      have e := (List.mem_filter.mp hr).2
      have e' : meets r.1 T = false := by simpa using e
      rw [hd_of (hB r (rsS r hr))] at e'
      exact meets_iff.mp e' (hd r) List.mem_cons_self
    have hR2 : ∀ y, y ∈ R2.map hd ↔ ReachP S (· ∈ R.map hd) y := fun y => (hRe2 y).trans (reach_iff fun _ => Iff.rfl)
    have s7 := s9.trans s10
    have bar1 : Bar l HS H1 := bar'.trans (.same s7)
    refine ⟨.ref D2, rfl, _, .inl ⟨_, SqL.of hz2, rfl⟩, ?_⟩
    cases zs with
    | nil =>
      have rs0 : rs = [] := List.length_eq_zero_iff.mp zsl.symm
      have fin := I'.fin hUr (fun y hy => by
        obtain ⟨r, hr, rfl⟩ := List.mem_map.mp ((hR2 y).mpr hy)
        cases e : meets r.1 T with
        | false =>
          have : r ∈ rs := List.mem_filter.mpr ⟨hr, by rw [e]; rfl⟩
          rw [rs0] at this
          exact nomatch this
        | true =>
          unfold meets at e
          rw [hd_of (hB r (hRS2 r hr)), List.any_cons, List.any_nil, Bool.or_false] at e
          exact of_decide_eq_true e) all'
      refine iteT ⟨.ref l, rfl, q H1 l ys' ds' (fun b u e => bar1 b u (fun z => by rw [z, hl] at e; cases e) (base _ _ e)) (s7 _ _ hl') (dpAll_same s7 _ _ hys') (fun d hd => ?_) (fun y t => I'.aT y (fin.1 y t)) (fun y t => I'.aF y (fin.2 y t))⟩
      obtain ⟨zs, b, g1, g2, g3⟩ := I'.st d hd
      exact ⟨zs, b, g1, fun e z hz => I'.tt z (g2 e z hz), fun e z hz => I'.ff z (g3 e z hz)⟩
    | cons z0 zs0 =>
      refine iteF ?_
      have okst : ∀ n, ∀ d ∈ (rs.take n).map stepT, okD d = true := fun n d hd => by
        obtain ⟨r, _, rfl⟩ := List.mem_map.mp hd
        show (true && (okD (rd r) && true)) = true
        rw [ok_rd]
        rfl
      have qT := lenT I'
      have qF := lenF I'
      have dl' := I'.len
      have yl' : ys'.length = ds'.length := dpAll_len hys'
      have rsl : rs.length ≤ R2.length := List.length_filter_le _ _
      have D2l : D2 ≠ l := fun z => by
        rw [z, s9 _ _ hl'] at hD2
        cases hD2
      have hpos : 0 < rs.length := by
        rw [← zsl]
        exact Nat.succ_pos _
      refine ⟨.ref l, rfl, .inl ⟨rfl, ys', SqL.of (s7 _ _ hl')⟩, .ref D2, rfl, D2, rfl, ⟨_, SqL.of hz2⟩, fun D3 hD3 => ?_⟩
      refine lc_list (xs := z0 :: zs0) (fun i H4 => Same H1 H4 ∧ ∃ us, H4 D3 = some (.lst us) ∧ DpAll K H4 us ((rs.take i).map stepT) ∧ us.length ≤ i) ⟨same_new hD3 _, [], upd_same, .nil, Nat.le_refl _⟩ (fun i H4 _ h => SqL.of (h.1 _ _ hz2)) (fun i x H4 hx h => ?_) (fun H4 h => ?_)
      · obtain ⟨sm, us, hu, hus, lu⟩ := h
        obtain ⟨dd, hdd, hxd⟩ := dpAll_at' hzs2 hx
        obtain ⟨r, hr0, rfl⟩ := map_at hdd
        have il : i < rs.length := (List.getElem?_eq_some_iff.mp hr0).1
        refine ⟨rfl, x, rfl, by show 2 ≤ sizeLine; decide, fun t4 ht4 => ?_⟩
        have u4 := same_new ht4 (.tup [.str "true", x])
        have m4 : Mut ((upd H4 t4 (.tup [.str "true", x])) D3) := by
          rw [u4 _ _ hu]
          exact True.intro
        refine ⟨us, u4 _ _ hu, small_line' (by omega), same_put (sm.trans u4) hD3, us ++ [.ref t4], upd_same, ?_, by rw [List.length_append]; show us.length + 1 ≤ i + 1; omega⟩
        rw [take_snoc (l := rs) hr0, List.map_append]
        exact dps_snoc (.tup ((Stay.put m4 _).seq (SqT.of upd_same)) (.cons (.str _) (.cons ((Stay.put m4 _).rd (dp_same (sm.trans u4) _ _ hxd)) .nil))) ((Stay.put m4 _).dpAll _ _ (okDs_all (okst i)) (dpAll_same u4 _ _ hus))
      · obtain ⟨sm, us, hu, hus, lu⟩ := h
        rw [zsl, List.take_length] at hus
        have ul : us.length = rs.length := by rw [dpAll_len hus, List.length_map]
        have s74 := s7.trans sm
        refine ⟨l, D3, ys', us, rfl, rfl, s74 _ _ hl', hu, small_line (by omega), ?_⟩
        let H5 : Hp := upd H4 l (.lst (ys' ++ us))
        have m4 : Mut (H4 l) := by
          rw [s74 _ _ hl']
          exact True.intro
        have b45 : Bar l H4 H5 := .draw
        refine ⟨.ref lT, rfl, .ref D2, rfl, D2, rs, rfl, ⟨_, b45 _ _ D2l (sm _ _ hz2), (b45.stay m4).dpAll _ _ (okDs_rd _) (dpAll_same sm _ _ hzs2)⟩, fun r hr => hB r (rsS r hr), by omega, fun H6' lh s6' nlh hh => ?_⟩
        have hT6 : H6' lT = some (.lst (T.map V.str)) := s6' _ _ (b45 _ _ nT (s74 _ _ hT'))
        refine ⟨lT, lh, _, _, rfl, rfl, hT6, hh, small_line (by rw [List.length_map, List.length_map, List.length_map]; omega), fun p hp => ?_⟩
        have sp := same_new hp (.lst (T.map V.str ++ (rs.map hd).map V.str))
        have b46 : Bar l H4 _ := b45.trans (.same (s6'.trans sp))
        have pl : p ≠ l := fun z => by
          rw [z, s6' _ _ (upd_same : H5 l = _)] at hp
          cases hp
        have m7 : Mut (H7 l) := by
          rw [hl']
          exact True.intro
        let HE : Hp := upd H6' p (.lst (T.map V.str ++ (rs.map hd).map V.str))
        have b7E : Bar l H7 HE := (Bar.same s74).trans b46
        have sub : ∀ y ∈ rs.map hd, y ∈ R2.map hd := fun y hy => by
          obtain ⟨r, hr, rfl⟩ := List.mem_map.mp hy
          exact List.mem_map.mpr ⟨r, (List.mem_filter.mp hr).1, rfl⟩
        have okall : ∀ d ∈ rs.map stepT, okD d = true := fun d hd => okst rs.length d (by rw [List.take_length]; exact hd)
        have hG2 : Good [some (.ref a), some (.ref l), some (.ref p), some (.ref lF'), some (.ref lU), y5', some (.ref D2), none, none] HE (T ++ rs.map hd) F' (ds' ++ rs.map stepT) :=
          ⟨⟨p, lF', _, _, _, rfl, by show upd _ _ _ p = _; rw [upd_same, List.map_append], b46 _ _ nF' (s74 _ _ hF'), pl, nF'⟩, bar'.trans b7E, ⟨ys' ++ us, sp _ _ (s6' _ _ upd_same), dps_app ((b46.stay m4).dpAll _ _ (okDs_all okall) hus) ((b7E.stay m7).dpAll _ _ (okDs_all okd') hys')⟩, I'.rise hB hUr rsS (nR2.sublist (List.filter_sublist.map hd)) (fun y hy => (hR2 y).mp (sub y hy)) rsno, fun d hd => (List.mem_append.mp hd).elim (okd' d) (okall d)⟩
        refine ⟨⟨_, _, _, hG2⟩, ?_⟩
        have e1 := μ_val hG2
        have e2 : 41 - (T ++ rs.map hd).length < 41 - T.length := by
          have := lenT hG2.2.2.2.1
          rw [List.length_append, List.length_map] at this ⊢
          omega
        exact Nat.lt_of_le_of_lt (Nat.le_of_eq e1) (by rw [hμ]; exact e2)
end
end Rw
namespace Rw
open PySem PySem.Spec PyProof.Rows L2
/-! ### y = {k: v for ..} -/
theorem ps_setDc {X : Cx} {i : Nat} {y : Str} {py : Pos} {kx vx tg iter : Expr} {ifs : List Expr} {scope : Scope} {own : List (Str × Nat)} {pos spos : Pos} {wi : TI} {g : TG} {tt : L2.TT} {tk tv : TE} (hc : X.calm = true) (hN : X.N.Nodup) (hy : X.N[i]? = some y) (hyl : X.env.scope.names.lookup y = some .local)
    (hsw : swapsWith (.DictComp kx vx [⟨tg, iter, ifs, 0⟩] scope pos) (some (.Name y py)) spos.line X.env = pure true) (hi : PI X tg iter wi) (ok : BlkOk X.N X.env.scope scope own)
    (hg : ∀ (s : Shared) (H : Hp) (C : Addr) (cl : List (Str × Addr)) (fp : List Addr), PG (X.blk s H scope (compEnvC scope cl C X.env) fp) tg g) (ht : ∀ (s : Shared) (H : Hp) (C : Addr) (cl : List (Str × Addr)) (fp : List Addr), PTs (X.blk s H scope (compEnvC scope cl C X.env) fp) ifs tt)
    (hk : ∀ (s : Shared) (H : Hp) (C : Addr) (cl : List (Str × Addr)) (fp : List Addr), PE (X.blk s H scope (compEnvC scope cl C X.env) fp) kx tk)
    (he : ∀ (s : Shared) (H : Hp) (C : Addr) (cl : List (Str × Addr)) (fp : List Addr), PE (X.blk s H scope (compEnvC scope cl C X.env) fp) vx tv) (hs : ∀ x, foldedSetIterable iter X.env x = pure x := by intro _; rfl) :
    PS X (.Assign [.Name y py] (.DictComp kx vx [⟨tg, iter, ifs, 0⟩] scope pos) spos) (tAsg (tDc wi g tt tk tv (own.map (·.2))) (gName i)) := by
  refine ⟨fun pins s σ H D I h => ?_⟩
  rw [exec_Assign_Name_used _ _ _ _ hsw]
  refine wpAny_bind (wpAny_standAt (wpAny_bind ?_))
  show wpAny _ X.A (do let _ ← comprehension (.DictComp kx vx [⟨tg, iter, ifs, 0⟩] scope pos) scope X.env (firstIterPos [⟨tg, iter, ifs, 0⟩] pos) newDict false (eval iter X.env) (some (assign (.Name y py) X.env))) _ _ s
  have h : tDc wi g tt tk tv (own.map (·.2)) σ H (fun x H1 => gName i x σ H1 D.nx) := h
  refine wpAny_bind (thn (dc_core (Qf := fun _ s' => SP X pins D .next s') hc hN I hi ok hg ht hk he hs h fun L C s' m H' I' q hn f => ?_) fun _ s' hq => wpAny_pure (wpAny_pure hq))
  show wpAny _ _ (assign (.Name y py) X.env (.ref L)) _ _ _
  refine wpAny_assign_Name (store_ok2 (v := V.ref L) I' hN hy (.inl hyl) rfl (fun s2 I2 ⟨a, sb, ha⟩ => ?_) (.inr hyl))
  obtain ⟨f0, f1, f2, f3, f4, f5⟩ := f
  have haC : C ≠ a := by
    rcases ha with z | z
    · rw [z]; exact f1
    · exact fun e => f4 y a z e.symm
  refine ⟨m, hn.sameBut sb haC, fun h3 sb3 => ?_⟩
  exact ⟨_, H', I2.turned (t' := s2.toks) (fun b o hb e => (sb3.2 b hb).trans e) f0 f1 f3 f4 f5, q⟩
/-! ### _founded_values -/
theorem step_one {n m : W} {d : PyData} {zs zs' : W} {b b' : Bool} (h : StepD n d zs b) (h' : StepD m d zs' b') : zs = zs' := by
  rcases h with ⟨r, rfl, _, rfl, _⟩ | ⟨rfl, _⟩
  · rcases h' with ⟨r', e, _, rfl, _⟩ | ⟨e, _⟩
    · injection e with e
      injection e with _ e
      injection e with e _
      rw [rd_inj e]
    · injection e with e
      injection e with e _
      exact absurd (PyData.str.inj e) (by decide)
  · rcases h' with ⟨r', e, _, rfl, _⟩ | ⟨e, _⟩
    · injection e with e
      injection e with e _
      exact absurd (PyData.str.inj e) (by decide)
    · injection e with e
      injection e with _ e
      injection e with e _
      exact wd_inj e
theorem step_ok {n : W} {d : PyData} {zs : W} {b : Bool} (h : StepD n d zs b) : okD d = true := by
  rcases h with ⟨r, rfl, _⟩ | ⟨rfl, _⟩
  · show (true && (okD (rd r) && true)) = true
    rw [ok_rd]
    rfl
  · show (true && (okD (wd zs) && true)) = true
    rw [ok_wd]
    rfl
abbrev sFounded : Stmt := topS 30
theorem scFounded : FnScope ["program", "shown", "step", "name"] ["program"] (defScope sFounded) := ⟨rfl, rfl, rfl, by decide +kernel, rfl, by decide +kernel, by decide +kernel⟩
section
variable {P : Program} {w : World} {K : PySem.W.Frag} {mg : Str → Option Value} {base : Heap} {f : Addr} {fd : FuncData} {k : Nat}
def spFounded (K : PySem.W.Frag) (C : Addr) : Sp := fun vs H Q _ => ∃ (v : V) (S : List Rl) (bd : W), vs = [v] ∧ PgAt K C H v S ∧ (∀ r ∈ S, IsR r) ∧ (∀ r ∈ S, basicB r = true) ∧ S.length < 64 ∧ (∀ z ∈ namesL S, z ∈ bd) ∧ bd.length ≤ 40 ∧
  ∀ H' D ns g, Same H H' → H D = none → H' D = some (ND ns g) → IsW ns → (∀ z, z ∈ ns ↔ z ∈ namesL S) → (∀ z ∈ ns, (TT S (nmP S) z → g z = .bl true) ∧ (FF S (nmP S) z → g z = .bl false) ∧ (¬ TT S (nmP S) z → ¬ FF S (nmP S) z → g z = .non)) → Q (.ref D) H'
theorem ok_founded {C pN f1 f2 f3 : Addr} {fd1 fd2 fd3 : FuncData} (F : Fun K "_founded_values" "_founded_values" sFounded f fd) (T : Bl mg) (c : Cls K C) (hp : PropOf K C "names" pN f2)
    (G1 : FnOk P w K mg base CX0 (k + 1) f1 fd1 ["program"] (spSteps K C)) (b1 : Binds K fd1 ["program"] []) (k1 : PySem.W.keepIn K (.ref f1) = true) (m1 : mg "_steps_to_all" = some (.ref f1))
    (G2 : FnOk P w K mg base CX0 k f2 fd2 ["self"] (spNames K C)) (b2 : Binds K fd2 ["self"] [])
    (G3 : FnOk P w K mg base CX0 (k + 1) f3 fd3 ["shown", "step"] (spShow K)) (b3 : Binds K fd3 ["shown", "step"] []) (k3 : PySem.W.keepIn K (.ref f3) = true) (m3 : mg "_show" = some (.ref f3)) : FnOk P w K mg base CX0 (k + 2) f fd ["program"] (spFounded K C) := by
  refine F.ok scFounded (fun vs H Q E h => ?_) (fun cdv A outer s H vs Q E hr h => ?_)
  · obtain ⟨v, S, bd, rfl, _⟩ := h
    rfl
  obtain ⟨v, S, bd, rfl, hS, hI, hB, few, hbd, lbd, q⟩ := h
  refine ⟨_, pss_cons (ps_setDc (i := 1) (own := [("name", 3)]) (g := gName 3) (tk := tVar 3) (tv := tC .non) (by rfl) scFounded.nd rfl rfl (sw_trueD rfl rfl rfl (by decide +kernel)) (pi_tup (pe_prop (pv 0) c hp G2 hr b2 .nil pass0 rfl)) (blkOk_by (N := ["program", "shown", "step", "name"]) (sc := defScope sFounded) (by decide +kernel))
      (fun _ _ _ _ _ => pg_name (i := 3) scFounded.nd rfl (Or.inl rfl)) (fun _ _ _ _ _ => pts_nil) (fun _ _ _ _ _ => pv 3) (fun _ _ _ _ _ => pe_non))
    (pss_cons (ps_for PassesOwn.never rfl (pi_list (pe_call G1 hr (by rfl) m1 k1 b1 .nil pass0 (pa_cons (pv 0) pa_nil))) (pg_name (i := 2) scFounded.nd rfl (.inl rfl))
      (pss_one (ps_expr (pe_call G3 hr (by rfl) m3 k3 b3 .nil pass0 (pa_cons (pv 1) (pa_cons (pv 2) pa_nil))))))
    (pss_one (ps_ret (pv 1)))), ?_⟩
  obtain ⟨a, dx, t0, ys0, rfl, i1', i2', i3'⟩ := id hS
  refine ⟨.ref a, rfl, a, dx, _, rfl, i1', .ref a, S, bd, rfl, hS, hI, hbd, lbd, fun H1 tn ns s1 htn hns hmem => ?_⟩
  have nl := hns.few
  refine ⟨tn, rfl, ⟨_, htn⟩, fun D hD => ?_⟩
  refine dc_tup (xs := ns.map V.str) (fun i H2 => Same H1 H2 ∧ H2 D = some (ND (ns.take i) fun _ => .non)) ⟨same_new hD _, upd_same⟩ (fun i H2 _ h => same_tup h.1 htn) (fun i x H2 hx h => ?_) (fun H2 h => ?_)
  · obtain ⟨sm, hd'⟩ := h
    obtain ⟨z, hz, rfl⟩ := map_at hx
    refine ⟨rfl, .str z, rfl, _, .inr z, rfl, hd', small_line' (by rw [List.length_map, List.length_take]; omega), same_put sm hD, ?_⟩
    rw [upd_same]
    have new : z ∉ ns.take i := idx_new' (upX_nodup hns.up) hz
    have e : ((ns.take i).map fun y => ((.inr y : Key), V.non)).any (fun kv => decide (kv.1 = .inr z)) = false := by
      rw [List.any_eq_false]
      intro p hp
      obtain ⟨y, hy, rfl⟩ := List.mem_map.mp hp
      simp only [decide_eq_true_eq]
      exact fun q => new (Sum.inr.inj q ▸ hy)
    unfold ND putK
    rw [if_neg (by rw [e]; exact Bool.false_ne_true), take_snoc hz, List.map_append]
    rfl
  obtain ⟨s2, hd2⟩ := h
  rw [List.length_map, List.take_length] at hd2
  have s12 := s1.trans s2
  refine ⟨.ref a, rfl, .ref a, S, bd, rfl, hS.same s12, hI, hB, few, hbd, lbd, fun H3 l ys ds s3 hl hys hst aT aF => ?_⟩
  have hd3 := s3 _ _ hd2
  have Dl : l ≠ D := fun z => by
    rw [z, hd3] at hl
    cases hl
  have inn : ∀ {z}, nmP S z → z ∈ ns := fun h => (hmem _).mpr h
  have mD : Mut (H3 D) := by
    rw [hd3]
    exact True.intro
  let Ok : (Str → V) → Prop := fun g => ∀ z, g z = .non ∨ (TT S (nmP S) z ∧ g z = .bl true) ∨ (FF S (nmP S) z ∧ g z = .bl false)
  refine ⟨l, rfl, ⟨_, SqL.of hl⟩, for_list (xs := ys) (fun i σ H4 => (∃ y2, σ = [some (.ref a), some (.ref D), y2, none]) ∧ Bar D H3 H4 ∧ ∃ g, H4 D = some (ND ns g) ∧ Ok g ∧ ∀ d ∈ ds.take i, ∀ zs b, StepD [] d zs b → ∀ z ∈ zs, g z ≠ .non) ⟨⟨_, rfl⟩, fun _ _ _ e => e, _, hd3, fun z => .inl rfl, fun d hd => absurd hd (by simp)⟩ (fun i σ H4 _ h => SqL.of (h.2.1 _ _ Dl hl)) (fun i x σ H4 hx h => ?_) (fun σ H4 h => ?_)⟩
  · obtain ⟨⟨y2, rfl⟩, b34, g, hg, okg, done⟩ := h
    obtain ⟨d, hdi, hxd⟩ := dpAll_at' hys hx
    obtain ⟨zs, b, sd, st, sf⟩ := hst d (List.mem_of_getElem? hdi)
    have hx4 := (b34.stay mD).dp _ _ (step_ok sd) hxd
    refine ⟨.ref D, rfl, x, rfl, D, x, ns, g, d, zs, b, rfl, hg, by omega, hx4, sd, fun z hz => ?_, ⟨_, rfl⟩, b34.trans .draw, setNs g zs (.bl b), upd_same, fun z => ?_, fun d2 hd2 zs2 b2 sd2 z hz => ?_⟩
    · cases b with
      | true => exact inn (reach_nm hB (tt_a bars_nm (st rfl z hz)))
      | false => exact inn (ff_no (sf rfl z hz)).1
    · rw [setNs_at]
      by_cases h : z ∈ zs
      · rw [if_pos h]
        cases b with
        | true => exact .inr (.inl ⟨st rfl z h, rfl⟩)
        | false => exact .inr (.inr ⟨sf rfl z h, rfl⟩)
      · rw [if_neg h]
        exact okg z
    · rw [setNs_at]
      by_cases h : z ∈ zs
      · rw [if_pos h]
        exact fun e => nomatch e
      · rw [if_neg h]
        rw [take_snoc hdi] at hd2
        rcases List.mem_append.mp hd2 with e | e
        · exact done d2 e zs2 b2 sd2 z hz
        · rw [List.mem_singleton.mp e] at sd2
          rw [step_one sd2 sd] at hz
          exact absurd hz h
  · obtain ⟨⟨y2, rfl⟩, b34, g, hg, okg, done⟩ := h
    rw [dpAll_len hys, List.take_length] at done
    refine ⟨.ref D, rfl, q H4 D ns g (fun b u e => b34 b u (fun z => ?_) ((s12.trans s3) _ _ e)) (none_back s1 hD) hg hns hmem fun z hz => ⟨fun t => ?_, fun t => ?_, fun nt nf => ?_⟩⟩
    · rw [z, none_back s1 hD] at e
      cases e
    · obtain ⟨d, hd, zs, sd, hz'⟩ := aT z t
      rcases okg z with e | ⟨_, e⟩ | ⟨t', _⟩
      · exact absurd e (done d hd zs true sd z hz')
      · exact e
      · exact (tt_ff bars_nm t t').elim
    · obtain ⟨d, hd, zs, sd, hz'⟩ := aF z t
      rcases okg z with e | ⟨t', _⟩ | ⟨_, e⟩
      · exact absurd e (done d hd zs false sd z hz')
      · exact (tt_ff bars_nm t' t).elim
      · exact e
    · rcases okg z with e | ⟨t', _⟩ | ⟨t', _⟩
      · exact e
      · exact absurd t' nt
      · exact absurd t' nf
end
end Rw
namespace Rw
open PySem PySem.Spec PyProof.Rows L2
/-! ### values; record and check_record where they refuse -/
abbrev sValues : Stmt := topS 26
abbrev sRecord : Stmt := topS 27
abbrev sCheckRecord : Stmt := topS 28
theorem scValues : FnScope ["program"] ["program"] (defScope sValues) := ⟨rfl, rfl, rfl, by decide +kernel, rfl, by decide +kernel, by decide +kernel⟩
theorem scRecord : FnScope ["program"] ["program"] (defScope sRecord) := ⟨rfl, rfl, rfl, by decide +kernel, rfl, by decide +kernel, by decide +kernel⟩
theorem scCheckRecord : FnScope ["program", "thing", "shown", "place", "step", "name", "worth"] ["program", "thing"] (defScope sCheckRecord) := ⟨rfl, rfl, rfl, by decide +kernel, rfl, by decide +kernel, by decide +kernel⟩
section
variable {P : Program} {w : World} {K : PySem.W.Frag} {mg : Str → Option Value} {base : Heap} {f : Addr} {fd : FuncData} {k : Nat}
/-- what values tells of a program of these rules -/
def ValQ (S : List Rl) (Q : VK) (H1 : Hp) : Prop := ∃ bd : W, (∀ z ∈ namesL S, z ∈ bd) ∧ bd.length ≤ 40 ∧
  ∀ H' D ns g, Same H1 H' → H1 D = none → H' D = some (ND ns g) → IsW ns → (∀ z, z ∈ ns ↔ z ∈ namesL S) → (∀ z ∈ ns, (TT S (nmP S) z → g z = .bl true) ∧ (FF S (nmP S) z → g z = .bl false) ∧ (¬ TT S (nmP S) z → ¬ FF S (nmP S) z → g z = .non)) → Q (.ref D) H'
def spValues (K : PySem.W.Frag) (C CE CB : Addr) : Sp := fun vs H Q E => ∃ v : V, vs = [v] ∧ BasP K C CE CB v H E fun S H1 => ValQ S Q H1
theorem ok_values {C CE CB f1 f2 : Addr} {fd1 fd2 : FuncData} (F : Fun K "values" "values" sValues f fd)
    (G1 : FnOk P w K mg base (L2.CX P w) (k + 1) f1 fd1 ["program"] (spCheckBasic K C CE CB)) (b1 : Binds K fd1 ["program"] []) (k1 : PySem.W.keepIn K (.ref f1) = true) (m1 : mg "_check_basic" = some (.ref f1))
    (G2 : FnOk P w K mg base CX0 (k + 1) f2 fd2 ["program"] (spFounded K C)) (b2 : Binds K fd2 ["program"] []) (k2 : PySem.W.keepIn K (.ref f2) = true) (m2 : mg "_founded_values" = some (.ref f2)) : FnOk P w K mg base (L2.CX P w) (k + 2) f fd ["program"] (spValues K C CE CB) := by
  refine F.okX scValues (fun vs H Q E h => ?_) (fun cdv A outer s H vs Q E hr h => ?_)
  · obtain ⟨v, rfl, _⟩ := h
    rfl
  obtain ⟨v, rfl, h⟩ := h
  refine ⟨_, pss_cons (ps_expr (pe_call G1 hr (by rfl) m1 k1 b1 .nil (passes_call (takes_of rfl rfl rfl rfl) (fun _ _ _ _ h => h)) (pa_cons (pv 0) pa_nil)))
    (pss_one (ps_ret (pe_call G2 hr (by rfl) m2 k2 b2 .nil pass0 (pa_cons (pv 0) pa_nil)))), ?_⟩
  exact ⟨v, rfl, v, rfl, h.mono (fun _ _ _ e => e) fun S H1 hS hI few hB ⟨bd, h1, h2, q⟩ => ⟨v, rfl, v, S, bd, rfl, hS, hI, hB, few, h1, h2, q⟩⟩
def spRecord (K : PySem.W.Frag) (C CE CB : Addr) : Sp := fun vs H _ E => ∃ v : V, vs = [v] ∧ BasP K C CE CB v H E fun _ _ => False
theorem ok_record {C CE CB f1 : Addr} {fd1 : FuncData} (F : Fun K "record" "record" sRecord f fd)
    (G1 : FnOk P w K mg base (L2.CX P w) (k + 1) f1 fd1 ["program"] (spCheckBasic K C CE CB)) (b1 : Binds K fd1 ["program"] []) (k1 : PySem.W.keepIn K (.ref f1) = true) (m1 : mg "_check_basic" = some (.ref f1)) : FnOk P w K mg base (L2.CX P w) (k + 2) f fd ["program"] (spRecord K C CE CB) := by
  refine F.okX scRecord (fun vs H Q E h => ?_) (fun cdv A outer s H vs Q E hr h => ?_)
  · obtain ⟨v, rfl, _⟩ := h
    rfl
  obtain ⟨v, rfl, h⟩ := h
  refine ⟨_, pss_cons (ps_expr (pe_call G1 hr (by rfl) m1 k1 b1 .nil (passes_call (takes_of rfl rfl rfl rfl) (fun _ _ _ _ h => h)) (pa_cons (pv 0) pa_nil))) pss_never, ?_⟩
  exact ⟨v, rfl, v, rfl, h.mono (fun _ _ _ e => e) fun S H1 _ _ _ _ z => z.elim⟩
def spCheckRecord (K : PySem.W.Frag) (C CE CB : Addr) : Sp := fun vs H _ E => ∃ v th : V, vs = [v, th] ∧ BasP K C CE CB v H E fun _ _ => False
theorem ok_checkRecord {C CE CB f1 : Addr} {fd1 : FuncData} (F : Fun K "check_record" "check_record" sCheckRecord f fd)
    (G1 : FnOk P w K mg base (L2.CX P w) (k + 1) f1 fd1 ["program"] (spCheckBasic K C CE CB)) (b1 : Binds K fd1 ["program"] []) (k1 : PySem.W.keepIn K (.ref f1) = true) (m1 : mg "_check_basic" = some (.ref f1)) : FnOk P w K mg base (L2.CX P w) (k + 2) f fd ["program", "thing"] (spCheckRecord K C CE CB) := by
  refine F.okX scCheckRecord (fun vs H Q E h => ?_) (fun cdv A outer s H vs Q E hr h => ?_)
  · obtain ⟨v, th, rfl, _⟩ := h
    rfl
  obtain ⟨v, th, rfl, h⟩ := h
  refine ⟨_, pss_cons (ps_expr (pe_call G1 hr (by rfl) m1 k1 b1 .nil (passes_call (takes_of rfl rfl rfl rfl) (fun _ _ _ _ h => h)) (pa_cons (pv 0) pa_nil))) pss_never, ?_⟩
  exact ⟨v, rfl, v, rfl, h.mono (fun _ _ _ e => e) fun S H1 _ _ _ _ z => z.elim⟩
end
end Rw
namespace Rw
open PySem PySem.Spec PyProof.Rows L2
/-! ### the law's own defs: numbers -/
abbrev sLawAt : Stmt := topS 40
abbrev sLawMixed : Stmt := topS 41
abbrev sLawPurse : Stmt := topS 42
abbrev sLawDraw : Stmt := topS 43
theorem scLawAt : FnScope ["script", "k"] ["script", "k"] (defScope sLawAt) := ⟨rfl, rfl, rfl, by decide +kernel, rfl, by decide +kernel, by decide +kernel⟩
theorem scLawMixed : FnScope ["cell", "k", "number"] ["cell", "k"] (defScope sLawMixed) := ⟨rfl, rfl, rfl, by decide +kernel, rfl, by decide +kernel, by decide +kernel⟩
theorem scLawPurse : FnScope ["script", "at", "cell"] ["script", "at"] (defScope sLawPurse) := ⟨rfl, rfl, rfl, by decide +kernel, rfl, by decide +kernel, by decide +kernel⟩
theorem scLawDraw : FnScope ["purse", "out_of", "drawn", "number", "k"] ["purse", "out_of"] (defScope sLawDraw) := ⟨rfl, rfl, rfl, by decide +kernel, rfl, by decide +kernel, by decide +kernel⟩
theorem bits_small {n : Int} (h0 : 1 ≤ n) (h1 : n ≤ 1000) : (Builtin.Int.intBits n : Nat) < 30 := by
  have h : Builtin.Int.intBits n ≤ 29 := PySem.intBits_le_iff.mpr (by omega)
  omega
section
variable {P : Program} {w : World} {K : PySem.W.Frag} {mg : Str → Option Value} {base : Heap} {f : Addr} {fd : FuncData} {k : Nat}
def spLawAt (K : PySem.W.Frag) : Sp := fun vs H Q _ => ∃ (a : Addr) (ns : List Int) (j : Nat), vs = [.ref a, .int j] ∧ SqL K H a (ns.map V.int) ∧ ns.length ≤ 63 ∧ ∀ r, Q (.int r) H
theorem ok_lawAt (F : Fun K "_law_at" "_law_at" sLawAt f fd) (T : Bl mg) : FnOk P w K mg base CX0 (k + 1) f fd ["script", "k"] (spLawAt K) := by
  refine F.ok scLawAt (fun vs H Q E h => ?_) (fun cdv A outer s H vs Q E hr h => ?_)
  · obtain ⟨a, ns, j, rfl, _⟩ := h
    rfl
  obtain ⟨a, ns, j, rfl, hS, hl, q⟩ := h
  refine ⟨_, pss_cons (ps_if (pt_cmpR op_lt (pv 1) (pe_callB call_len_seq (by rfl) T.len PySem.boot_len (pa_cons (pv 0) pa_nil)) (nomark _)) (pss_one (ps_ret (pe_ix ix_list (pv 0) (pv 1) (fun _ _ => rfl)))) pss_nil) (pss_one (ps_ret pe_int)), ?_⟩
  refine ⟨.int j, rfl, .ref a, rfl, a, _, rfl, .inl hS, j, _, rfl, rfl, _, rfl, ite2 (fun e => ?_) (fun _ => ?_)⟩
  · have hlt : j < (ns.map V.int).length := by
      have := of_decide_eq_true e
      omega
    have hlt' : j < ns.length := by rwa [List.length_map] at hlt
    refine ⟨.ref a, rfl, .int j, rfl, a, _, j, .int ns[j], rfl, rfl, hS, atI_nat (j := j) ?_, q _⟩
    rw [List.getElem?_map, List.getElem?_eq_getElem hlt']
    rfl
  · exact q _
def spLawMixed : Sp := fun vs H Q _ => ∃ c k : Int, vs = [.int c, .int k] ∧ 0 ≤ c ∧ c < 2147483647 ∧ 0 ≤ k ∧ k ≤ 2000000 ∧ ∀ r, 0 ≤ r → Q (.int r) H
theorem ok_lawMixed (F : Fun K "_law_mixed" "_law_mixed" sLawMixed f fd) (T : Bl mg) : FnOk P w K mg base CX0 (k + 1) f fd ["cell", "k"] spLawMixed := by
  refine F.ok scLawMixed (fun vs H Q E h => ?_) (fun cdv A outer s H vs Q E hr h => ?_)
  · obtain ⟨c, k, rfl, _⟩ := h
    rfl
  obtain ⟨c, k, rfl, c0, c1, k0, k1, q⟩ := h
  refine ⟨_, pss_cons (ps_set (i := 2) scLawMixed.nd rfl (.inl rfl) (pe_op op_mod (pe_callTy call_int1 (by rfl) T.int (by decide +kernel) (pa_cons (pe_op op_add (pe_op op_add (pe_op op_add (pe_op op_mul (pv 0) pe_int) (pe_op op_mul (pe_op op_mul pe_int (pv 1)) (pv 1))) (pv 1)) pe_int) pa_nil)) pe_int))
    (pss_cons (ps_set (i := 2) scLawMixed.nd rfl (.inl rfl) (pe_op op_mod (pe_callTy call_int1 (by rfl) T.int (by decide +kernel) (pa_cons (pe_op op_add (pe_op op_mul (pv 2) (pv 2)) pe_int) pa_nil)) pe_int))
    (pss_one (ps_ret (pe_op op_mod (pe_callTy call_int1 (by rfl) T.int (by decide +kernel) (pa_cons (pe_op op_mul (pv 2) pe_int) pa_nil)) pe_int)))), ?_⟩
  refine ⟨.int c, rfl, c, _, rfl, rfl, .inl ⟨by omega, by omega⟩, .int k, rfl, _, k, rfl, rfl, .inl ⟨by decide, by decide⟩, .int k, rfl, _, k, rfl, rfl, .inl ⟨by omega, by omega⟩, ?_⟩
  refine ⟨_, _, rfl, rfl, .int k, rfl, _, k, rfl, rfl, _, _, rfl, rfl, .inl ⟨_, rfl, _, _, rfl, rfl, by show (0 : Int) < 2147483647; decide, ?_⟩⟩
  refine ⟨_, rfl, _, rfl, _, _, rfl, rfl, .inl (b64 (Int.emod_nonneg _ (by decide)) (Int.emod_lt_of_pos _ (by decide))), _, _, rfl, rfl, .inl ⟨_, rfl, _, _, rfl, rfl, by show (0 : Int) < 2147483629; decide, ?_⟩⟩
  refine ⟨_, rfl, _, _, rfl, rfl, .inl (b64 (Int.emod_nonneg _ (by decide)) (Int.lt_trans (Int.emod_lt_of_pos _ (by decide)) (by decide))), .inl ⟨_, rfl, _, _, rfl, rfl, by show (0 : Int) < 2147483587; decide, q _ (Int.emod_nonneg _ (by decide))⟩⟩
def spLawPurse (K : PySem.W.Frag) : Sp := fun vs H Q _ => ∃ (a : Addr) (ns : List Int) (j : Nat), vs = [.ref a, .int j] ∧ SqL K H a (ns.map V.int) ∧ ns.length ≤ 63 ∧ j ≤ 100 ∧ ∀ H' p, Same H H' → H p = none → Pur H' p 100000 → Q (.ref p) H'
theorem ok_lawPurse {f1 : Addr} {fd1 : FuncData} (F : Fun K "_law_purse" "_law_purse" sLawPurse f fd) (T : Bl mg) (G1 : FnOk P w K mg base CX0 k f1 fd1 ["script", "k"] (spLawAt K)) (b1 : Binds K fd1 ["script", "k"] []) (k1 : PySem.W.keepIn K (.ref f1) = true) (m1 : mg "_law_at" = some (.ref f1)) :
    FnOk P w K mg base CX0 (k + 1) f fd ["script", "at"] (spLawPurse K) := by
  refine F.ok scLawPurse (fun vs H Q E h => ?_) (fun cdv A outer s H vs Q E hr h => ?_)
  · obtain ⟨a, ns, j, rfl, _⟩ := h
    rfl
  obtain ⟨a, ns, j, rfl, hS, hl, hj, q⟩ := h
  refine ⟨_, pss_cons (ps_set (i := 2) scLawPurse.nd rfl (.inl rfl) (pe_call G1 hr (by rfl) m1 k1 b1 .nil pass0 (pa_cons (pv 0) (pa_cons (pv 1) pa_nil))))
    (pss_one (ps_ret (pe_lst (pa_cons (pe_op op_mod (pe_callTy call_int1 (by rfl) T.int (by decide +kernel) (pa_cons (pe_callB (call_max2 rfl) (by rfl) T.max (by decide +kernel) (pa_cons (pe_op op_sub (pv 2) (pe_op op_pow pe_int pe_int)) (pa_cons pe_int pa_nil))) pa_nil)) (pe_op op_powB (pe_op op_pow pe_int pe_int) pe_int))
      (pa_cons (pe_op op_mod (pe_callTy call_int1 (by rfl) T.int (by decide +kernel) (pa_cons (pv 2) pa_nil)) pe_int) (pa_cons (pe_op op_mul pe_int (pv 1)) pa_nil)))))), ?_⟩
  refine ⟨.ref a, rfl, .int j, rfl, a, ns, j, rfl, hS, hl, fun c => ?_⟩
  refine ⟨.int c, rfl, _, _, rfl, rfl, ⟨by decide, by decide, by decide⟩, _, _, rfl, rfl, _, _, rfl, .inl ⟨_, rfl, _, _, rfl, rfl, ⟨by decide, by decide, by decide⟩, _, _, rfl, rfl, ⟨by decide, by decide +kernel⟩, _, _, rfl, rfl, by show (0 : Int) < (10 ^ Int.toNat 60) ^ Int.toNat 10; decide +kernel, ?_⟩⟩
  refine ⟨.int c, rfl, .inl ⟨_, rfl, _, _, rfl, rfl, by show (0 : Int) < 2147483647; decide, .int j, rfl, _, _, rfl, rfl, .inl ⟨by decide, by decide⟩, by show 3 ≤ sizeLine; decide, fun p hp => ?_⟩⟩
  refine q _ p (same_new hp _) hp ⟨_, _, _, upd_same, Int.emod_nonneg _ (by decide +kernel), Int.emod_nonneg _ (by decide), Int.emod_lt_of_pos _ (by decide), ?_, ?_⟩
  · show (0 : Int) ≤ 1000 * (j : Int)
    omega
  · show 1000 * (j : Int) ≤ 100000
    omega
def spLawDraw : Sp := fun vs H Q _ => ∃ (p : Addr) (n c : Int), vs = [.ref p, .int n] ∧ Pur H p c ∧ c ≤ 1000000 ∧ 1 ≤ n ∧ n ≤ 1000 ∧ ∀ r us, 0 ≤ r → r < n → Pur (upd H p (.lst us)) p (c + 1) → Q (.int r) (upd H p (.lst us))
theorem ok_lawDraw {f1 : Addr} {fd1 : FuncData} (F : Fun K "_law_draw" "_law_draw" sLawDraw f fd) (T : Bl mg) (G1 : FnOk P w K mg base CX0 k f1 fd1 ["cell", "k"] spLawMixed) (b1 : Binds K fd1 ["cell", "k"] []) (k1 : PySem.W.keepIn K (.ref f1) = true) (m1 : mg "_law_mixed" = some (.ref f1)) :
    FnOk P w K mg base CX0 (k + 1) f fd ["purse", "out_of"] spLawDraw := by
  refine F.ok scLawDraw (fun vs H Q E h => ?_) (fun cdv A outer s H vs Q E hr h => ?_)
  · obtain ⟨p, n, c, rfl, _⟩ := h
    rfl
  obtain ⟨p, n, c, rfl, ⟨a, b, e, hp, a0, b0, b1', e0, e1⟩, c1, n0, n1, q⟩ := h
  refine ⟨_, pss_cons (ps_if (pt_cmpR op_gt (pe_ix ix_list (pv 0) pe_int (fun _ _ => rfl)) pe_int (nomark _))
      (pss_cons (ps_set (i := 2) scLawDraw.nd rfl (.inl rfl) (pe_op op_mod (pe_callTy call_int1 (by rfl) T.int (by decide +kernel) (pa_cons (pe_ix ix_list (pv 0) pe_int (fun _ _ => rfl)) pa_nil)) (pv 1)))
      (pss_cons (ps_asg (pe_op op_fdiv (pe_ix ix_list (pv 0) pe_int (fun _ _ => rfl)) (pv 1)) (pg_sub (pv 0) pe_int set_list)) (pss_one (ps_ret (pv 2))))) pss_nil)
    (pss_cons (ps_set (i := 3) scLawDraw.nd rfl (.inl rfl) pe_int)
    (pss_cons (ps_for PassesOwn.never rfl (pi_range1 rfl T.range (pa_cons (pe_op op_add pe_int (pe_op op_fdiv (pe_bits (pv 1)) pe_int)) pa_nil)) (pg_name (i := 4) scLawDraw.nd rfl (.inl rfl))
      (pss_cons (ps_asg (pe_op op_add (pe_ix ix_list (pv 0) pe_int (fun _ _ => rfl)) pe_int) (pg_sub (pv 0) pe_int set_list))
      (pss_one (ps_set (i := 3) scLawDraw.nd rfl (.inl rfl) (pe_op op_add (pe_op op_mul (pv 3) pe_int) (pe_call G1 hr (by rfl) m1 k1 b1 .nil pass0 (pa_cons (pe_ix ix_list (pv 0) pe_int (fun _ _ => rfl)) (pa_cons (pe_ix ix_list (pv 0) pe_int (fun _ _ => rfl)) pa_nil))))))))
    (pss_one (ps_ret (pe_op op_mod (pe_callTy call_int1 (by rfl) T.int (by decide +kernel) (pa_cons (pv 3) pa_nil)) (pv 1)))))), ?_⟩
  have hS : SqL K H p [.int a, .int b, .int e] := SqL.of hp
  refine ⟨.ref p, rfl, p, _, 0, .int a, rfl, rfl, hS, atI_nat (j := 0) rfl, _, _, rfl, rfl, _, rfl, ite2 (fun g => ?_) (fun _ => ?_)⟩
  · refine ⟨.ref p, rfl, p, _, 0, .int a, rfl, rfl, hS, atI_nat (j := 0) rfl, .inl ⟨_, rfl, .int n, rfl, _, _, rfl, rfl, by show 0 < n; omega, ?_⟩⟩
    refine ⟨.ref p, rfl, p, _, 0, .int a, rfl, rfl, hS, atI_nat (j := 0) rfl, .int n, rfl, _, _, rfl, rfl, ⟨by omega, by omega⟩, .ref p, rfl, p, _, 0, 0, rfl, rfl, hp, rfl, ?_⟩
    refine ⟨.int (a % n), rfl, q _ _ (Int.emod_nonneg _ (by omega)) (Int.emod_lt_of_pos _ (by omega)) ⟨a / n, b, e, upd_same, Int.ediv_nonneg a0 (by omega), b0, b1', e0, by omega⟩⟩
  · have bs := bits_small n0 n1
    have one : (1 : Int) + ((Builtin.Int.intBits n : Nat) : Int) / 30 = 1 := by omega
    refine ⟨.int n, rfl, n, rfl, _, _, rfl, rfl, ⟨by decide, by decide⟩, _, _, rfl, rfl, ?_⟩
    refine ⟨1, congrArg (fun z => [V.int z]) one, by decide, by decide, for_range (n := 1) (fun i σ H1 => (i = 0 ∧ σ = [some (.ref p), some (.int n), none, some (.int 0), none] ∧ H1 = H) ∨ (i = 1 ∧ ∃ r, 0 ≤ r ∧ σ = [some (.ref p), some (.int n), none, some (.int r), some (.int 0)] ∧ H1 = upd H p (.lst [.int a, .int b, .int (e + 1)]))) (.inl ⟨rfl, rfl, rfl⟩) (fun i σ H1 il hI => ?_) (fun σ H1 hI => ?_)⟩
    · rcases hI with ⟨rfl, rfl, rfl⟩ | ⟨rfl, _⟩
      · refine ⟨.ref p, rfl, p, _, 2, .int e, rfl, rfl, hS, atI_nat (j := 2) rfl, _, _, rfl, rfl, .ref p, rfl, p, _, 2, 2, rfl, rfl, hp, rfl, ?_⟩
        have hS2 : SqL K (upd H1 p (.lst [.int a, .int b, .int (e + 1)])) p [.int a, .int b, .int (e + 1)] := SqL.of upd_same
        refine ⟨.int 0, rfl, _, _, rfl, rfl, .inl ⟨by decide, by decide⟩, .ref p, rfl, p, _, 1, .int b, rfl, rfl, hS2, atI_nat (j := 1) rfl, .ref p, rfl, p, _, 2, .int (e + 1), rfl, rfl, hS2, atI_nat (j := 2) rfl, b, e + 1, rfl, b0, b1', by omega, by omega, fun r r0 => ?_⟩
        exact ⟨_, _, rfl, rfl, .inr ⟨rfl, 0 * 2147483587 + r, by omega, rfl, rfl⟩⟩
      · omega
    · rcases hI with ⟨z, _⟩ | ⟨_, r, r0, rfl, rfl⟩
      · omega
      · refine ⟨.int r, rfl, .inl ⟨r, rfl, .int n, rfl, _, _, rfl, rfl, by show 0 < n; omega, ?_⟩⟩
        exact q _ _ (Int.emod_nonneg _ (by omega)) (Int.emod_lt_of_pos _ (by omega)) ⟨a, b, e + 1, upd_same, a0, b0, b1', by omega, by omega⟩
end
end Rw
namespace Rw
open PySem PySem.Spec PyProof.Rows L2
/-! ### _law_some -/
def rLenK (K : PySem.W.Frag) : List V → Hp → VK → Prop := fun xs H Q => ∃ p ys, xs = [V.ref p] ∧ (SqL K H p ys ∨ SqT K H p ys) ∧ Q (.int ys.length) H
abbrev sLawSome : Stmt := topS 44
theorem scLawSome : FnScope ["purse", "names", "most", "found", "name"] ["purse", "names", "most"] (defScope sLawSome) := ⟨rfl, rfl, rfl, by decide +kernel, rfl, by decide +kernel, by decide +kernel⟩
section
variable {P : Program} {w : World} {K : PySem.W.Frag} {mg : Str → Option Value} {base : Heap} {f : Addr} {fd : FuncData} {k : Nat}
def spLawSome (K : PySem.W.Frag) : Sp := fun vs H Q _ => ∃ (p l : Addr) (c m : Int) (ns : W), vs = [.ref p, .ref l, .int m] ∧ Pur H p c ∧ c ≤ 900000 ∧ l ≠ p ∧ H l = some (.lst (ns.map V.str)) ∧ 1 ≤ ns.length ∧ ns.length ≤ 40 ∧
  ∀ (H' : Hp) (t : Addr) (zs : W), Bar p H H' → Pur H' p (c + 40) → SqT K H' t (zs.map V.str) → zs.Sublist ns → Q (.ref t) H'
theorem ok_lawSome {f1 : Addr} {fd1 : FuncData} (F : Fun K "_law_some" "_law_some" sLawSome f fd) (T : Bl mg) (G1 : FnOk P w K mg base CX0 k f1 fd1 ["purse", "out_of"] spLawDraw) (b1 : Binds K fd1 ["purse", "out_of"] []) (k1 : PySem.W.keepIn K (.ref f1) = true) (m1 : mg "_law_draw" = some (.ref f1)) :
    FnOk P w K mg base CX0 (k + 1) f fd ["purse", "names", "most"] (spLawSome K) := by
  refine F.ok scLawSome (fun vs H Q E h => ?_) (fun cdv A outer s H vs Q E hr h => ?_)
  · obtain ⟨p, l, c, m, ns, rfl, _⟩ := h
    rfl
  obtain ⟨p, l, c, m, ns, rfl, hP, hc, nlp, hl, n1, n40, q⟩ := h
  refine ⟨_, pss_cons (ps_setLc (i := 3) (own := [("name", 4)]) (g := gName 4) (by rfl) scLawSome.nd rfl rfl (sw_true rfl rfl rfl (by decide +kernel)) (pi_list (pv 1)) (blkOk_by (N := ["purse", "names", "most", "found", "name"]) (sc := defScope sLawSome) (by decide +kernel))
        (fun _ _ _ _ _ => pg_name (i := 4) scLawSome.nd rfl (Or.inl rfl)) (fun _ _ _ _ _ => pts_one (pt_cmpR op_lt (pe_call G1 hr (by rfl) m1 k1 b1 .nil pass0 (pa_cons (pv 0) (pa_cons (pe_callB (r := rLenK K) call_len_seq (by rfl) T.len PySem.boot_len (pa_cons (pv 1) pa_nil)) pa_nil))) (pv 2) (nomark _))) (fun _ _ _ _ _ => pv 4))
    (pss_one (ps_ret (pe_callTy call_tuple_of (by rfl) T.tuple (by decide +kernel) (pa_cons (pv 3) pa_nil)))), ?_⟩
  refine ⟨.ref l, rfl, l, rfl, ⟨_, SqL.of hl⟩, fun D hD => ?_⟩
  have nDp := hP.some hD
  refine lc_list (xs := ns.map V.str) (fun i H1 => Bar p H H1 ∧ Pur H1 p (c + i) ∧ H1 l = some (.lst (ns.map V.str)) ∧ ∃ zs : W, H1 D = some (.lst (zs.map V.str)) ∧ zs.Sublist (ns.take i)) ⟨Bar.same (same_new hD _), (hP.same (same_new hD _)).le (by omega), (same_new hD _) _ _ hl, [], upd_same, List.nil_sublist _⟩ (fun i H1 _ hI => SqL.of hI.2.2.1) (fun i x H1 hxi hI => ?_) (fun H1 hI => ?_)
  · obtain ⟨bar, pu, hl1, zs, hd, hsub⟩ := hI
    obtain ⟨z, hz, rfl⟩ := map_at hxi
    have il : i < ns.length := (List.getElem?_eq_some_iff.mp hz).1
    have ln : ((ns.map V.str).length : Int) = ns.length := by rw [List.length_map]
    refine ⟨rfl, .ref p, rfl, .ref l, rfl, l, _, rfl, .inl (SqL.of hl1), p, _, c + i, rfl, pu, by omega, by rw [ln]; omega, by rw [ln]; omega, fun r us r0 r1 hP1 => ?_⟩
    have bar2 : Bar p H (upd H1 p (.lst us)) := bar.trans .draw
    have hl2 : (upd H1 p (.lst us)) l = some (.lst (ns.map V.str)) := by
      rw [upd_ne nlp]
      exact hl1
    have hd2 : (upd H1 p (.lst us)) D = some (.lst (zs.map V.str)) := by
      rw [upd_ne nDp]
      exact hd
    have pu2 : Pur (upd H1 p (.lst us)) p (c + ((i + 1 : Nat) : Int)) := hP1.le (by omega)
    have hDl : l ≠ D := fun e => by
      rw [e, hD] at hl
      cases hl
    refine ⟨.int m, rfl, r, m, rfl, rfl, _, rfl, ite2 (fun e => ?_) (fun e => ?_)⟩
    · refine ⟨.str z, rfl, _, hd2, small_line' ?_, bar2.put hD, pu2.put nDp, ?_, zs ++ [z], ?_, ?_⟩
      · rw [List.length_map]
        have := hsub.length_le
        rw [List.length_take] at this
        omega
      · rw [upd_ne hDl]
        exact hl2
      · rw [upd_same, List.map_append]
        rfl
      · rw [take_snoc hz]
        exact hsub.append (List.Sublist.refl _)
    · refine ⟨bar2, pu2, hl2, zs, hd2, ?_⟩
      rw [take_snoc hz]
      exact hsub.trans (List.sublist_append_left _ _)
  · obtain ⟨bar, pu, hl1, zs, hd, hsub⟩ := hI
    rw [List.length_map, List.take_length] at hsub
    rw [List.length_map] at pu
    refine ⟨.ref D, rfl, D, _, rfl, .inl ⟨SqL.of hd, fun t ht => ?_⟩⟩
    exact q _ t zs (bar.trans (.same (same_new ht _))) ((pu.same (same_new ht _)).le (by omega)) (SqT.of upd_same) hsub
end
end Rw
namespace Rw
open PySem PySem.Spec PyProof.Rows L2
/-! ### _law_rule -/
abbrev sLawRule : Stmt := topS 45
theorem scLawRule : FnScope ["purse", "names", "sort", "heads", "denied"] ["purse", "names", "sort"] (defScope sLawRule) := ⟨rfl, rfl, rfl, by decide +kernel, rfl, by decide +kernel, by decide +kernel⟩
theorem slA_w {K : PySem.W.Frag} {H : Hp} {a : Addr} {xs : List V} {lo hi : Option Int} {Q : VK} (hx : SqT K H a xs) (q : ∀ c H0, Same H H0 → SqT K H0 c (cutV xs lo hi) → Q (.ref c) H0) : rSlA K (.ref a) lo hi H Q := by
  refine ⟨a, xs, rfl, hx, fun ⟨e1, e2⟩ => q a H (fun _ _ e => e) ?_, fun _ p hp => q p _ (same_new hp _) (SqT.of upd_same)⟩
  unfold cutV
  rw [e1, e2, List.drop_zero, Nat.sub_zero, List.take_length]
  exact hx
theorem cut_map (zs : W) (j : Int) : ∃ m, cutV (zs.map V.str) none (some j) = (zs.take m).map V.str := by
  refine ⟨HT.sIx (zs.map V.str).length (zs.map V.str).length (some j), ?_⟩
  unfold cutV
  show ((zs.map V.str).drop 0).take (_ - 0) = _
  rw [List.drop_zero, Nat.sub_zero, List.map_take]
theorem isW_sub {ns zs : W} (h : IsW ns) (s : zs.Sublist ns) : IsW zs := ⟨fun x hx => h.names x (s.subset hx), List.Pairwise.sublist s h.up, Nat.le_trans s.length_le h.few⟩
theorem four_at {m : Nat} (h : m < 4) : ∃ j : Int, [V.int 2, V.int 2, V.int 2, V.int 4][m]? = some (.int j) := by
  rcases m with _ | _ | _ | _ | m
  · exact ⟨_, rfl⟩
  · exact ⟨_, rfl⟩
  · exact ⟨_, rfl⟩
  · exact ⟨_, rfl⟩
  · omega
section
variable {P : Program} {w : World} {K : PySem.W.Frag} {mg : Str → Option Value} {base : Heap} {f : Addr} {fd : FuncData} {k : Nat}
def spLawRule (K : PySem.W.Frag) : Sp := fun vs H Q _ => ∃ (p l : Addr) (c sort : Int) (ns : W), vs = [.ref p, .ref l, .int sort] ∧ (sort = 0 ∨ sort = 2) ∧ Pur H p c ∧ c ≤ 800000 ∧ l ≠ p ∧ H l = some (.lst (ns.map V.str)) ∧ 1 ≤ ns.length ∧ IsW ns ∧
  ∀ (H' : Hp) (v : V) (r : Rl), Bar p H H' → Pur H' p (c + 300) → Dp K H' v (rd r) → IsR r → (∀ t ∈ parts r, t.Sublist ns) → (sort = 0 → basicB r = true) → Q v H'
theorem ok_lawRule {f1 f2 : Addr} {fd1 fd2 : FuncData} (F : Fun K "_law_rule" "_law_rule" sLawRule f fd) (T : Bl mg) (G1 : FnOk P w K mg base CX0 k f1 fd1 ["purse", "out_of"] spLawDraw) (b1 : Binds K fd1 ["purse", "out_of"] []) (k1 : PySem.W.keepIn K (.ref f1) = true) (m1 : mg "_law_draw" = some (.ref f1))
    (G2 : FnOk P w K mg base CX0 k f2 fd2 ["purse", "names", "most"] (spLawSome K)) (b2 : Binds K fd2 ["purse", "names", "most"] []) (k2 : PySem.W.keepIn K (.ref f2) = true) (m2 : mg "_law_some" = some (.ref f2)) :
    FnOk P w K mg base CX0 (k + 1) f fd ["purse", "names", "sort"] (spLawRule K) := by
  refine F.ok scLawRule (fun vs H Q E h => ?_) (fun cdv A outer s H vs Q E hr h => ?_)
  · obtain ⟨p, l, c, sort, ns, rfl, _⟩ := h
    rfl
  obtain ⟨p, l, c, sort, ns, rfl, hsort, hP, hc, nlp, hl, n1, hn, q⟩ := h
  have n40 := hn.few
  refine ⟨_, pss_cons (ps_set (i := 3) scLawRule.nd rfl (.inl rfl) (pe_call G2 hr (by rfl) m2 k2 b2 .nil pass0 (pa_cons (pv 0) (pa_cons (pv 1) (pa_cons (pe_op op_add pe_int (pe_call G1 hr (by rfl) m1 k1 b1 .nil pass0 (pa_cons (pv 0) (pa_cons pe_int pa_nil)))) pa_nil)))))
    (pss_cons (ps_set (i := 3) scLawRule.nd rfl (.inl rfl) (pe_slice sl_tupA (pv 3) po_none (po_some (pe_ix ix_list (pe_lst (pa_cons pe_int (pa_cons pe_int (pa_cons pe_int (pa_cons pe_int pa_nil))))) (pe_call G1 hr (by rfl) m1 k1 b1 .nil pass0 (pa_cons (pv 0) (pa_cons pe_int pa_nil))) (fun _ _ => rfl)))))
    (pss_mid (ps_if (pt_cmpR op_eq (pv 2) pe_int (nomark _)) (pss_one (ps_set (i := 3) scLawRule.nd rfl (.inl rfl) (pe_tup (pa_cons (pe_ix ix_list (pv 1) (pe_call G1 hr (by rfl) m1 k1 b1 .nil pass0 (pa_cons (pv 0) (pa_cons (pe_callB call_len_seq (by rfl) T.len PySem.boot_len (pa_cons (pv 1) pa_nil)) pa_nil))) (fun _ _ => rfl)) pa_nil)))) pss_nil)
    (pss_cons (ps_set (i := 4) scLawRule.nd rfl (.inl rfl) (pe_tup pa_nil))
    (pss_mid (ps_if (PW.pt (pw_and (pt_cmpR op_eq (pv 2) pe_int (nomark _)) (pw_and1 (pt_cmpR op_eq (pe_call G1 hr (by rfl) m1 k1 b1 .nil pass0 (pa_cons (pv 0) (pa_cons pe_int pa_nil))) pe_int (nomark _))))) (pss_one (ps_set (i := 4) scLawRule.nd rfl (.inl rfl) (pe_call G2 hr (by rfl) m2 k2 b2 .nil pass0 (pa_cons (pv 0) (pa_cons (pv 1) (pa_cons pe_int pa_nil)))))) pss_nil)
    (pss_one (ps_ret (pe_tup (pa_cons (pv 3) (pa_cons (pv 4) (pa_cons (pe_call G2 hr (by rfl) m2 k2 b2 .nil pass0 (pa_cons (pv 0) (pa_cons (pv 1) (pa_cons pe_int pa_nil)))) (pa_cons (pe_call G2 hr (by rfl) m2 k2 b2 .nil pass0 (pa_cons (pv 0) (pa_cons (pv 1) (pa_cons pe_int pa_nil)))) pa_nil))))))))))), ?_⟩
  have lat : ∀ H', Bar p H H' → H' l = some (.lst (ns.map V.str)) := fun H' b => b _ _ nlp hl
  have sty : ∀ H', Bar p H H' → Stay H H' := fun H' b => b.stay hP.mut
  -- heads
  refine ⟨.ref p, rfl, .ref l, rfl, .ref p, rfl, p, 3, c, rfl, hP, by omega, by decide, by decide, fun r us r0 r1 hP1 => ?_⟩
  refine ⟨_, _, rfl, rfl, p, l, c + 1, _, ns, rfl, hP1, by omega, nlp, lat _ .draw, n1, n40, fun H2 t zs bar2 pu2 ht hs => ?_⟩
  have bar2' : Bar p H H2 := Bar.draw.trans bar2
  -- the slice
  refine ⟨.ref t, rfl, by show 4 ≤ sizeLine; decide, fun q4 hq4 => ?_⟩
  have s4 := same_new hq4 (.lst [.int 2, .int 2, .int 2, .int 4])
  have nq4 := pu2.some hq4
  refine ⟨.ref p, rfl, p, 4, _, rfl, pu2.same s4, by omega, by decide, by decide, fun r3 us3 r30 r31 hP3 => ?_⟩
  obtain ⟨m, rfl⟩ := Int.eq_ofNat_of_zero_le r30
  obtain ⟨j, hj⟩ := four_at (m := m) (by omega)
  refine ⟨q4, _, m, .int j, rfl, rfl, SqL.of (by rw [upd_ne nq4, upd_same]), atI_nat hj, ?_⟩
  have bar4 : Bar p H2 (upd (upd H2 q4 (.lst [.int 2, .int 2, .int 2, .int 4])) p (.lst us3)) := (Bar.same s4).trans .draw
  refine ⟨j, rfl, slA_w ((bar4.stay pu2.mut).seq ht) fun t5 H5 s5 ht5 => ?_⟩
  obtain ⟨mm, em⟩ := cut_map zs j
  rw [em] at ht5
  have bar5 : Bar p H H5 := (bar2'.trans bar4).trans (.same s5)
  have pu5 := hP3.same s5
  have hs5 : (zs.take mm).Sublist ns := (List.take_sublist _ _).trans hs
  have no : ∀ {i j : Int}, i ≠ j → V.bl (decide (V.int i = V.int j)) = V.bl false := fun n => congrArg V.bl (decide_eq_false fun e => n (by injection e))
  have yes : ∀ {i : Int}, V.bl (decide (V.int i = V.int i)) = V.bl true := congrArg V.bl (decide_eq_true rfl)
  have sortV : ∀ j : Int, ∃ b : Bool, V.bl (decide (V.int sort = V.int j)) = V.bl b ∧ (b = true ↔ sort = j) := fun j => by
    by_cases e : sort = j
    · exact ⟨true, by rw [e]; exact yes, by simp [e]⟩
    · exact ⟨false, no e, by simp [e]⟩
  refine ⟨fun σ H7 => ∃ (t7 : Addr) (hs7 : W), σ = [some (.ref p), some (.ref l), some (.int sort), some (.ref t7), none] ∧ Bar p H H7 ∧ Pur H7 p (c + 60) ∧ SqT K H7 t7 (hs7.map V.str) ∧ hs7.Sublist ns ∧ (sort = 0 → hs7.length = 1), ?_, ?_⟩
  · obtain ⟨b0, e0, hb0⟩ := sortV 0
    refine ⟨.int sort, rfl, rfl, b0, e0, ?_⟩
    cases b0 with
    | true =>
      refine iteT ⟨.ref l, rfl, .ref p, rfl, .ref l, rfl, l, _, rfl, .inl (SqL.of (lat _ bar5)), p, _, _, rfl, pu5, by omega, by rw [List.length_map]; omega, by rw [List.length_map]; omega, fun r us r0 r1 hP7 => ?_⟩
      obtain ⟨m7, rfl⟩ := Int.eq_ofNat_of_zero_le r0
      have lt : m7 < ns.length := by
        rw [List.length_map] at r1
        omega
      have hx : (ns.map V.str)[m7]? = some (.str ns[m7]) := by rw [List.getElem?_map, List.getElem?_eq_getElem lt]; rfl
      have bar7 : Bar p H (upd H5 p (.lst us)) := bar5.trans .draw
      refine ⟨l, _, m7, _, rfl, rfl, SqL.of (lat _ bar7), atI_nat hx, by show 1 ≤ sizeLine; decide, fun t7 ht7 => ?_⟩
      have s7 := same_new ht7 (.tup [.str ns[m7]])
      exact ⟨t7, [ns[m7]], rfl, bar7.trans (.same s7), (hP7.same s7).le (by omega), SqT.of upd_same, List.singleton_sublist.mpr (List.getElem_mem lt), fun _ => rfl⟩
    | false => exact iteF ⟨t5, zs.take mm, rfl, bar5, pu5.le (by omega), ht5, hs5, fun e => absurd (hb0.mpr e) (by decide)⟩
  rintro σ6 H6 ⟨t5', hs6, rfl, bar6', pu6', h56, hsub6, one6⟩
  refine ⟨by show 0 ≤ sizeLine; decide, fun t6 ht6 => ?_⟩
  have s6 := same_new ht6 (.tup [])
  have bar6 := bar6'.trans (.same s6)
  have pu6 := pu6'.same s6
  refine ⟨fun σ H7 => ∃ (t7 : Addr) (ds : W), σ = [some (.ref p), some (.ref l), some (.int sort), some (.ref t5'), some (.ref t7)] ∧ Bar p H H7 ∧ Pur H7 p (c + 200) ∧ SqT K H7 t5' (hs6.map V.str) ∧ SqT K H7 t7 (ds.map V.str) ∧ ds.Sublist ns ∧ (sort = 0 → ds = []), ?_, ?_⟩
  · obtain ⟨b2', e2, hb2⟩ := sortV 2
    refine ⟨.int sort, rfl, rfl, b2', e2, ?_⟩
    cases b2' with
    | false => exact iteF ⟨t6, [], rfl, bar6, pu6.le (by omega), same_tup s6 h56, SqT.of upd_same, List.nil_sublist _, fun _ => rfl⟩
    | true =>
      have s2 := hb2.mp rfl
      refine iteT ⟨.ref p, rfl, p, 3, _, rfl, pu6, by omega, by decide, by decide, fun r us r0 r1 hP7 => ?_⟩
      have bar7 := bar6.trans (Bar.draw (o := .lst us))
      have sty7 := (Bar.same s6).trans (Bar.draw (p := p) (o := .lst us))
      refine ⟨rfl, _, rfl, ite2 (fun e => ?_) (fun e => ?_)⟩
      · refine ⟨.ref p, rfl, .ref l, rfl, p, l, _, 1, ns, rfl, hP7, by omega, nlp, lat _ bar7, n1, n40, fun H8 t8 z8 bar8 pu8 h8 hs8 => ?_⟩
        exact ⟨t8, z8, rfl, bar7.trans bar8, pu8.le (by omega), (((sty7.trans bar8).stay pu6'.mut).seq h56), h8, hs8, fun e => by rw [e] at s2; exact absurd s2 (by decide)⟩
      · exact ⟨t6, [], rfl, bar7, hP7.le (by omega), (sty7.stay pu6'.mut).seq h56, ((Bar.draw (p := p)).stay pu6.mut).seq (SqT.of upd_same), List.nil_sublist _, fun _ => rfl⟩
  · rintro σ7 H7 ⟨t7, ds, rfl, bar7, pu7, h5, h7, hds, none7⟩
    refine ⟨.ref t5', rfl, .ref t7, rfl, .ref p, rfl, .ref l, rfl, p, l, _, 1, ns, rfl, pu7, by omega, nlp, lat _ bar7, n1, n40, fun H8 t8 z8 bar8 pu8 h8 hs8 => ?_⟩
    refine ⟨.ref p, rfl, .ref l, rfl, p, l, _, 1, ns, rfl, pu8, by omega, nlp, lat _ (bar7.trans bar8), n1, n40, fun H9 t9 z9 bar9 pu9 h9 hs9 => ?_⟩
    refine ⟨by show 4 ≤ sizeLine; decide, fun t10 ht10 => ?_⟩
    have s10 := same_new ht10 (.tup [.ref t5', .ref t7, .ref t8, .ref t9])
    have y9 := (bar9.stay pu8.mut).trans (.same s10)
    have y8 := (bar8.stay pu7.mut).trans y9
    refine q _ (.ref t10) (hs6, ds, z8, z9) (((bar7.trans bar8).trans bar9).trans (.same s10)) ((pu9.same s10).le (by omega)) ?_ ⟨isW_sub hn hsub6, isW_sub hn hds, isW_sub hn hs8, isW_sub hn hs9⟩ (fun t ht => ?_) (fun e => ?_)
    · exact .tup (SqT.of upd_same) (.cons (to_wd (y8.seq h5)) (.cons (to_wd (y8.seq h7)) (.cons (to_wd (y9.seq h8)) (.cons (to_wd ((Stay.same s10).seq h9)) .nil))))
    · unfold parts at ht
      simp only [List.mem_cons, List.mem_nil_iff, or_false] at ht
      rcases ht with e | e | e | e <;> subst e
      · exact hsub6
      · exact hds
      · exact hs8
      · exact hs9
    · unfold basicB
      rw [decide_eq_true (one6 e), none7 e]
      rfl
end
end Rw
namespace Rw
open PySem PySem.Spec PyProof.Rows L2
/-! ### _law_rules -/
abbrev sLawRules : Stmt := topS 46
theorem scLawRules : FnScope ["purse", "names", "sort", "most", "k"] ["purse", "names", "sort", "most"] (defScope sLawRules) := ⟨rfl, rfl, rfl, by decide +kernel, rfl, by decide +kernel, by decide +kernel⟩
theorem none_same {H H' : Hp} {l : Addr} (s : Same H H') (n : H' l = none) : H l = none := by
  cases e : H l with
  | none => rfl
  | some u =>
    rw [s _ _ e] at n
    cases n
section
variable {P : Program} {w : World} {K : PySem.W.Frag} {mg : Str → Option Value} {base : Heap} {f : Addr} {fd : FuncData} {k : Nat}
/-- a rule whose names are of ns -/
def RIn (ns : W) (r : Rl) : Prop := IsR r ∧ ∀ t ∈ parts r, t.Sublist ns
def spLawRules (K : PySem.W.Frag) : Sp := fun vs H Q _ => ∃ (p l : Addr) (c sort most : Int) (ns : W), vs = [.ref p, .ref l, .int sort, .int most] ∧ (sort = 0 ∨ sort = 2) ∧ 0 ≤ most ∧ most ≤ 40 ∧ Pur H p c ∧ c ≤ 700000 ∧ l ≠ p ∧ H l = some (.lst (ns.map V.str)) ∧ 1 ≤ ns.length ∧ IsW ns ∧
  ∀ (H' : Hp) (a : Addr) (ys : List V) (S L : List Rl), Bar p H H' → Pur H' p (c + 15000) → H a = none → H' a = some (.lst ys) → DpAll K H' ys (S.map rd) → Srt S L → S.length < 64 → (S.length : Int) ≤ most → (∀ r ∈ S, RIn ns r) → (sort = 0 → ∀ r ∈ S, basicB r = true) → Q (.ref a) H'
theorem ok_lawRules {f1 f2 : Addr} {fd1 fd2 : FuncData} (F : Fun K "_law_rules" "_law_rules" sLawRules f fd) (T : Bl mg) (G1 : FnOk P w K mg base CX0 k f1 fd1 ["purse", "out_of"] spLawDraw) (b1 : Binds K fd1 ["purse", "out_of"] []) (k1 : PySem.W.keepIn K (.ref f1) = true) (m1 : mg "_law_draw" = some (.ref f1))
    (G2 : FnOk P w K mg base CX0 k f2 fd2 ["purse", "names", "sort"] (spLawRule K)) (b2 : Binds K fd2 ["purse", "names", "sort"] []) (k2 : PySem.W.keepIn K (.ref f2) = true) (m2 : mg "_law_rule" = some (.ref f2)) :
    FnOk P w K mg base CX0 (k + 1) f fd ["purse", "names", "sort", "most"] (spLawRules K) := by
  refine F.ok scLawRules (fun vs H Q E h => ?_) (fun cdv A outer s H vs Q E hr h => ?_)
  · obtain ⟨p, l, c, sort, most, ns, rfl, _⟩ := h
    rfl
  obtain ⟨p, l, c, sort, most, ns, rfl, hsort, m0, m40, hP, hc, nlp, hl, n1, hn, q⟩ := h
  refine ⟨_, pss_one (ps_ret (pe_callB (cr_sortR rfl hr.units) (by rfl) T.sorted (by decide +kernel) (pa_cons (pe_callTy (cr_setR rfl hr.units) (by rfl) T.set (by decide +kernel) (pa_cons
      (pe_lc (own := [("k", 4)]) (g := gName 4) (by rfl) scLawRules.nd (pi_range1 rfl T.range (pa_cons (pe_call G1 hr (by rfl) m1 k1 b1 .nil pass0 (pa_cons (pv 0) (pa_cons (pe_op op_add (pv 3) pe_int) pa_nil))) pa_nil)) (blkOk_by (N := ["purse", "names", "sort", "most", "k"]) (sc := defScope sLawRules) (by decide +kernel))
        (fun _ _ _ _ _ => pg_name (i := 4) scLawRules.nd rfl (Or.inl rfl)) (fun _ _ _ _ _ => pts_nil) (fun _ _ _ _ _ => pe_call G2 hr (by rfl) m2 k2 b2 .nil pass0 (pa_cons (pv 0) (pa_cons (pv 1) (pa_cons (pv 2) pa_nil))))) pa_nil)) pa_nil))), ?_⟩
  refine ⟨.ref p, rfl, .int most, rfl, _, _, rfl, rfl, p, _, c, rfl, hP, by omega, by omega, by omega, fun r us r0 r1 hP1 => ?_⟩
  have barA : Bar p H (upd H p (.lst us)) := .draw
  have r1' : r < most + 1 := r1
  refine ⟨r, rfl, by omega, by omega, fun D hD => ?_⟩
  have nDp := hP1.some hD
  have hD0 := none_bar barA hP1 hD
  have sD := same_new hD (.lst [])
  refine lc_range (fun i H1 => Bar p H H1 ∧ Pur H1 p (c + 1 + 300 * i) ∧ ∃ (zs : List V) (L : List Rl), H1 D = some (.lst zs) ∧ DpAll K H1 zs (L.map rd) ∧ L.length = i ∧ (∀ r ∈ L, RIn ns r) ∧ (sort = 0 → ∀ r ∈ L, basicB r = true)) ⟨barA.trans (.same sD), (hP1.same sD).le (by omega), [], [], upd_same, .nil, rfl, (fun _ z => nomatch z), fun _ _ z => nomatch z⟩ (fun i H1 il hI => ?_) (fun H1 hI => ?_)
  · obtain ⟨bar, pu, zs, L, hd, hzs, hL, hR, hBs⟩ := hI
    refine ⟨rfl, .ref p, rfl, .ref l, rfl, .int sort, rfl, p, l, _, sort, ns, rfl, hsort, pu, by omega, nlp, bar _ _ nlp hl, n1, hn, fun H2 v r2 bar2 pu2 hv hr2 hsub hbas => ?_⟩
    have hd2 := bar2 _ _ nDp hd
    have st : Stay H2 (upd H2 D (.lst (zs ++ [v]))) := .put (by rw [hd2]; exact True.intro) _
    refine ⟨zs, hd2, small_line' ?_, (bar.trans bar2).put hD0, (pu2.put nDp).le (by omega), zs ++ [v], L ++ [r2], upd_same, ?_, by rw [List.length_append, hL]; rfl, fun r hr => ?_, fun e r hr => ?_⟩
    · rw [dpAll_len hzs, List.length_map]
      omega
    · rw [List.map_append]
      exact dpAll_app (((bar2.stay pu.mut).trans st).dpAll _ _ (okDs_rd L) hzs) (.cons (st.dp _ _ (ok_rd r2) hv) .nil)
    · rcases List.mem_append.mp hr with h | h
      · exact hR r h
      · rw [List.mem_singleton.mp h]
        exact ⟨hr2, hsub⟩
    · rcases List.mem_append.mp hr with h | h
      · exact hBs e r h
      · rw [List.mem_singleton.mp h]
        exact hbas e
  · obtain ⟨bar, pu, zs, L, hd, hzs, hL, hR, hBs⟩ := hI
    refine ⟨D, zs, L, rfl, .inl (SqL.of hd), hzs, by omega, fun a M ha hM isP hall => ?_⟩
    have sa := same_new ha (TSetO w a M)
    refine ⟨a, M, L, rfl, upd_same, (fun e he => ⟨(hM e he).1, (Stay.same sa).dp _ _ (hM e he).1.ok (hM e he).2⟩), isP, hall, fun ys S l2 hS hSl hys hl2 => ?_⟩
    have sl := same_new hl2 (.lst ys)
    have n0 : H1 l2 = none := none_same sa hl2
    refine q _ l2 ys S L (bar.trans (.same (sa.trans sl))) ((pu.same (sa.trans sl)).le (by omega)) (none_bar bar pu n0) upd_same ((Stay.same sl).dpAll _ _ (okDs_rd S) hys) hS hSl (by have e := len_le hS.nd fun z hz => (hS.mem z).mp hz; omega) (fun r hr => hR r ((hS.mem r).mp hr)) fun e r hr => hBs e r ((hS.mem r).mp hr)
end
end Rw
namespace Rw
open PySem PySem.Spec PyProof.Rows L2
/-! ### _law_names_in -/
abbrev sLawNames : Stmt := topS 47
theorem scLawNames : FnScope ["rules", "found", "row", "part"] ["rules"] (defScope sLawNames) := ⟨rfl, rfl, rfl, by decide +kernel, rfl, by decide +kernel, by decide +kernel⟩
def rListOf (K : PySem.W.Frag) : List V → Hp → VK → Prop := fun xs H Q => ∃ p ys, xs = [V.ref p] ∧ (SqL K H p ys ∨ SqT K H p ys) ∧ ∀ (l : Addr), H l = none → Q (V.ref l) (upd H l (HO.lst ys))
theorem namesL_take {S : List Rl} {i : Nat} {r : Rl} (h : S[i]? = some r) : namesL (S.take (i + 1)) = namesL (S.take i) ++ ownN r := by
  unfold namesL
  rw [take_snoc h, List.flatMap_append, List.flatMap_cons, List.flatMap_nil, List.append_nil]
theorem namesL_le {S : List Rl} {i : Nat} {r : Rl} (h : S[i]? = some r) : (namesL (S.take i)).length + (ownN r).length ≤ (namesL S).length := by
  have e : S = S.take (i + 1) ++ S.drop (i + 1) := (List.take_append_drop ..).symm
  have : (namesL S).length = (namesL (S.take (i + 1))).length + (namesL (S.drop (i + 1))).length := by
    conv => lhs; rw [e]
    unfold namesL
    rw [List.flatMap_append, List.length_append]
  rw [this, namesL_take h, List.length_append]
  omega
section
variable {P : Program} {w : World} {K : PySem.W.Frag} {mg : Str → Option Value} {base : Heap} {f : Addr} {fd : FuncData} {k : Nat}
def spLawNames (K : PySem.W.Frag) : Sp := fun vs H Q _ => ∃ (l : Addr) (S : List Rl), vs = [.ref l] ∧ RL K H l S ∧ (namesL S).length < 1000 ∧
  ∀ (H' : Hp) (p : Addr) (zs : W), Same H H' → H p = none → H' p = some (.lst (zs.map V.str)) → zs.Nodup → RisingX zs → (∀ z, z ∈ zs ↔ z ∈ namesL S) → Q (.ref p) H'
theorem ok_lawNames (F : Fun K "_law_names_in" "_law_names_in" sLawNames f fd) (T : Bl mg) : FnOk P w K mg base CX0 (k + 1) f fd ["rules"] (spLawNames K) := by
  refine F.ok scLawNames (fun vs H Q E h => ?_) (fun cdv A outer s H vs Q E hr h => ?_)
  · obtain ⟨l, S, rfl, _⟩ := h
    rfl
  obtain ⟨l, S, rfl, ⟨ys, hl, hys⟩, few, q⟩ := h
  refine ⟨_, pss_cons (ps_set (i := 1) scLawNames.nd rfl (.inl rfl) (pe_lst pa_nil))
    (pss_cons (ps_for PassesOwn.never rfl (pi_list (pv 0)) (pg_name (i := 2) scLawNames.nd rfl (.inl rfl))
      (pss_one (ps_for PassesOwn.never rfl (pi_tup (pv 2)) (pg_name (i := 3) scLawNames.nd rfl (.inl rfl))
        (pss_one (ps_set (i := 1) scLawNames.nd rfl (.inl rfl) (pe_op op_cat (pv 1) (pe_callTy (T := "list") (r := rListOf K) call_list_of (by rfl) T.list (by decide +kernel) (pa_cons (pv 3) pa_nil))))))))
    (pss_one (ps_ret (pe_callB (cr_sortX rfl hr.units) (by rfl) T.sorted (by decide +kernel) (pa_cons (pe_callTy (cr_setX rfl hr.units) (by rfl) T.set (by decide +kernel) (pa_cons (pv 1) pa_nil)) pa_nil))))), ?_⟩
  have yl : ys.length = S.length := by rw [dpAll_len hys, List.length_map]
  refine ⟨by show 0 ≤ sizeLine; decide, fun l0 hl0 => ?_⟩
  have s0 := same_new hl0 (.lst [])
  refine ⟨.ref l, rfl, l, rfl, ⟨_, SqL.of (s0 _ _ hl)⟩, for_list (xs := ys) (fun i σ H1 => (∃ l1 y2 y3, σ = [some (.ref l), some (.ref l1), y2, y3] ∧ H1 l1 = some (.lst ((namesL (S.take i)).map V.str))) ∧ Same H H1) ⟨⟨l0, _, _, rfl, upd_same⟩, s0⟩ (fun i σ H1 _ hI => SqL.of (hI.2 _ _ hl)) (fun i x σ H1 hx hI => ?_) (fun σ H1 hI => ?_)⟩
  · obtain ⟨⟨l1, y2, y3, rfl, h1⟩, sm⟩ := hI
    obtain ⟨dd, hdd, hxd⟩ := dpAll_at' hys hx
    obtain ⟨r, hr0, rfl⟩ := map_at hdd
    have lim := namesL_le hr0
    have hxd2 := dp_same sm _ _ hxd
    unfold rd at hxd2
    cases hxd2 with
    | @tup b xs _ hT hxs =>
      have xl : xs.length = (parts r).length := by rw [dpAll_len hxs, List.length_map]
      refine ⟨.ref b, rfl, b, rfl, ⟨_, hT⟩, for_tup (xs := xs) (fun j σ H2 => (∃ l2 y3, σ = [some (.ref l), some (.ref l2), some (.ref b), y3] ∧ H2 l2 = some (.lst ((namesL (S.take i) ++ ((parts r).take j).flatMap id).map V.str))) ∧ Same H1 H2) ⟨⟨l1, _, rfl, by rw [h1, List.take_zero, List.flatMap_nil, List.append_nil]⟩, fun _ _ e => e⟩ (fun j σ H2 _ h => same_tup h.2 hT) (fun j y σ H2 hy h => ?_) (fun σ H2 h => ?_)⟩
      · obtain ⟨⟨l2, y3', rfl, h2⟩, s2⟩ := h
        obtain ⟨de, hde, hyd⟩ := dpAll_at' hxs hy
        obtain ⟨t, ht, rfl⟩ := map_at hde
        obtain ⟨a, rfl, hA⟩ := of_wd ((Stay.same s2).wd hyd)
        have lt : (((parts r).take j).flatMap id).length + t.length ≤ (ownN r).length := by
          have e : parts r = (parts r).take (j + 1) ++ (parts r).drop (j + 1) := (List.take_append_drop ..).symm
          unfold ownN
          conv => rhs; rw [e]
          rw [List.flatMap_append, List.length_append, take_snoc ht, List.flatMap_append, List.length_append, List.flatMap_cons, List.flatMap_nil, List.append_nil]
          show _ ≤ _ + (id t).length + _
          exact Nat.le_add_right _ _
        refine ⟨.ref l2, rfl, .ref a, rfl, a, _, rfl, .inr hA, fun l3 hl3 => ?_⟩
        have s3 := same_new hl3 (.lst (t.map V.str))
        refine ⟨l2, l3, _, _, rfl, rfl, s3 _ _ h2, upd_same, small_line (by rw [List.length_map, List.length_map, List.length_append]; omega), fun p hp => ?_⟩
        refine ⟨⟨p, _, rfl, ?_⟩, s2.trans (s3.trans (same_new hp _))⟩
        rw [upd_same, take_snoc ht, List.flatMap_append, List.flatMap_cons, List.flatMap_nil, List.append_nil, ← List.append_assoc, List.map_append (l₂ := id t)]
        rfl
      · obtain ⟨⟨l2, y3', rfl, h2⟩, s2⟩ := h
        rw [xl, List.take_length] at h2
        exact ⟨⟨l2, _, _, rfl, by rw [h2, namesL_take hr0]; rfl⟩, sm.trans s2⟩
  · obtain ⟨⟨l1, y2, y3, rfl, h1⟩, sm⟩ := hI
    rw [yl, List.take_length] at h1
    refine ⟨.ref l1, rfl, l1, namesL S, rfl, .inl (SqL.of h1), few, fun b ms hb nd hm hl' => ?_⟩
    refine ⟨b, ms, rfl, upd_same, by omega, fun zs p hz nz hlz rz hp => ?_⟩
    have s4 := same_new hb (XSetO P w b ms)
    exact q _ p zs (sm.trans (s4.trans (same_new hp _))) (none_same (sm.trans s4) hp) upd_same nz rz fun z => (hz z).trans (hm z)
end
end Rw
namespace Rw
open PySem PySem.Spec PyProof.Rows L2
/-! ### _law_closed -/
abbrev sLawClosed : Stmt := topS 48
abbrev nLawClosed : List Str := ["rules", "barring", "found", "many", "heads", "denied", "needs", "bars", "ready", "name"]
theorem scLawClosed : FnScope ["rules", "barring", "found", "many", "heads", "denied", "needs", "bars", "ready", "name"] ["rules", "barring"] (defScope sLawClosed) := ⟨rfl, rfl, rfl, by decide +kernel, rfl, by decide +kernel, by decide +kernel⟩
theorem seq_step {t u : TS} {D : Ends} {σ : L2.St} {H : Hp} (h : t { D with nx := u D } σ H) : tSeq t u D σ H := h
theorem asg_op2 {r : L2.R2} {t1 t2 : TE} {i : Nat} {u : TS} {D : Ends} {σ : L2.St} {H : Hp} (h : t1 σ H fun x H1 => t2 σ H1 fun y H2 => r x y H2 fun v H3 => u D (σ.set i (some v)) H3) : tSeq (tAsg (tOp r t1 t2) (gName i)) u D σ H := h
theorem lc_filter {K : PySem.W.Frag} {σ : L2.St} {H : Hp} {Q : VK} {t c : Addr} {i j : Nat} {ns ms : W} {neg : Bool} (h0 : σ[i]? = some (some (.ref t))) (hj : j ≠ 9) (hσ : σ[j]? = some (some (.ref c))) (hl : 9 < σ.length) (hc : H c = some (.lst (ms.map V.str))) (ht : SqT K H t (ns.map V.str)) (few : ns.length ≤ 1000)
    (q : ∀ H' D, Same H H' → H D = none → H' D = some (.lst ((ns.filter fun z => if neg then !decide (z ∈ ms) else decide (z ∈ ms)).map V.str)) → Q (.ref D) H') :
    tLc (iTup K (tVar i)) (gName 9) (tTest (tOp (rIn K neg) (tVar 9) (tVar j))) (tVar 9) [9] σ H Q := by
  refine ⟨.ref t, h0, t, rfl, ⟨_, ht⟩, fun D hD => ?_⟩
  refine lc_tup (xs := ns.map V.str) (fun n H1 => Same H H1 ∧ H1 D = some (.lst (((ns.take n).filter fun z => if neg then !decide (z ∈ ms) else decide (z ∈ ms)).map V.str))) ⟨same_new hD _, upd_same⟩ (fun n H1 _ h => same_tup h.1 ht) (fun n x H1 hx h => ?_) (fun H1 h => ?_)
  · obtain ⟨sm, hd⟩ := h
    obtain ⟨z, hz, rfl⟩ := map_at hx
    have il : n < ns.length := (List.getElem?_eq_some_iff.mp hz).1
    have w9 : ((wipe σ [9]).set 9 (some (V.str z)))[9]? = some (some (V.str z)) := by
      show ((σ.set 9 none).set 9 (some (V.str z)))[9]? = _
      rw [List.set_set, List.getElem?_set_self hl]
    have wj : ((wipe σ [9]).set 9 (some (V.str z)))[j]? = some (some (V.ref c)) := by
      show ((σ.set 9 none).set 9 (some (V.str z)))[j]? = _
      rw [List.set_set, List.getElem?_set_ne (Ne.symm hj)]
      exact hσ
    have ww : wipe ((wipe σ [9]).set 9 (some (V.str z))) [9] = wipe σ [9] := by
      show ((σ.set 9 none).set 9 (some (V.str z))).set 9 none = σ.set 9 none
      rw [List.set_set, List.set_set]
    refine ⟨ww, .str z, w9, .ref c, wj, c, ms.map V.str, rfl, .inl (SqL.of (sm _ _ hc)), rfl, flat_strs ms, _, rfl, ?_⟩
    rw [inV_str]
    refine ite2 (fun e => ?_) (fun e => ?_)
    · refine ⟨.str z, w9, _, hd, small_line' ?_, same_put sm hD, ?_⟩
      · rw [List.length_map]
        have := List.length_filter_le (fun z => if neg then !decide (z ∈ ms) else decide (z ∈ ms)) (ns.take n)
        rw [List.length_take] at this
        omega
      · rw [upd_same, filt_t hz (show (if neg then !decide (z ∈ ms) else decide (z ∈ ms)) = true from e), List.map_append]
        rfl
    · refine ⟨sm, ?_⟩
      rw [filt_f hz (show (if neg then !decide (z ∈ ms) else decide (z ∈ ms)) = false from (Bool.not_eq_true _).mp e)]
      exact hd
  · obtain ⟨sm, hd⟩ := h
    rw [List.length_map, List.take_length] at hd
    exact q H1 D sm hD hd
theorem eqv_nil (zs : W) : PyData.eqv (.list (zs.map .str)) (.list []) = decide (zs = []) := by
  cases zs with
  | nil => decide +kernel
  | cons z zs => rfl
section
variable {P : Program} {w : World} {K : PySem.W.Frag} {mg : Str → Option Value} {base : Heap} {f : Addr} {fd : FuncData} {k : Nat}
def spLawClosed (K : PySem.W.Frag) : Sp := fun vs H Q _ => ∃ (l b : Addr) (S : List Rl) (ws : W), vs = [.ref l, .ref b] ∧ RL K H l S ∧ (∀ r ∈ S, IsR r) ∧ (∀ r ∈ S, basicB r = true) ∧ S.length < 64 ∧ H b = some (.lst (ws.map V.str)) ∧
  ∀ (H' : Hp) (D : Addr) (zs : W), Same H H' → H D = none → H' D = some (.lst (zs.map V.str)) → zs.length ≤ S.length → (∀ y, y ∈ zs ↔ ReachP S (· ∈ ws) y) → Q (.ref D) H'
theorem ok_lawClosed (F : Fun K "_law_closed" "_law_closed" sLawClosed f fd) (T : Bl mg) : FnOk P w K mg base CX0 (k + 1) f fd ["rules", "barring"] (spLawClosed K) := by
  refine F.ok scLawClosed (fun vs H Q E h => ?_) (fun cdv A outer s H vs Q E hr h => ?_)
  · obtain ⟨l, b, S, ws, rfl, _⟩ := h
    rfl
  obtain ⟨l, b, S, ws, rfl, ⟨ys, hl, hys⟩, hI, hB, few, hb, q⟩ := h
  refine ⟨_, pss_cons (ps_set (i := 2) scLawClosed.nd rfl (.inr rfl) (pe_lst pa_nil))
    (pss_cons (ps_set (i := 3) scLawClosed.nd rfl (.inl rfl) (pe_un un_neg pe_int))
    (pss_cons (ps_while PassesOwn.never (pt_cmpR op_lt (pv 3) (pe_callB call_len_seq (by rfl) T.len PySem.boot_len (pa_cons (pv 2) pa_nil)) (nomark _))
      (pss_cons (ps_set (i := 3) scLawClosed.nd rfl (.inl rfl) (pe_callB call_len_seq (by rfl) T.len PySem.boot_len (pa_cons (pv 2) pa_nil)))
      (pss_one (ps_for PassesOwn.never rfl (pi_list (pv 0)) (pg_tup (by rfl) (pgs_cons (pg_name (i := 4) scLawClosed.nd rfl (.inl rfl)) (pgs_cons (pg_name (i := 5) scLawClosed.nd rfl (.inl rfl)) (pgs_cons (pg_name (i := 6) scLawClosed.nd rfl (.inl rfl)) (pgs_cons (pg_name (i := 7) scLawClosed.nd rfl (.inl rfl)) pgs_nil)))))
        (pss_cons (ps_set (i := 8) scLawClosed.nd rfl (.inl rfl) (pe_op op_cat
          (pe_lc (own := [("name", 9)]) (g := gName 9) (by rfl) scLawClosed.nd (pi_tup (pv 6)) (blkOk_by (N := nLawClosed) (sc := defScope sLawClosed) (by decide +kernel)) (fun _ _ _ _ _ => pg_name (i := 9) scLawClosed.nd rfl (Or.inl rfl)) (fun _ _ _ _ _ => pts_one (pt_cmpR (r := rIn K true) op_notIn_seq (pv 9) (pv 2) (by rfl))) (fun _ _ _ _ _ => pv 9))
          (pe_lc (own := [("name", 9)]) (g := gName 9) (by rfl) scLawClosed.nd (pi_tup (pv 7)) (blkOk_by (N := nLawClosed) (sc := defScope sLawClosed) (by decide +kernel)) (fun _ _ _ _ _ => pg_name (i := 9) scLawClosed.nd rfl (Or.inl rfl)) (fun _ _ _ _ _ => pts_one (pt_cmpR (r := rIn K false) op_in_seq (pv 9) (pv 1) (by rfl))) (fun _ _ _ _ _ => pv 9))))
        (pss_one (ps_if (PW.pt (pw_and (pt_cmpR (op_eqD hr.units) (pv 8) (pe_lst pa_nil) (nomark _)) (pw_and1 (pt_cmpR (r := rIn K true) op_notIn_seq (pe_ix ix_tup (pv 4) pe_int (fun _ _ => rfl)) (pv 2) (by rfl)))))
          (pss_one (ps_expr (pe_bm PySem.F.plainAttrs_list PySem.F.slot_list_append PySem.F.type_list_append mt_append (pv 2) (pa_cons (pe_ix ix_tup (pv 4) pe_int (fun _ _ => rfl)) pa_nil)))) pss_nil)))))))
    (pss_one (ps_ret (pv 2))))), ?_⟩
  have yl : ys.length = S.length := by rw [dpAll_len hys, List.length_map]
  refine ⟨by show 0 ≤ sizeLine; decide, fun d hd0 => ?_⟩
  have s0 := same_new hd0 (.lst [])
  let HS : Hp := upd H d (.lst [])
  have hdS : HS d = some (.lst []) := upd_same
  have nld : l ≠ d := fun z => by
    rw [z, hd0] at hl
    cases hl
  have nbd : b ≠ d := fun z => by
    rw [z, hd0] at hb
    cases hb
  have mutd : Mut (HS d) := by
    rw [hdS]
    exact True.intro
  let Good : L2.St → Hp → Int → W → Prop := fun σ H' m zs => (∃ y4 y5 y6 y7 y8, σ = [some (.ref l), some (.ref b), some (.ref d), some (.int m), y4, y5, y6, y7, y8, none]) ∧ Bar d HS H' ∧ H' d = some (.lst (zs.map V.str)) ∧ zs.Nodup ∧ (∀ y ∈ zs, y ∈ S.map hd) ∧ (∀ y ∈ zs, ReachP S (· ∈ ws) y) ∧ -1 ≤ m ∧ m ≤ zs.length
  let Cl : W → Prop := fun zs => ∀ r ∈ S, (∀ z ∈ r.2.2.1, z ∈ zs) → (∀ z ∈ r.2.2.2, z ∉ ws) → hd r ∈ zs
  have lenZ : ∀ {zs : W}, zs.Nodup → (∀ y ∈ zs, y ∈ S.map hd) → zs.length ≤ S.length := fun n h => Nat.le_trans (len_le n h) (by rw [List.length_map]; exact Nat.le_refl _)
  let μ : L2.St → Hp → Nat := fun σ _ => match σ[3]? with | some (some (V.int m)) => ((S.length : Int) - m).toNat | _ => 0
  dsimp only [gName, tSeq, tAsg]
  refine ⟨1, rfl, ?_⟩
  refine while_by (fun σ H' => ∃ m zs, Good σ H' m zs ∧ (m = zs.length → Cl zs)) μ ⟨-1, [], ⟨⟨_, _, _, _, _, rfl⟩, fun _ _ _ e => e, hdS, List.nodup_nil, (fun _ z => nomatch z), (fun _ z => nomatch z), by decide, by decide⟩, fun e => absurd e (by decide)⟩ (fun σ H2 hP => ?_) (fun σ H2 Q1 Q2 m h => ?_)
  · obtain ⟨m, zs, hG, hcl⟩ := hP
    obtain ⟨⟨y4, y5, y6, y7, y8, rfl⟩, bar, hd2, nd, sub, snd, m0, m1⟩ := id hG
    have zl := lenZ nd sub
    have ln : (zs.map V.str).length = zs.length := List.length_map ..
    refine ⟨.int m, rfl, .ref d, rfl, d, _, rfl, .inl (SqL.of hd2), m, _, rfl, rfl, _, rfl, ite2 (fun e => ?_) (fun e => ?_)⟩
    · have lt : m < ((zs.map V.str).length : Int) := of_decide_eq_true e
      refine ⟨.ref d, rfl, d, _, rfl, .inl (SqL.of hd2), ?_⟩
      refine ⟨.ref l, rfl, l, rfl, ⟨_, SqL.of (bar _ _ nld (s0 _ _ hl))⟩, for_list (xs := ys) (fun i σ H3 => ∃ zs', Good σ H3 (zs.map V.str).length zs' ∧ zs.length ≤ zs'.length ∧ (zs'.length = zs.length → zs' = zs ∧ ∀ r ∈ S.take i, (∀ z ∈ r.2.2.1, z ∈ zs) → (∀ z ∈ r.2.2.2, z ∉ ws) → hd r ∈ zs)) ⟨zs, ⟨⟨_, _, _, _, _, rfl⟩, bar, hd2, nd, sub, snd, by omega, by omega⟩, Nat.le_refl _, fun _ => ⟨rfl, fun r hr => absurd hr (by simp)⟩⟩ (fun i σ H3 _ h => ?_) (fun i x σ H3 hx h => ?_) (fun σ H3 h => ?_)⟩
      · obtain ⟨zs', ⟨_, bar', _⟩, _⟩ := h
        exact SqL.of (bar' _ _ nld (s0 _ _ hl))
      · obtain ⟨zs', ⟨⟨x4, x5, x6, x7, x8, rfl⟩, bar', hd3, nd', sub', snd', a1, a2⟩, le', same'⟩ := h
        have zl' := lenZ nd' sub'
        obtain ⟨dd, hdd, hxd⟩ := dpAll_at' hys hx
        obtain ⟨r, hr0, rfl⟩ := map_at hdd
        have hrS : r ∈ S := List.mem_of_getElem? hr0
        have hr' := hI r hrS
        have st : Stay HS H3 := bar'.stay mutd
        obtain ⟨b0, v1, v2, v3, v4, rfl, hT, h1, h2, h3, h4⟩ := of_rd (st.rd (dp_same s0 _ _ hxd))
        obtain ⟨c1, rfl, t1⟩ := of_wd h1
        obtain ⟨c3, rfl, t3⟩ := of_wd h3
        obtain ⟨c4, rfl, t4⟩ := of_wd h4
        have eh := hd_of (hB r hrS)
        have f3 := hr'.n.few
        have f4 := hr'.b.few
        refine ⟨b0, _, rfl, hT, rfl, _, _, rfl, _, _, rfl, _, _, rfl, _, [], rfl, rfl, ?_⟩
        refine asg_op2 (lc_filter (K := K) (neg := true) (ms := zs') (ns := r.2.2.1) (i := 6) (j := 2) (t := c3) (c := d) rfl (by decide) rfl (by show 9 < 10; decide) hd3 t3 (by omega) fun H4 D1 s4 nD1 hD1 => ?_)
        refine lc_filter (K := K) (neg := false) (ms := ws) (ns := r.2.2.2) (i := 7) (j := 1) (t := c4) (c := b) rfl (by decide) rfl (by show 9 < 10; decide) (s4 _ _ (bar' _ _ nbd (s0 _ _ hb))) (same_tup s4 t4) (by omega) fun H5 D2 s5 nD2 hD2 => ?_
        let F1 : W := r.2.2.1.filter fun z => if true then !decide (z ∈ zs') else decide (z ∈ zs')
        let F2 : W := r.2.2.2.filter fun z => if false then !decide (z ∈ ws) else decide (z ∈ ws)
        have l1 : F1.length ≤ r.2.2.1.length := List.length_filter_le _ _
        have l2 : F2.length ≤ r.2.2.2.length := List.length_filter_le _ _
        refine ⟨D1, D2, F1.map V.str, F2.map V.str, rfl, rfl, s5 _ _ hD1, hD2, small_line (by rw [List.length_map, List.length_map]; omega), fun D3 hD3 => ?_⟩
        have s6 := same_new hD3 (.lst (F1.map V.str ++ F2.map V.str))
        have s46 := s4.trans (s5.trans s6)
        refine ⟨.ref D3, rfl, by show 0 ≤ sizeLine; decide, fun e0 he0 => ?_⟩
        have s7 := same_new he0 (.lst [])
        have s47 := s46.trans s7
        have nm12 : ∀ x ∈ F1 ++ F2, nameB x = true := fun x hx => by
          rcases List.mem_append.mp hx with h | h
          · exact hr'.n.names x (List.mem_filter.mp h).1
          · exact hr'.b.names x (List.mem_filter.mp h).1
        refine ⟨.list ((F1 ++ F2).map .str), .list [], .lst (SqL.of (s7 _ _ (by rw [upd_same, List.map_append]))) (dps_strs _), .lst (SqL.of upd_same) .nil, shaped_strs nm12, by decide, _, rfl, ?_⟩
        rw [eqv_nil]
        have hd7 := s47 _ _ hd3
        have ready : F1 ++ F2 = [] ↔ (∀ z ∈ r.2.2.1, z ∈ zs') ∧ ∀ z ∈ r.2.2.2, z ∉ ws := by
          rw [List.append_eq_nil_iff]
          constructor
          · rintro ⟨a, b⟩
            refine ⟨fun z hz => ?_, fun z hz h => ?_⟩
            · have := List.filter_eq_nil_iff.mp a z hz
              simpa using this
            · have := List.filter_eq_nil_iff.mp b z hz
              exact this (by simpa using h)
          · rintro ⟨a, b⟩
            refine ⟨List.filter_eq_nil_iff.mpr fun z hz => ?_, List.filter_eq_nil_iff.mpr fun z hz => ?_⟩
            · simpa using a z hz
            · simpa using b z hz
        have keep : (F1 ++ F2 ≠ [] ∨ hd r ∈ zs') → zs'.length = zs.length → zs' = zs ∧ ∀ r ∈ S.take (i + 1), (∀ z ∈ r.2.2.1, z ∈ zs) → (∀ z ∈ r.2.2.2, z ∉ ws) → hd r ∈ zs := fun h e => by
          obtain ⟨e0, hc⟩ := same' e
          refine ⟨e0, fun r2 hr2 hn hb2 => ?_⟩
          rw [take_snoc hr0] at hr2
          rcases List.mem_append.mp hr2 with z | z
          · exact hc r2 z hn hb2
          · rw [List.mem_singleton.mp z] at hn hb2 ⊢
            rcases h with h | h
            · exact absurd (ready.mpr ⟨fun x hx => e0 ▸ hn x hx, hb2⟩) h
            · exact e0 ▸ h
        refine ite2 (fun e1 => ?_) (fun e1 => ?_)
        · have e1' : F1 ++ F2 = [] := of_decide_eq_true e1
          have t1' := same_tup s47 t1
          refine ⟨.ref c1, rfl, c1, _, 0, .str (hd r), rfl, rfl, t1', by rw [eh]; rfl, .ref d, rfl, d, zs'.map V.str, rfl, .inl (SqL.of hd7), rfl, flat_strs zs', _, rfl, ?_⟩
          rw [inV_str]
          refine ite2 (fun e2 => ?_) (fun e2 => ?_)
          · have e2' : hd r ∉ zs' := by simpa using e2
            obtain ⟨g1, g2⟩ := ready.mp e1'
            refine ⟨.ref d, rfl, .inl ⟨rfl, _, SqL.of hd7⟩, .ref c1, rfl, c1, _, 0, .str (hd r), rfl, rfl, t1', by rw [eh]; rfl, d, _, _, rfl, rfl, hd7, small_line' (by rw [List.length_map]; omega), ?_⟩
            refine ⟨zs' ++ [hd r], ⟨⟨_, _, _, _, _, rfl⟩, (bar'.trans (.same s47)).trans .draw, by rw [upd_same, List.map_append]; rfl, nodup_snoc nd' e2', fun y hy => ?_, fun y hy => ?_, a1, by rw [List.length_append]; show _ ≤ ((zs'.length + 1 : Nat) : Int); omega⟩, by rw [List.length_append]; omega, fun e => ?_⟩
            · rcases List.mem_append.mp hy with h | h
              · exact sub' y h
              · rw [List.mem_singleton.mp h]
                exact List.mem_map.mpr ⟨r, hrS, rfl⟩
            · rcases List.mem_append.mp hy with h | h
              · exact snd' y h
              · rw [List.mem_singleton.mp h]
                exact .mk r hrS g2 fun z hz => snd' z (g1 z hz)
            · rw [List.length_append] at e
              have : zs'.length + 1 = zs.length := e
              omega
          · exact ⟨zs', ⟨⟨_, _, _, _, _, rfl⟩, bar'.trans (.same s47), hd7, nd', sub', snd', a1, a2⟩, le', keep (.inr (by simpa using e2))⟩
        · have e1' : F1 ++ F2 ≠ [] := fun h => e1 (decide_eq_true h)
          exact ⟨zs', ⟨⟨_, _, _, _, _, rfl⟩, bar'.trans (.same s47), hd7, nd', sub', snd', a1, a2⟩, le', keep (.inl e1')⟩
      · obtain ⟨zs', hG', le', same'⟩ := h
        obtain ⟨⟨x4, x5, x6, x7, x8, rfl⟩, _⟩ := id hG'
        refine ⟨⟨_, zs', hG', fun e => ?_⟩, ?_⟩
        · have e' : zs'.length = zs.length := by
            rw [ln] at e
            omega
          obtain ⟨rfl, hc⟩ := same' e'
          rw [yl, List.take_length] at hc
          exact hc
        · show ((S.length : Int) - ((zs.map V.str).length : Int)).toNat < ((S.length : Int) - m).toNat
          omega
    · have eq : m = zs.length := by
        have : ¬ m < ((zs.map V.str).length : Int) := fun h => e (decide_eq_true h)
        omega
      refine ⟨.ref d, rfl, q H2 d zs (fun c u h => bar c u (fun z => by rw [z, hd0] at h; cases h) (s0 _ _ h)) hd0 hd2 zl fun y => ⟨snd y, fun h => ?_⟩⟩
      induction h with
      | mk r hr hm _ ih => exact hcl eq r hr ih hm
  · obtain ⟨a1, b1, a2, b2, p, ys, e, sq, i, j, e1, e2, k, ek, q⟩ := h
    exact ⟨a1, b1, a2, b2, p, ys, e, sq, i, j, e1, e2, k, ek, m _ _ q⟩
end
end Rw
namespace Rw
open PySem PySem.Spec PyProof.Rows L2
/-! ### _law_values -/
theorem mergeK_new : ∀ {more kvs : List (Key × V)}, ((kvs ++ more).map Prod.fst).Nodup → mergeK kvs more = kvs ++ more
  | [], kvs, _ => by
    rw [List.append_nil]
    rfl
  | p :: more, kvs, h => by
    have e : kvs.any (fun kv => decide (kv.1 = p.1)) = false := by
      rw [List.any_eq_false]
      intro q hq
      simp only [decide_eq_true_eq]
      intro e
      rw [List.map_append, List.nodup_append] at h
      exact h.2.2 q.1 (List.mem_map.mpr ⟨q, hq, rfl⟩) p.1 (List.mem_map.mpr ⟨p, List.mem_cons_self, rfl⟩) e
    show mergeK (putK kvs p.1 p.2) more = _
    have e2 : putK kvs p.1 p.2 = kvs ++ [p] := by
      unfold putK
      rw [if_neg (by rw [e]; exact Bool.false_ne_true)]
    rw [e2, mergeK_new (by rw [List.append_assoc]; exact h), List.append_assoc]
    rfl
theorem nd_merge {ns : W} {g : Str → V} (h : ns.Nodup) : mergeK [] (ns.map fun z => ((.inr z : Key), g z)) = ns.map fun z => ((.inr z : Key), g z) := by
  have e := mergeK_new (kvs := []) (more := ns.map fun z => ((.inr z : Key), g z)) (by
    rw [List.nil_append, List.map_map]
    exact List.Pairwise.map _ (fun a b hab e => hab (Sum.inr.inj e)) h)
  rw [e, List.nil_append]
def rIntB : List V → Hp → VK → Prop := fun xs H Q => (∃ i, xs = [V.int i] ∧ Q (V.int i) H) ∨ ∃ k, xs = [V.bl k] ∧ Q (V.int (if k then 1 else 0)) H
theorem ix_two {K : PySem.W.Frag} {H : Hp} {a : Addr} {x y : V} {b : Bool} {Q : VK} (h : SqL K H a [x, y]) (q : Q (if b then y else x) H) : rIxL K (.ref a) (.int (if b then 1 else 0)) H Q := by
  cases b with
  | false => exact ⟨a, _, 0, x, rfl, rfl, h, atI_nat (j := 0) rfl, q⟩
  | true => exact ⟨a, _, 1, y, rfl, rfl, h, atI_nat (j := 1) rfl, q⟩
theorem paired_end {α β : Type} {F : α → β → Prop} {a : α} {b : β} (h : F a b) : ∀ {l : List α} {m : List β}, Paired F l m → Paired F (l ++ [a]) (m ++ [b])
  | [], [], _ => .cons h .nil
  | _ :: _, _ :: _, .cons p t => .cons p (paired_end h t)
theorem mut_lst {H : Hp} {D : Addr} {xs : List V} (h : H D = some (.lst xs)) : Mut (H D) := by
  rw [h]
  exact True.intro
theorem lc_body {K : PySem.W.Frag} {σ : L2.St} {j o : Nat} {ms : W} {neg : Bool} {H H1 : Hp} {D c : Addr} {z : Str} {ns : W} {i : Nat} {Pn : Hp → Prop} (hz : ns[i]? = some z) (hD : H D = none) (hj : j ≠ o) (hσ : σ[j]? = some (some (.ref c))) (hl : o < σ.length) (hc : H1 c = some (.lst (ms.map V.str))) (few : ns.length ≤ 1000)
    (sm : Same H H1) (hd : H1 D = some (.lst (((ns.take i).filter fun z => if neg then !decide (z ∈ ms) else decide (z ∈ ms)).map V.str))) (q : ∀ H2, Same H H2 → H2 D = some (.lst (((ns.take (i + 1)).filter fun z => if neg then !decide (z ∈ ms) else decide (z ∈ ms)).map V.str)) → Pn H2) :
    gName o (.str z) (wipe σ [o]) H1 fun σ2 H2 => wipe σ2 [o] = wipe σ [o] ∧ tTest (tOp (rIn K neg) (tVar o) (tVar j)) σ2 H2 fun b H3 =>
      if b = true then tVar o σ2 H3 fun y H4 => ∃ acc, H4 D = some (.lst acc) ∧ acc.length < sizeLine ∧ Pn (upd H4 D (.lst (acc ++ [y]))) else Pn H3 := by
  have w9 : ((wipe σ [o]).set o (some (V.str z)))[o]? = some (some (V.str z)) := by
    show ((σ.set o none).set o (some (V.str z)))[o]? = _
    rw [List.set_set, List.getElem?_set_self hl]
  have wj : ((wipe σ [o]).set o (some (V.str z)))[j]? = some (some (V.ref c)) := by
    show ((σ.set o none).set o (some (V.str z)))[j]? = _
    rw [List.set_set, List.getElem?_set_ne (Ne.symm hj)]
    exact hσ
  have ww : wipe ((wipe σ [o]).set o (some (V.str z))) [o] = wipe σ [o] := by
    show ((σ.set o none).set o (some (V.str z))).set o none = σ.set o none
    rw [List.set_set, List.set_set]
  have il : i < ns.length := (List.getElem?_eq_some_iff.mp hz).1
  refine ⟨ww, .str z, w9, .ref c, wj, c, ms.map V.str, rfl, .inl (SqL.of hc), rfl, flat_strs ms, _, rfl, ?_⟩
  rw [inV_str]
  refine ite2 (fun e => ?_) (fun e => ?_)
  · refine ⟨.str z, w9, _, hd, small_line' ?_, q _ (same_put sm hD) ?_⟩
    · rw [List.length_map]
      have := List.length_filter_le (fun z => if neg then !decide (z ∈ ms) else decide (z ∈ ms)) (ns.take i)
      rw [List.length_take] at this
      omega
    · rw [upd_same, filt_t hz (show (if neg then !decide (z ∈ ms) else decide (z ∈ ms)) = true from e), List.map_append]
      rfl
  · refine q _ sm ?_
    rw [filt_f hz (show (if neg then !decide (z ∈ ms) else decide (z ∈ ms)) = false from (Bool.not_eq_true _).mp e)]
    exact hd
theorem lc_filterT {K : PySem.W.Frag} {σ : L2.St} {H : Hp} {Q : VK} {t c : Addr} {i j o : Nat} {ns ms : W} {neg : Bool} (h0 : σ[i]? = some (some (.ref t))) (hj : j ≠ o) (hσ : σ[j]? = some (some (.ref c))) (hl : o < σ.length) (hc : H c = some (.lst (ms.map V.str))) (ht : SqT K H t (ns.map V.str)) (few : ns.length ≤ 1000)
    (q : ∀ H' D, Same H H' → H D = none → H' D = some (.lst ((ns.filter fun z => if neg then !decide (z ∈ ms) else decide (z ∈ ms)).map V.str)) → Q (.ref D) H') :
    tLc (iTup K (tVar i)) (gName o) (tTest (tOp (rIn K neg) (tVar o) (tVar j))) (tVar o) [o] σ H Q := by
  refine ⟨.ref t, h0, t, rfl, ⟨_, ht⟩, fun D hD => ?_⟩
  refine lc_tup (xs := ns.map V.str) (fun n H1 => Same H H1 ∧ H1 D = some (.lst (((ns.take n).filter fun z => if neg then !decide (z ∈ ms) else decide (z ∈ ms)).map V.str))) ⟨same_new hD _, upd_same⟩ (fun n H1 _ h => same_tup h.1 ht) (fun n x H1 hx h => ?_) (fun H1 h => ?_)
  · obtain ⟨z, hz, rfl⟩ := map_at hx
    exact lc_body hz hD hj hσ hl (h.1 _ _ hc) few h.1 h.2 fun H2 a b => ⟨a, b⟩
  · obtain ⟨sm, hd⟩ := h
    rw [List.length_map, List.take_length] at hd
    exact q H1 D sm hD hd
theorem lc_filterL {K : PySem.W.Frag} {σ : L2.St} {H : Hp} {Q : VK} {t c : Addr} {i j o : Nat} {ns ms : W} {neg : Bool} (h0 : σ[i]? = some (some (.ref t))) (hj : j ≠ o) (hσ : σ[j]? = some (some (.ref c))) (hl : o < σ.length) (hc : H c = some (.lst (ms.map V.str))) (ht : H t = some (.lst (ns.map V.str))) (few : ns.length ≤ 1000)
    (q : ∀ H' D, Same H H' → H D = none → H' D = some (.lst ((ns.filter fun z => if neg then !decide (z ∈ ms) else decide (z ∈ ms)).map V.str)) → Q (.ref D) H') :
    tLc (iList K (tVar i)) (gName o) (tTest (tOp (rIn K neg) (tVar o) (tVar j))) (tVar o) [o] σ H Q := by
  refine ⟨.ref t, h0, t, rfl, ⟨_, SqL.of ht⟩, fun D hD => ?_⟩
  refine lc_list (xs := ns.map V.str) (fun n H1 => Same H H1 ∧ H1 D = some (.lst (((ns.take n).filter fun z => if neg then !decide (z ∈ ms) else decide (z ∈ ms)).map V.str))) ⟨same_new hD _, upd_same⟩ (fun n H1 _ h => SqL.of (h.1 _ _ ht)) (fun n x H1 hx h => ?_) (fun H1 h => ?_)
  · obtain ⟨z, hz, rfl⟩ := map_at hx
    exact lc_body hz hD hj hσ hl (h.1 _ _ hc) few h.1 h.2 fun H2 a b => ⟨a, b⟩
  · obtain ⟨sm, hd⟩ := h
    rw [List.length_map, List.take_length] at hd
    exact q H1 D sm hD hd
/-! the turns -/
structure VI (S : List Rl) (ns : W) (i : Nat) (T F : W) : Prop where
  nd : T.Nodup
  sub : ∀ y ∈ T, y ∈ ns
  tt : ∀ y ∈ T, TT S (nmP S) y
  ff : ∀ y ∈ F, FF S (nmP S) y
  f0 : i ≠ 0 → ∀ y, nmP S y → (y ∈ F ↔ ¬ ReachP S (· ∈ T) y)
  cl : i ≠ 0 → Closed S (nmP S) (· ∈ T) (· ∈ F) ∨ i ≤ T.length + 1
/-- within a turn, when the first i rules have been looked at -/
structure VJ (S : List Rl) (ns : W) (i : Nat) (T F T' : W) : Prop where
  nd : T'.Nodup
  sub : ∀ y ∈ T', y ∈ ns
  tt : ∀ y ∈ T', TT S (nmP S) y
  le : T.length ≤ T'.length
  stay : T'.length = T.length → T' = T ∧ ∀ r ∈ S.take i, (∀ z ∈ r.2.2.1, z ∈ T) → (∀ z ∈ r.2.2.2, z ∈ F) → hd r ∈ T
section
variable {S : List Rl} {ns T F T' : W} {i : Nat}
theorem VI.start : VI S ns 0 [] [] := ⟨List.nodup_nil, (fun _ z => nomatch z), (fun _ z => nomatch z), (fun _ z => nomatch z), fun h => absurd rfl h, fun h => absurd rfl h⟩
theorem VI.go (h : VI S ns i T F) : VJ S ns 0 T F T := ⟨h.nd, h.sub, h.tt, Nat.le_refl _, fun _ => ⟨rfl, fun r hr => absurd hr (by simp)⟩⟩
theorem VJ.add {j : Nat} {r : Rl} (h : VJ S ns j T F T') (hr : S[j]? = some r) (hff : ∀ y ∈ F, FF S (nmP S) y) (hh : hd r ∈ ns) (hn : ∀ z ∈ r.2.2.1, z ∈ T') (hb : ∀ z ∈ r.2.2.2, z ∈ F) (no : hd r ∉ T') : VJ S ns (j + 1) T F (T' ++ [hd r]) := by
  refine ⟨nodup_snoc h.nd no, fun y hy => ?_, fun y hy => ?_, by rw [List.length_append]; exact Nat.le_trans h.le (Nat.le_add_right _ _), fun e => ?_⟩
  · rcases List.mem_append.mp hy with z | z
    · exact h.sub y z
    · rw [List.mem_singleton.mp z]
      exact hh
  · rcases List.mem_append.mp hy with z | z
    · exact h.tt y z
    · rw [List.mem_singleton.mp z]
      exact tt_closed.1 r (List.mem_of_getElem? hr) (fun z hz => h.tt z (hn z hz)) fun z hz => hff z (hb z hz)
  · rw [List.length_append] at e
    have := h.le
    have e : T'.length + 1 = T.length := e
    omega
theorem VJ.skip {j : Nat} {r : Rl} (h : VJ S ns j T F T') (hr : S[j]? = some r) (no : (∀ z ∈ r.2.2.1, z ∈ T') → (∀ z ∈ r.2.2.2, z ∈ F) → hd r ∈ T') : VJ S ns (j + 1) T F T' := by
  refine ⟨h.nd, h.sub, h.tt, h.le, fun e => ?_⟩
  obtain ⟨e0, hc⟩ := h.stay e
  refine ⟨e0, fun r2 hr2 hn hb => ?_⟩
  rw [take_snoc hr] at hr2
  rcases List.mem_append.mp hr2 with z | z
  · exact hc r2 z hn hb
  · rw [List.mem_singleton.mp z] at hn hb ⊢
    exact e0 ▸ no (fun x hx => e0.symm ▸ hn x hx) hb
theorem VJ.fin {F' : W} (h : VI S ns i T F) (h' : VJ S ns S.length T F T') (hn : ∀ z, z ∈ ns ↔ z ∈ namesL S) (hF : ∀ y, y ∈ F' ↔ y ∈ ns ∧ ¬ ReachP S (· ∈ T') y) : VI S ns (i + 1) T' F' := by
  have f0 : ∀ y, nmP S y → (y ∈ F' ↔ ¬ ReachP S (· ∈ T') y) := fun y n => (hF y).trans ⟨fun a => a.2, fun a => ⟨(hn y).mpr n, a⟩⟩
  refine ⟨h'.nd, h'.sub, h'.tt, fun y hy => ?_, fun _ => f0, fun _ => ?_⟩
  · obtain ⟨a, b⟩ := (hF y).mp hy
    exact ff_of (T := (· ∈ T')) h'.tt ((hn y).mp a) b
  · by_cases e : T'.length = T.length
    · obtain ⟨e0, hc⟩ := h'.stay e
      subst e0
      rw [List.take_length] at hc
      by_cases i0 : i = 0
      · right
        omega
      · left
        refine ⟨fun r hr a b => hc r hr a fun z hz => (h.f0 i0 z (bars_nm r hr z hz)).mpr ((f0 z (bars_nm r hr z hz)).mp (b z hz)), fun y n no => (f0 y n).mpr no⟩
    · by_cases i0 : i = 0
      · right
        omega
      · rcases h.cl i0 with c | c
        · exact absurd (Nat.le_antisymm (len_le h'.nd fun y hy => h'.tt y hy _ _ c) h'.le) e
        · right
          have := h'.le
          omega
theorem VI.done (h : VI S ns (2 * ns.length + 2) T F) : (∀ y, y ∈ T ↔ TT S (nmP S) y) ∧ ∀ y, y ∈ F ↔ FF S (nmP S) y := by
  have l : T.length ≤ ns.length := len_le h.nd h.sub
  rcases h.cl (by omega) with c | c
  · exact ⟨fun y => tt_end (T := (· ∈ T)) (F := (· ∈ F)) c h.tt, fun y => ff_end (T := (· ∈ T)) (F := (· ∈ F)) c h.ff⟩
  · omega
end
abbrev sLawValues : Stmt := topS 49
abbrev nLawValues : List Str := ["rules", "names", "true", "false", "turn", "heads", "denied", "needs", "bars", "open_ones", "reached", "name"]
theorem scLawValues : FnScope ["rules", "names", "true", "false", "turn", "heads", "denied", "needs", "bars", "open_ones", "reached", "name"] ["rules", "names"] (defScope sLawValues) := ⟨rfl, rfl, rfl, by decide +kernel, rfl, by decide +kernel, by decide +kernel⟩
section
variable {P : Program} {w : World} {K : PySem.W.Frag} {mg : Str → Option Value} {base : Heap} {f : Addr} {fd : FuncData} {k : Nat}
def spLawValues (K : PySem.W.Frag) : Sp := fun vs H Q _ => ∃ (l n : Addr) (S : List Rl) (ns : W), vs = [.ref l, .ref n] ∧ RL K H l S ∧ (∀ r ∈ S, IsR r) ∧ (∀ r ∈ S, basicB r = true) ∧ S.length < 64 ∧ H n = some (.lst (ns.map V.str)) ∧ ns.Nodup ∧ ns.length ≤ 40 ∧ (∀ z, z ∈ ns ↔ z ∈ namesL S) ∧
  ∀ (H' : Hp) (D : Addr) (g : Str → V), Same H H' → H D = none → H' D = some (ND ns g) → (∀ z ∈ ns, (TT S (nmP S) z → g z = .bl true) ∧ (FF S (nmP S) z → g z = .bl false) ∧ (¬ TT S (nmP S) z → ¬ FF S (nmP S) z → g z = .non)) → Q (.ref D) H'
theorem ok_lawValues {f1 : Addr} {fd1 : FuncData} (F : Fun K "_law_values" "_law_values" sLawValues f fd) (T : Bl mg) (Td : mg "dict" = none) (G1 : FnOk P w K mg base CX0 k f1 fd1 ["rules", "barring"] (spLawClosed K)) (b1 : Binds K fd1 ["rules", "barring"] []) (k1 : PySem.W.keepIn K (.ref f1) = true) (m1 : mg "_law_closed" = some (.ref f1)) :
    FnOk P w K mg base CX0 (k + 1) f fd ["rules", "names"] (spLawValues K) := by
  refine F.ok scLawValues (fun vs H Q E h => ?_) (fun cdv A outer s H vs Q E hr h => ?_)
  · obtain ⟨l, n, S, ns, rfl, _⟩ := h
    rfl
  obtain ⟨l, n, S, ns, rfl, ⟨ys, hl, hys⟩, hI, hB, few, hn, nn, n40, hmem, q⟩ := h
  refine ⟨_, pss_cons (ps_asg (pe_tup (pa_cons (pe_lst pa_nil) (pa_cons (pe_lst pa_nil) pa_nil))) (pg_tup (by rfl) (pgs_cons (pg_name (i := 2) scLawValues.nd rfl (.inr rfl)) (pgs_cons (pg_name (i := 3) scLawValues.nd rfl (.inr rfl)) pgs_nil))))
    (pss_cons (ps_for PassesOwn.never rfl (pi_range1 rfl T.range (pa_cons (pe_op op_add (pe_op op_mul pe_int (pe_callB call_len_seq (by rfl) T.len PySem.boot_len (pa_cons (pv 1) pa_nil))) pe_int) pa_nil)) (pg_name (i := 4) scLawValues.nd rfl (.inl rfl))
      (pss_cons (ps_for PassesOwn.never rfl (pi_list (pv 0)) (pg_tup (by rfl) (pgs_cons (pg_name (i := 5) scLawValues.nd rfl (.inl rfl)) (pgs_cons (pg_name (i := 6) scLawValues.nd rfl (.inl rfl)) (pgs_cons (pg_name (i := 7) scLawValues.nd rfl (.inl rfl)) (pgs_cons (pg_name (i := 8) scLawValues.nd rfl (.inl rfl)) pgs_nil)))))
        (pss_cons (ps_set (i := 9) scLawValues.nd rfl (.inl rfl) (pe_op op_cat
          (pe_lc (own := [("name", 11)]) (g := gName 11) (by rfl) scLawValues.nd (pi_tup (pv 7)) (blkOk_by (N := nLawValues) (sc := defScope sLawValues) (by decide +kernel)) (fun _ _ _ _ _ => pg_name (i := 11) scLawValues.nd rfl (Or.inl rfl)) (fun _ _ _ _ _ => pts_one (pt_cmpR (r := rIn K true) op_notIn_seq (pv 11) (pv 2) (by rfl))) (fun _ _ _ _ _ => pv 11))
          (pe_lc (own := [("name", 11)]) (g := gName 11) (by rfl) scLawValues.nd (pi_tup (pv 8)) (blkOk_by (N := nLawValues) (sc := defScope sLawValues) (by decide +kernel)) (fun _ _ _ _ _ => pg_name (i := 11) scLawValues.nd rfl (Or.inl rfl)) (fun _ _ _ _ _ => pts_one (pt_cmpR (r := rIn K true) op_notIn_seq (pv 11) (pv 3) (by rfl))) (fun _ _ _ _ _ => pv 11))))
        (pss_one (ps_if (PW.pt (pw_and (pt_cmpR (op_eqD hr.units) (pv 9) (pe_lst pa_nil) (nomark _)) (pw_and1 (pt_cmpR (r := rIn K true) op_notIn_seq (pe_ix ix_tup (pv 5) pe_int (fun _ _ => rfl)) (pv 2) (by rfl)))))
          (pss_one (ps_expr (pe_bm PySem.F.plainAttrs_list PySem.F.slot_list_append PySem.F.type_list_append mt_append (pv 2) (pa_cons (pe_ix ix_tup (pv 5) pe_int (fun _ _ => rfl)) pa_nil)))) pss_nil))))
      (pss_cons (ps_set (i := 10) scLawValues.nd rfl (.inr rfl) (pe_call G1 hr (by rfl) m1 k1 b1 .nil pass0 (pa_cons (pv 0) (pa_cons (pv 2) pa_nil))))
      (pss_one (ps_set (i := 3) scLawValues.nd rfl (.inr rfl) (pe_lc (own := [("name", 11)]) (g := gName 11) (by rfl) scLawValues.nd (pi_list (pv 1)) (blkOk_by (N := nLawValues) (sc := defScope sLawValues) (by decide +kernel)) (fun _ _ _ _ _ => pg_name (i := 11) scLawValues.nd rfl (Or.inl rfl)) (fun _ _ _ _ _ => pts_one (pt_cmpR (r := rIn K true) op_notIn_seq (pv 11) (pv 10) (by rfl))) (fun _ _ _ _ _ => pv 11)))))))
    (pss_one (ps_ret (pe_callTy (call_dictP rfl) (by rfl) Td (by decide +kernel) (pa_cons
      (pe_lc (own := [("name", 11)]) (g := gName 11) (te := tTup (tCons (tVar 11) (tCons (tOp (rIxL K) (tLst (tCons (tOp (rIxL K) (tLst (tCons (tC .non) (tCons (tC (.bl true)) tNil))) (tCB rIntB (tCons (tOp (rIn K false) (tVar 11) (tVar 2)) tNil))) (tCons (tC (.bl false)) tNil))) (tCB rIntB (tCons (tOp (rIn K false) (tVar 11) (tVar 3)) tNil))) tNil))) (by rfl) scLawValues.nd (pi_list (pv 1)) (blkOk_by (N := nLawValues) (sc := defScope sLawValues) (by decide +kernel)) (fun _ _ _ _ _ => pg_name (i := 11) scLawValues.nd rfl (Or.inl rfl)) (fun _ _ _ _ _ => pts_nil)
        (fun _ _ _ _ _ => pe_tup (pa_cons (pv 11) (pa_cons (pe_ix ix_list (pe_lst (pa_cons (pe_ix ix_list (pe_lst (pa_cons pe_non (pa_cons pe_bl pa_nil))) (pe_callTy (r := rIntB) call_int1 (by rfl) T.int (by decide +kernel) (pa_cons (pe_cmpR (r := rIn K false) op_in_seq (pv 11) (pv 2) (by rfl)) pa_nil)) (fun _ _ => rfl)) (pa_cons pe_bl pa_nil))) (pe_callTy (r := rIntB) call_int1 (by rfl) T.int (by decide +kernel) (pa_cons (pe_cmpR (r := rIn K false) op_in_seq (pv 11) (pv 3) (by rfl)) pa_nil)) (fun _ _ => rfl)) pa_nil)))) pa_nil))))), ?_⟩
  have yl : ys.length = S.length := by rw [dpAll_len hys, List.length_map]
  have ln : (ns.map V.str).length = ns.length := List.length_map ..
  refine ⟨by show 0 ≤ sizeLine; decide, fun dT h1 => ⟨by show 0 ≤ sizeLine; decide, fun dF h2 => ⟨by show 2 ≤ sizeLine; decide, fun t0 h3 => ⟨t0, [.ref dT, .ref dF], rfl, SqT.of upd_same, rfl, _, _, rfl, _, [], rfl, rfl, ?_⟩⟩⟩⟩
  have s1 := same_new h1 (.lst [])
  have s2 := same_new h2 (.lst [])
  have s3 := same_new h3 (.tup [.ref dT, .ref dF])
  let HS : Hp := upd (upd (upd H dT (.lst [])) dF (.lst [])) t0 (.tup [.ref dT, .ref dF])
  have hdT : HS dT = some (.lst []) := (s2.trans s3) _ _ upd_same
  have hdF : HS dF = some (.lst []) := s3 _ _ upd_same
  have nFT : dF ≠ dT := fun z => by
    rw [z, upd_same] at h2
    cases h2
  have sS : Same H HS := s1.trans (s2.trans s3)
  have mutT : Mut (HS dT) := by
    rw [hdT]
    exact True.intro
  have nlT : l ≠ dT := fun z => by
    rw [z, h1] at hl
    cases hl
  have nnT : n ≠ dT := fun z => by
    rw [z, h1] at hn
    cases hn
  have atl : ∀ {H'}, Bar dT HS H' → H' l = some (.lst ys) := fun b => b _ _ nlT (sS _ _ hl)
  have atn : ∀ {H'}, Bar dT HS H' → H' n = some (.lst (ns.map V.str)) := fun b => b _ _ nnT (sS _ _ hn)
  refine ⟨.ref n, rfl, n, _, rfl, .inl (SqL.of (sS _ _ hn)), _, _, rfl, rfl, .inl ⟨by decide, by decide⟩, _, _, rfl, rfl, ?_⟩
  refine ⟨2 * ((ns.map V.str).length : Int) + 2, rfl, by omega, by omega, ?_⟩
  have cnt : (2 * ((ns.map V.str).length : Int) + 2).toNat = 2 * ns.length + 2 := by rw [ln]; omega
  refine for_range (n := (2 * ((ns.map V.str).length : Int) + 2).toNat) (fun i σ H1 => (∃ (dF' : Addr) (Fi : W), (∃ y4 y5 y6 y7 y8 y9 y10, σ = [some (.ref l), some (.ref n), some (.ref dT), some (.ref dF'), y4, y5, y6, y7, y8, y9, y10, none]) ∧ dF' ≠ dT ∧ H1 dF' = some (.lst (Fi.map V.str)) ∧ ∃ Ti : W, H1 dT = some (.lst (Ti.map V.str)) ∧ VI S ns i Ti Fi) ∧ Bar dT HS H1) ⟨⟨dF, [], ⟨_, _, _, _, _, _, _, rfl⟩, nFT, hdF, [], hdT, VI.start⟩, fun _ _ _ e => e⟩ (fun i σ H1 hi hP => ?_) (fun σ H1 hP => ?_)
  · obtain ⟨⟨dF', Fi, ⟨y4, y5, y6, y7, y8, y9, y10, rfl⟩, nF', hF', Ti, hT', hV⟩, bar⟩ := hP
    refine ⟨.ref l, rfl, l, rfl, ⟨_, SqL.of (atl bar)⟩, for_list (xs := ys) (fun j σ H2 => (∃ y5 y6 y7 y8 y9, σ = [some (.ref l), some (.ref n), some (.ref dT), some (.ref dF'), some (.int (0 + (i : Int))), y5, y6, y7, y8, y9, y10, none]) ∧ Bar dT HS H2 ∧ H2 dF' = some (.lst (Fi.map V.str)) ∧ ∃ T' : W, H2 dT = some (.lst (T'.map V.str)) ∧ VJ S ns j Ti Fi T') ⟨⟨_, _, _, _, _, rfl⟩, bar, hF', Ti, hT', hV.go⟩ (fun j σ H2 _ h => SqL.of (atl h.2.1)) (fun j x σ H2 hx h => ?_) (fun σ H2 h => ?_)⟩
    · obtain ⟨⟨x5, x6, x7, x8, x9, rfl⟩, bar2, hF2, T', hT2, hJ⟩ := h
      obtain ⟨dd, hdd, hxd⟩ := dpAll_at' hys hx
      obtain ⟨r, hr0, rfl⟩ := map_at hdd
      have hrS : r ∈ S := List.mem_of_getElem? hr0
      have hr' := hI r hrS
      obtain ⟨b0, v1, v2, v3, v4, rfl, hT, g1, g2, g3, g4⟩ := of_rd ((bar2.stay mutT).rd (dp_same sS _ _ hxd))
      obtain ⟨c1, rfl, t1⟩ := of_wd g1
      obtain ⟨c3, rfl, t3⟩ := of_wd g3
      obtain ⟨c4, rfl, t4⟩ := of_wd g4
      have eh := hd_of (hB r hrS)
      have f3 := hr'.n.few
      have f4 := hr'.b.few
      refine ⟨b0, _, rfl, hT, rfl, _, _, rfl, _, _, rfl, _, _, rfl, _, [], rfl, rfl, ?_⟩
      refine asg_op2 (lc_filterT (K := K) (neg := true) (ms := T') (ns := r.2.2.1) (i := 7) (j := 2) (o := 11) (t := c3) (c := dT) rfl (by decide) rfl (by show 11 < 12; decide) hT2 t3 (by omega) fun H4 D1 s4 nD1 hD1 => ?_)
      refine lc_filterT (K := K) (neg := true) (ms := Fi) (ns := r.2.2.2) (i := 8) (j := 3) (o := 11) (t := c4) (c := dF') rfl (by decide) rfl (by show 11 < 12; decide) (s4 _ _ hF2) (same_tup s4 t4) (by omega) fun H5 D2 s5 nD2 hD2 => ?_
      let F1 : W := r.2.2.1.filter fun z => if true then !decide (z ∈ T') else decide (z ∈ T')
      let F2 : W := r.2.2.2.filter fun z => if true then !decide (z ∈ Fi) else decide (z ∈ Fi)
      have l1 : F1.length ≤ r.2.2.1.length := List.length_filter_le _ _
      have l2 : F2.length ≤ r.2.2.2.length := List.length_filter_le _ _
      refine ⟨D1, D2, F1.map V.str, F2.map V.str, rfl, rfl, s5 _ _ hD1, hD2, small_line (by rw [List.length_map, List.length_map]; omega), fun D3 hD3 => ?_⟩
      have s6 := same_new hD3 (.lst (F1.map V.str ++ F2.map V.str))
      have s46 := s4.trans (s5.trans s6)
      refine ⟨.ref D3, rfl, by show 0 ≤ sizeLine; decide, fun e0 he0 => ?_⟩
      have s7 := same_new he0 (.lst [])
      have s47 := s46.trans s7
      have nm12 : ∀ x ∈ F1 ++ F2, nameB x = true := fun x hx => by
        rcases List.mem_append.mp hx with h | h
        · exact hr'.n.names x (List.mem_filter.mp h).1
        · exact hr'.b.names x (List.mem_filter.mp h).1
      refine ⟨.list ((F1 ++ F2).map .str), .list [], .lst (SqL.of (s7 _ _ (by rw [upd_same, List.map_append]))) (dps_strs _), .lst (SqL.of upd_same) .nil, shaped_strs nm12, by decide, _, rfl, ?_⟩
      rw [eqv_nil]
      have hd7 := s47 _ _ hT2
      have hf7 := s47 _ _ hF2
      have ready : F1 ++ F2 = [] ↔ (∀ z ∈ r.2.2.1, z ∈ T') ∧ ∀ z ∈ r.2.2.2, z ∈ Fi := by
        rw [List.append_eq_nil_iff]
        constructor
        · rintro ⟨a, b⟩
          refine ⟨fun z hz => ?_, fun z hz => ?_⟩
          · have := List.filter_eq_nil_iff.mp a z hz
            simpa using this
          · have := List.filter_eq_nil_iff.mp b z hz
            simpa using this
        · rintro ⟨a, b⟩
          refine ⟨List.filter_eq_nil_iff.mpr fun z hz => ?_, List.filter_eq_nil_iff.mpr fun z hz => ?_⟩
          · simpa using a z hz
          · simpa using b z hz
      refine ite2 (fun e1 => ?_) (fun e1 => ?_)
      · have e1' : F1 ++ F2 = [] := of_decide_eq_true e1
        have t1' := same_tup s47 t1
        refine ⟨.ref c1, rfl, c1, _, 0, .str (hd r), rfl, rfl, t1', by rw [eh]; rfl, .ref dT, rfl, dT, T'.map V.str, rfl, .inl (SqL.of hd7), rfl, flat_strs T', _, rfl, ?_⟩
        rw [inV_str]
        refine ite2 (fun e2 => ?_) (fun e2 => ?_)
        · have e2' : hd r ∉ T' := by simpa using e2
          obtain ⟨u1, u2⟩ := ready.mp e1'
          have hin : hd r ∈ ns := (hmem _).mpr (own_part hrS (t := r.1) (by unfold parts; simp) (by rw [eh]; simp))
          have zl := len_le hJ.nd hJ.sub
          refine ⟨.ref dT, rfl, .inl ⟨rfl, _, SqL.of hd7⟩, .ref c1, rfl, c1, _, 0, .str (hd r), rfl, rfl, t1', by rw [eh]; rfl, dT, _, _, rfl, rfl, hd7, small_line' (by rw [List.length_map]; omega), ?_⟩
          refine ⟨⟨_, _, _, _, _, rfl⟩, (bar2.trans (.same s47)).trans .draw, by rw [upd_ne nF']; exact hf7, T' ++ [hd r], by rw [upd_same, List.map_append]; rfl, hJ.add hr0 hV.ff hin u1 u2 e2'⟩
        · exact ⟨⟨_, _, _, _, _, rfl⟩, bar2.trans (.same s47), hf7, T', hd7, hJ.skip hr0 fun _ _ => by simpa using e2⟩
      · have e1' : F1 ++ F2 ≠ [] := fun h => e1 (decide_eq_true h)
        exact ⟨⟨_, _, _, _, _, rfl⟩, bar2.trans (.same s47), hf7, T', hd7, hJ.skip hr0 fun a b => absurd (ready.mpr ⟨a, b⟩) e1'⟩
    · obtain ⟨⟨x5, x6, x7, x8, x9, rfl⟩, bar2, hF2, T', hT2, hJ⟩ := h
      rw [yl] at hJ
      refine ⟨.ref l, rfl, .ref dT, rfl, l, dT, S, T', rfl, ⟨ys, atl bar2, (bar2.stay mutT).dpAll _ _ (okDs_rd S) (dpAll_same sS _ _ hys)⟩, hI, hB, few, hT2, fun H3 Dr zs s3' nDr hDr lzs hzs => ?_⟩
      dsimp only [gName, tAsg, List.map, List.set]
      refine lc_filterL (K := K) (neg := true) (ms := zs) (ns := ns) (i := 1) (j := 10) (o := 11) (t := n) (c := Dr) rfl (by decide) rfl (by show 11 < 12; decide) hDr (s3' _ _ (atn bar2)) (by omega) fun H4 D4 s4 nD4 hD4 => ?_
      have hT4 := s4 _ _ (s3' _ _ hT2)
      refine ⟨⟨D4, _, ⟨_, _, _, _, _, _, _, rfl⟩, fun z => ?_, hD4, T', hT4, hJ.fin hV hmem fun y => ?_⟩, bar2.trans (.same (s3'.trans s4))⟩
      · rw [z, s3' _ _ hT2] at nD4
        cases nD4
      · rw [List.mem_filter]
        simp only [if_true, Bool.not_eq_true', decide_eq_false_iff_not]
        rw [hzs]
  · obtain ⟨⟨dF', Fi, ⟨y4, y5, y6, y7, y8, y9, y10, rfl⟩, nF', hF', Ti, hT', hV⟩, bar⟩ := hP
    rw [cnt] at hV
    obtain ⟨eT, eF⟩ := hV.done
    let g : Str → V := fun z => if decide (z ∈ Fi) then .bl false else if decide (z ∈ Ti) then .bl true else .non
    refine ⟨.ref n, rfl, n, rfl, ⟨_, SqL.of (atn bar)⟩, fun D hD => ?_⟩
    refine lc_list (xs := ns.map V.str) (fun i H2 => Same H1 H2 ∧ ∃ ps : List Addr, H2 D = some (.lst (ps.map V.ref)) ∧ ps.length = i ∧ Paired (fun p (kv : Key × V) => SqT K H2 p [kV kv.1, kv.2]) ps ((ns.take i).map fun z => (.inr z, g z))) ⟨same_new hD _, [], upd_same, rfl, .nil⟩ (fun i H2 _ h => SqL.of (h.1 _ _ (atn bar))) (fun i x H2 hx h => ?_) (fun H2 h => ?_)
    · obtain ⟨sm, ps, hd2, pl, hps⟩ := h
      obtain ⟨z, hz, rfl⟩ := map_at hx
      have il : i < ns.length := (List.getElem?_eq_some_iff.mp hz).1
      refine ⟨rfl, .str z, rfl, by show 2 ≤ sizeLine; decide, fun a1 h1 => ?_⟩
      have z1 := same_new h1 (.lst [.non, .bl true])
      refine ⟨.str z, rfl, .ref dT, rfl, dT, _, rfl, .inl (SqL.of (z1 _ _ (sm _ _ hT'))), rfl, flat_strs _, .inr ⟨_, rfl, ?_⟩⟩
      rw [inV_str]
      refine ix_two (SqL.of upd_same) ?_
      refine ⟨by show 2 ≤ sizeLine; decide, fun a2 h2 => ?_⟩
      have z2 := same_new h2 (.lst [if decide (z ∈ Ti) then .bl true else .non, .bl false])
      refine ⟨.str z, rfl, .ref dF', rfl, dF', _, rfl, .inl (SqL.of (z2 _ _ (z1 _ _ (sm _ _ hF')))), rfl, flat_strs _, .inr ⟨_, rfl, ?_⟩⟩
      rw [inV_str]
      refine ix_two (SqL.of upd_same) ?_
      refine ⟨by show 2 ≤ sizeLine; decide, fun a3 h3 => ?_⟩
      have z3 := same_new h3 (.tup [.str z, g z])
      have z13 := z1.trans (z2.trans z3)
      refine ⟨_, z13 _ _ hd2, small_line' (by rw [List.length_map]; omega), same_put (sm.trans z13) hD, ps ++ [a3], ?_, by rw [List.length_append, pl]; rfl, ?_⟩
      · rw [upd_same, List.map_append]
        rfl
      · have st : Stay _ (upd _ D (.lst (ps.map V.ref ++ [V.ref a3]))) := .put (mut_lst (z13 _ _ hd2)) _
        rw [take_snoc hz, List.map_append]
        exact paired_end (F := fun p (kv : Key × V) => SqT K _ p [kV kv.1, kv.2]) (st.seq (SqT.of upd_same)) (Paired.mapP (F := fun p (kv : Key × V) => SqT K H2 p [kV kv.1, kv.2]) hps fun p kv h => ((Stay.same z13).trans st).seq h)
    · obtain ⟨sm, ps, hd2, pl, hps⟩ := h
      rw [List.length_map, List.take_length] at hps
      refine ⟨D, ps, _, rfl, SqL.of hd2, hps, fun D2 hD2 => ?_⟩
      rw [nd_merge nn]
      have s02 : Same H H2 := Same.trans (fun b u e => bar b u (fun z => by rw [z, h1] at e; cases e) (sS _ _ e)) sm
      refine q _ D2 g (s02.trans (same_new hD2 _)) (none_back s02 hD2) upd_same fun z hz => ⟨fun t => ?_, fun t => ?_, fun t1 t2 => ?_⟩
      · show (if decide (z ∈ Fi) then V.bl false else if decide (z ∈ Ti) then V.bl true else V.non) = _
        rw [decide_eq_false (fun h => tt_ff bars_nm t ((eF z).mp h)), decide_eq_true ((eT z).mpr t)]
        rfl
      · show (if decide (z ∈ Fi) then V.bl false else if decide (z ∈ Ti) then V.bl true else V.non) = _
        rw [decide_eq_true ((eF z).mpr t)]
        rfl
      · show (if decide (z ∈ Fi) then V.bl false else if decide (z ∈ Ti) then V.bl true else V.non) = _
        rw [decide_eq_false (fun h => t2 ((eF z).mp h)), decide_eq_false (fun h => t1 ((eT z).mp h))]
        rfl
end
end Rw
namespace Rw
open PySem PySem.Spec PyProof.Rows L2
/-! ### _law_caught -/
structure ErrK (K : PySem.W.Frag) (mg : Str → Option Value) (CE CB CR : Addr) : Prop where
  mE : mg "NotAProgram" = some (.ref CE)
  mB : mg "NotBasic" = some (.ref CB)
  mR : mg "RuleError" = some (.ref CR)
  eE : PySem.W.exmOne K (.ref CE) (.ref CR) = some true
  eB : PySem.W.exmOne K (.ref CB) (.ref CR) = some true
  cE : ExcC K CE
  cB : ExcC K CB
  nE : PySem.W.findIn K (.ref CE) "thing" = some none
  nB : PySem.W.findIn K (.ref CB) "culprit" = some none
  iEE : PySem.W.kitOne K (.ref CE) (.ref CE) = some true
  iBE : PySem.W.kitOne K (.ref CB) (.ref CE) = some false
  iBB : PySem.W.kitOne K (.ref CB) (.ref CB) = some true
theorem xf_of {K : PySem.W.Frag} {C : Addr} (h : ExcC K C) : XfC K C := ⟨h.hg, h.hk, h.hs, h.hd⟩
abbrev sLawCaught : Stmt := topS 50
theorem scLawCaught : FnScope ["way", "thing", "caught", "error"] ["way", "thing"] (defScope sLawCaught) := ⟨rfl, rfl, rfl, by decide +kernel, rfl, by decide +kernel, by decide +kernel⟩
/-- a list [a word, a thing] is handed back -/
def TL (Q : VK) (s : Str) (x : V) (H : Hp) : Prop := ∀ H2 l, Same H H2 → H2 l = some (.lst [.str s, x]) → Q (.ref l) H2
theorem TL.same {Q : VK} {H : Hp} {s : Str} {x : V} {H' : Hp} (h : TL Q s x H) (e : Same H H') : TL Q s x H' := fun H2 l a1 a2 => h H2 l (e.trans a1) a2
/-- what the errors tell -/
def TE' (CE CB : Addr) (Q : VK) : XK := fun cls d H' => ∃ (dd D : Addr) (x : V) (n : Str), d = some dd ∧ cls = .ref D ∧ H' dd = some (.xd [(n, x)]) ∧ ((D = CE ∧ n = "thing" ∧ TL Q "thing" x H') ∨ (D = CB ∧ n = "culprit" ∧ TL Q "rule" x H'))
section
variable {P : Program} {w : World} {K : PySem.W.Frag} {mg : Str → Option Value} {base : Heap} {f : Addr} {fd : FuncData} {k : Nat}
def spLawCaught (K : PySem.W.Frag) (C CE CB : Addr) : Sp := fun vs H Q _ => ∃ (way : Int) (v : V), vs = [.int way, v] ∧ 0 ≤ way ∧ way ≤ 5 ∧ ∀ H', Same H H' → BasP K C CE CB v H' (TE' CE CB Q) fun _ _ => False
theorem ok_lawCaught {C CE CB CR f1 f2 f3 : Addr} {fd1 fd2 fd3 : FuncData} (F : Fun K "_law_caught" "_law_caught" sLawCaught f fd) (T : Bl mg) (E : ErrK K mg CE CB CR)
    (G1 : FnOk P w K mg base (L2.CX P w) k f1 fd1 ["program"] (spValues K C CE CB)) (b1 : Binds K fd1 ["program"] []) (k1 : PySem.W.keepIn K (.ref f1) = true) (m1 : mg "values" = some (.ref f1))
    (G2 : FnOk P w K mg base (L2.CX P w) k f2 fd2 ["program"] (spRecord K C CE CB)) (b2 : Binds K fd2 ["program"] []) (k2 : PySem.W.keepIn K (.ref f2) = true) (m2 : mg "record" = some (.ref f2))
    (G3 : FnOk P w K mg base (L2.CX P w) k f3 fd3 ["program", "thing"] (spCheckRecord K C CE CB)) (b3 : Binds K fd3 ["program", "thing"] []) (k3 : PySem.W.keepIn K (.ref f3) = true) (m3 : mg "check_record" = some (.ref f3)) :
    FnOk P w K mg base CX0 (k + 1) f fd ["way", "thing"] (spLawCaught K C CE CB) := by
  refine F.ok scLawCaught (fun vs H Q E h => ?_) (fun cdv A outer s H vs Q E' hr h => ?_)
  · obtain ⟨way, v, rfl, h⟩ := h
    rfl
  obtain ⟨way, v, rfl, w0, w5, h⟩ := h
  refine ⟨_, pss_cons (ps_set (i := 2) scLawCaught.nd rfl (.inl rfl) pe_non)
    (pss_mid (ps_try_keep (i := 3) (j := 2) rfl rfl scLawCaught.nd rfl rfl ⟨rfl, by decide, .inl E.mR⟩ rfl rfl rfl rfl (by decide) (by decide) (by rfl) (fun W pn xe tk po =>
        pss_one (ps_if (pt_cmpR op_eq (pv 0) pe_int (nomark _))
          (pss_one (ps_expr (pe_callS G1 hr (by rfl) m1 k1 b1 (fun σ => passAt tk σ) (pa_cons (pv 1) pa_nil))))
          (pss_one (ps_if (pt_cmpR op_eq (pv 0) pe_int (nomark _))
            (pss_one (ps_expr (pe_callS G2 hr (by rfl) m2 k2 b2 (fun σ => passAt tk σ) (pa_cons (pv 1) pa_nil))))
            (pss_one (ps_expr (pe_callS G3 hr (by rfl) m3 k3 b3 (fun σ => passAt tk σ) (pa_cons (pv 1) (pa_cons (pe_ix (r := rIxL K) ix_list (pe_lst (pa_cons pe_non (pa_cons (pe_tup pa_nil) (pa_cons (pe_tup (pa_cons pe_int pa_nil)) (pa_cons (pe_tup (pa_cons (pe_tup (pa_cons pe_str (pa_cons (pe_tup (pa_cons pe_str pa_nil)) pa_nil))) pa_nil)) pa_nil))))) (pe_op op_sub (pv 0) pe_int) (fun _ _ => rfl)) pa_nil)))))))))) 
    (pss_cons (ps_if (pt_val (pe_callB call_isH (by rfl) T.isi PyProof.Rows.boot_isinstance (pa_cons (pv 2) (pa_cons (pe_glob (v := .ref CE) (by rfl) E.mE rfl) pa_nil)))) (pss_one (ps_ret (pe_lst (pa_cons pe_str (pa_cons (pe_fldH (xf_of E.cE) E.nE (pv 2)) pa_nil))))) pss_nil)
    (pss_cons (ps_if (pt_val (pe_callB call_isH (by rfl) T.isi PyProof.Rows.boot_isinstance (pa_cons (pv 2) (pa_cons (pe_glob (v := .ref CB) (by rfl) E.mB rfl) pa_nil)))) (pss_one (ps_ret (pe_lst (pa_cons pe_str (pa_cons (pe_fldH (xf_of E.cB) E.nB (pv 2)) pa_nil))))) pss_nil)
    pss_never))), ?_⟩
  let I : L2.St → Hp → Prop := fun σ H' => ∃ (a dd D : Addr) (x : V) (n : Str), σ = [some (.int way), some v, some (.ref a), none] ∧ H' a = some (ExH (.ref D) (some dd) a) ∧ H' dd = some (.xd [(n, x)]) ∧ ((D = CE ∧ n = "thing" ∧ TL Q "thing" x H') ∨ (D = CB ∧ n = "culprit" ∧ TL Q "rule" x H'))
  have no : ∀ {i j : Int}, i ≠ j → V.bl (decide (V.int i = V.int j)) = V.bl false := fun n => congrArg V.bl (decide_eq_false fun e => n (by injection e))
  have yes : ∀ {i : Int}, V.bl (decide (V.int i = V.int i)) = V.bl true := congrArg V.bl (decide_eq_true rfl)
  have bad : ∀ cls d H', TE' CE CB Q cls d H' → PySem.W.exmOne K cls (.ref CR) = some true ∧ ∀ a, H' a = none → I [some (.int way), some v, some (.ref a), none] (upd H' a (ExH cls d a)) := fun cls d H' ⟨dd, D, x, n, e1, e2, h1, h2⟩ => by
    subst e1 e2
    refine ⟨?_, fun a ha => ⟨a, dd, D, x, n, rfl, upd_same, (same_new ha _) _ _ h1, ?_⟩⟩
    · rcases h2 with ⟨rfl, _⟩ | ⟨rfl, _⟩
      · exact E.eE
      · exact E.eB
    · have sa := same_new ha (ExH (.ref D) (some dd) a)
      rcases h2 with ⟨h, i, q⟩ | ⟨h, i, q⟩
      · exact .inl ⟨h, i, q.same sa⟩
      · exact .inr ⟨h, i, q.same sa⟩
  refine ⟨I, ?_, fun σ' H' hI => ?_⟩
  · by_cases c0 : way = 0
    · subst c0
      refine ⟨.int 0, rfl, rfl, true, yes, iteT ?_⟩
      refine ⟨v, rfl, ?_⟩
      dsimp only [tNil]
      exact ⟨v, rfl, (h H fun _ _ e => e).mono (fun cls d H' q => bad cls d H' q) fun S H1 _ _ _ _ z => z.elim⟩
    · refine ⟨.int way, rfl, rfl, false, no c0, iteF ?_⟩
      by_cases c1 : way = 1
      · subst c1
        refine ⟨.int 1, rfl, rfl, true, yes, iteT ?_⟩
        refine ⟨v, rfl, ?_⟩
        dsimp only [tNil]
        exact ⟨v, rfl, (h H fun _ _ e => e).mono (fun cls d H' q => bad cls d H' q) fun S H1 _ _ _ _ z => z⟩
      · refine ⟨.int way, rfl, rfl, false, no c1, iteF ?_⟩
        refine ⟨v, rfl, by show 0 ≤ sizeLine; decide, fun a1 h1 => ⟨by show 1 ≤ sizeLine; decide, fun a2 h2 => ⟨by show 1 ≤ sizeLine; decide, fun a3 h3 => ⟨by show 2 ≤ sizeLine; decide, fun a4 h4 => ⟨by show 1 ≤ sizeLine; decide, fun a5 h5 => ⟨by show 4 ≤ sizeLine; decide, fun a6 h6 => ?_⟩⟩⟩⟩⟩⟩
        have z1 := same_new h1 (.tup [])
        have z2 := same_new h2 (.tup [.int 7])
        have z3 := same_new h3 (.tup [.str "a"])
        have z4 := same_new h4 (.tup [.str "false", .ref a3])
        have z5 := same_new h5 (.tup [.ref a4])
        have z6 := same_new h6 (.lst [.non, .ref a1, .ref a2, .ref a5])
        obtain ⟨n, hn⟩ : ∃ n : Nat, way - 2 = n := ⟨(way - 2).toNat, by omega⟩
        have n4 : n < ([V.non, .ref a1, .ref a2, .ref a5] : List V).length := by show n < 4; omega
        refine ⟨.int way, rfl, way, 2, rfl, rfl, a6, _, n, _, rfl, congrArg V.int hn, SqL.of upd_same, atI_nat (List.getElem?_eq_getElem n4), ?_⟩
        dsimp only [tNil]
        exact ⟨v, _, rfl, (h _ (z1.trans (z2.trans (z3.trans (z4.trans (z5.trans z6)))))).mono (fun cls d H' q => bad cls d H' q) fun S H1 _ _ _ _ z => z⟩
  · obtain ⟨a, dd, D, x2, n, rfl, ha, hd, hs⟩ := hI
    have fld : ∀ n : Str, ([(n, x2)] : List (Str × V)).lookup n = some x2 := fun n => by
      rw [List.lookup_cons, beq_self_eq_true]
    rcases hs with ⟨rfl, rfl, q⟩ | ⟨rfl, rfl, q⟩
    · refine ⟨.ref a, rfl, .ref a, .ref _, .ref _, rfl, fun v r => r, .inr ⟨a, _, dd, _, true, rfl, ha, hd, E.cE, E.iEE, true, rfl, iteT ?_⟩⟩
      refine ⟨.ref a, rfl, a, dd, _, x2, rfl, ha, hd, fld _, by show 2 ≤ sizeLine; decide, fun l2 hl => ?_⟩
      exact q _ l2 (same_new hl _) upd_same
    · refine ⟨.ref a, rfl, .ref a, .ref _, .ref _, rfl, fun v r => r, .inr ⟨a, _, dd, _, false, rfl, ha, hd, E.cB, E.iBE, false, rfl, iteF ?_⟩⟩
      refine ⟨.ref a, rfl, .ref a, .ref _, .ref _, rfl, fun v r => r, .inr ⟨a, _, dd, _, true, rfl, ha, hd, E.cB, E.iBB, true, rfl, iteT ?_⟩⟩
      refine ⟨.ref a, rfl, a, dd, _, x2, rfl, ha, hd, fld _, by show 2 ≤ sizeLine; decide, fun l2 hl => ?_⟩
      exact q _ l2 (same_new hl _) upd_same
end
end Rw
namespace Rw
open PySem PySem.Spec PyProof.Rows L2
/-! ### comparisons of the very same -/
/-- [a word, a thing] -/
def pr2 (s : Str) (d : PyData) : PyData := .list [.str s, d]
/-- a thing that can be laid, not too deep -/
structure Lay (d : PyData) : Prop where
  lay : d.canLay0 = true
  dep : d.depth ≤ 20
theorem Lay.shaped {d : PyData} (h : Lay d) : SeqAt.shaped d = true := shaped_of h.lay (Nat.le_trans h.dep (by decide))
theorem Lay.list {ds : List PyData} (h : ∀ d ∈ ds, d.canLay0 = true ∧ d.depth ≤ 19) : Lay (.list ds) := by
  have e1 : ∀ ds : List PyData, (∀ d ∈ ds, d.canLay0 = true ∧ d.depth ≤ 19) → PyData.canLayAll0 ds = true ∧ PyData.depthAll ds ≤ 19 := by
    intro ds
    induction ds with
    | nil => exact fun _ => ⟨by simp [PyData.canLayAll0], by simp [PyData.depthAll]⟩
    | cons d t ih =>
      intro h
      obtain ⟨i1, i2⟩ := ih fun y hy => h y (List.mem_cons_of_mem _ hy)
      obtain ⟨j1, j2⟩ := h d List.mem_cons_self
      refine ⟨?_, ?_⟩
      · rw [PyData.canLayAll0, i1, j1]
        rfl
      · rw [PyData.depthAll]
        omega
  obtain ⟨i1, i2⟩ := e1 ds h
  refine ⟨?_, ?_⟩
  · rw [PyData.canLay0]
    exact i1
  · rw [PyData.depth]
    omega
theorem lay_pr2 {s : Str} {d : PyData} (hs : (PyData.str s).canLay0 = true) (h : d.canLay0 = true) (n : d.depth ≤ 19) : Lay (pr2 s d) := Lay.list fun x hx => by
  simp only [List.mem_cons, List.mem_nil_iff, or_false] at hx
  rcases hx with rfl | rfl
  · exact ⟨hs, by rw [PyData.depth]; decide⟩
  · exact ⟨h, n⟩
theorem lay_rules {S : List Rl} (h : ∀ r ∈ S, IsR r) : Lay (.list (S.map rd)) := Lay.list fun d hd => by
  obtain ⟨r, hr, rfl⟩ := List.mem_map.mp hd
  exact ⟨lay_rd (h r hr), Nat.le_trans (depth_rd r) (by decide)⟩
theorem lay_nms {ns : W} (h : ∀ x ∈ ns, nameB x = true) : Lay (.list (ns.map .str)) := Lay.list fun d hd => by
  obtain ⟨x, hx, rfl⟩ := List.mem_map.mp hd
  have e := lay_strs (ns := [x]) (fun y hy => by rw [List.mem_singleton.mp hy]; exact h x hx)
  refine ⟨?_, by rw [PyData.depth]; decide⟩
  rw [List.map_cons, List.map_nil, PyData.canLayAll0, Bool.and_eq_true] at e
  exact e.1
theorem depth_pr2 (s : Str) (d : PyData) : (pr2 s d).depth ≤ d.depth + 3 := by
  unfold pr2
  rw [PyData.depth, PyData.depthAll, PyData.depthAll, PyData.depthAll, PyData.depth]
  omega
section
variable {K : PySem.W.Frag} {H : Hp} {Q : VK} {d : PyData}
theorem ne_same {x y : V} (hx : Dp K H x d) (hy : Dp K H y d) (l : Lay d) (q : Q (.bl false) H) : rNeD K x y H Q := ⟨d, d, hx, hy, l.shaped, l.shaped, by rw [eqv_self l.shaped]; exact q⟩
theorem eq_same {x y : V} (hx : Dp K H x d) (hy : Dp K H y d) (l : Lay d) (q : Q (.bl true) H) : rEqD K x y H Q := ⟨d, d, hx, hy, l.shaped, l.shaped, by rw [eqv_self l.shaped]; exact q⟩
end
/-! ### sorted texts -/
theorem ris_of : ∀ (l : List Str) (p : Str), risingS p l = true → (∀ y ∈ l, p.cps.toList ≤ y.cps.toList) ∧ RisingX l
  | [], p, _ => ⟨(fun _ z => nomatch z), List.Pairwise.nil⟩
  | x :: r, p, h => by
    rw [risingS, Bool.and_eq_true] at h
    obtain ⟨h1, h2⟩ := h
    have le : p.cps.toList ≤ x.cps.toList := List.not_lt.mp fun c => by
      rw [ltCps_eq, decide_eq_true c] at h1
      cases h1
    obtain ⟨a, b⟩ := ris_of r x h2
    refine ⟨fun y hy => ?_, List.pairwise_cons.mpr ⟨fun y hy => decide_eq_true (a y hy), b⟩⟩
    rcases List.mem_cons.mp hy with e | e
    · rw [e]
      exact le
    · exact List.le_trans le (a y e)
theorem ris_sorted : ∀ {l : List Str}, sortedS l = true → RisingX l
  | [], _ => List.Pairwise.nil
  | x :: r, h => by
    obtain ⟨a, b⟩ := ris_of r x h
    exact List.pairwise_cons.mpr ⟨fun y hy => decide_eq_true (a y hy), b⟩
/-! ### dicts of names, walked -/
theorem same_unlock {H H' : Hp} {d : Addr} {u : HO} {od : Obj} (hd : H d = some u) (s : Same (upd H d (.frz od u)) H') : H' d = some (.frz od u) ∧ Same H (upd H' d u) := by
  refine ⟨s _ _ upd_same, fun b v e => ?_⟩
  by_cases z : b = d
  · subst z
    rw [upd_same, ← hd, e]
  · rw [upd_ne z]
    exact s _ _ (by rw [upd_ne z]; exact e)
theorem valV_nd {g : Str → V} {z : Str} : ∀ {ns : W}, z ∈ ns → valV (ns.map fun y => ((.inr y : Key), g y)) (.inr z) = some (g z)
  | [], h => nomatch h
  | y :: ns, h => by
    rw [List.map_cons]
    by_cases e : y = z
    · subst e
      exact valV_pos rfl
    · rw [valV_neg (fun q => e (Sum.inr.inj q))]
      rcases List.mem_cons.mp h with q | q
      · exact absurd q.symm e
      · exact valV_nd q
def Vl (x : V) : Prop := x = .non ∨ ∃ b, x = .bl b
def tellV : V → Str
  | .non => "None"
  | .bl b => if b then "True" else "False"
  | _ => ""
def rStrV : List V → Hp → VK → Prop := fun xs H Q => ∃ x, xs = [x] ∧ Vl x ∧ Q (.str (tellV x)) H
theorem call_strV {X : Cx} : CallR X (.type "str") rStrV := by
  intro pins s σ H xs us Q I r ⟨x, e, hx, q⟩
  subst e
  obtain ⟨u, rfl, ru⟩ := vals1 r
  rcases hx with rfl | ⟨b, rfl⟩
  · obtain rfl : u = Value.none := ru
    exact P.str_of_none ⟨.str (tellV .non), H, I.tok _, ⟨_, rfl⟩, q⟩
  · obtain rfl : u = Value.bool b := ru
    exact P.str_of_bool ⟨.str (tellV (.bl b)), H, I.tok _, ⟨_, rfl⟩, q⟩
theorem Vl.flat {x : V} (h : Vl x) : flatB x = true := by
  rcases h with rfl | ⟨b, rfl⟩ <;> rfl
section
variable {K : PySem.W.Frag} {σ : L2.St} {H : Hp} {Q : VK} {d d2 : Addr} {ns : W} {g g2 : Str → V} {te : TE} {i j o : Nat}
/-- [.. for name in d if d[name] not in (True, False, None)] -/
theorem told_a (h8 : σ[i]? = some (some (.ref d))) (hio : i ≠ o) (ho : o < σ.length) (hd : H d = some (ND ns g)) (hv : ∀ z ∈ ns, Vl (g z)) (q : ∀ H' D, Same H H' → H' D = some (.lst []) → Q (.ref D) H') :
    tLockE (tLc (iKeys (tVar i)) (gName o) (tTest (tOp (rIn K true) (tDGet (tVar i) (tVar o)) (tTup (tCons (tC (.bl true)) (tCons (tC (.bl false)) (tCons (tC .non) tNil)))))) te [o]) σ H Q := by
  refine ⟨d, _, hd, True.intro, fun od => ?_⟩
  refine ⟨.ref d, h8, d, od, rfl, .inl ⟨_, upd_same, fun D hD => ?_⟩⟩
  refine lc_it walk_keys (fun n H1 => Same (upd H d (.frz od (ND ns g))) H1 ∧ H1 D = some (.lst [])) ⟨same_new hD _, upd_same⟩ (fun n H1 _ h => h.1 _ _ upd_same) (fun n x H1 H1' hn h hy => ?_) (fun H1 h => ?_)
  · obtain ⟨rfl, k, v, hk, rfl⟩ := hy
    rw [List.getElem?_map] at hk
    obtain ⟨z, hz, ez⟩ := Option.map_eq_some_iff.mp hk
    cases ez
    have hz' : z ∈ ns := List.mem_of_getElem? hz
    have w9 : ((wipe σ [o]).set o (some (V.str z)))[o]? = some (some (V.str z)) := by
      show ((σ.set o none).set o (some (V.str z)))[o]? = _
      rw [List.set_set, List.getElem?_set_self ho]
    have wi : ((wipe σ [o]).set o (some (V.str z)))[i]? = some (some (V.ref d)) := by
      show ((σ.set o none).set o (some (V.str z)))[i]? = _
      rw [List.set_set, List.getElem?_set_ne (Ne.symm hio)]
      exact h8
    have ww : wipe ((wipe σ [o]).set o (some (V.str z))) [o] = wipe σ [o] := by
      show ((σ.set o none).set o (some (V.str z))).set o none = σ.set o none
      rw [List.set_set, List.set_set]
    refine ⟨ww, .ref d, wi, .str z, w9, d, g z, rfl, .inl ⟨_, .inr z, .inr ⟨od, h.1 _ _ upd_same⟩, rfl, (valV_nd hz').symm⟩, ?_⟩
    refine ⟨by show 3 ≤ sizeLine; decide, fun t ht => ?_⟩
    have st := same_new ht (.tup [.bl true, .bl false, .non])
    refine ⟨t, [.bl true, .bl false, .non], rfl, .inr (SqT.of upd_same), ?_⟩
    have e : inV (g z) [.bl true, .bl false, .non] = true := by
      rcases hv z hz' with e | ⟨b, e⟩
      · rw [e]
        decide
      · rw [e]
        cases b <;> decide
    refine ⟨?_, rfl, _, rfl, ?_⟩
    · rcases hv z hz' with e | ⟨b, e⟩ <;> rw [e] <;> rfl
    · rw [e]
      exact iteF ⟨h.1.trans st, st _ _ h.2⟩
  · obtain ⟨e1, e2⟩ := same_unlock hd h.1
    refine ⟨e1, q _ D e2 ?_⟩
    have ne : D ≠ d := fun z => by
      rw [z, e1] at h
      cases h.2
    rw [upd_ne ne]
    exact h.2
/-- [.. for name in d if str(d[name]) != str(d2[name])] -/
theorem told_b (h8 : σ[i]? = some (some (.ref d))) (h9 : σ[j]? = some (some (.ref d2))) (hio : i ≠ o) (hjo : j ≠ o) (ho : o < σ.length) (nd : d2 ≠ d) (hd : H d = some (ND ns g)) (hd2 : H d2 = some (ND ns g2)) (hv : ∀ z ∈ ns, Vl (g z)) (he : ∀ z ∈ ns, g z = g2 z) (q : ∀ H' D, Same H H' → H' D = some (.lst []) → Q (.ref D) H') :
    tLockE (tLc (iKeys (tVar i)) (gName o) (tTest (tOp rNe (tCB rStrV (tCons (tDGet (tVar i) (tVar o)) tNil)) (tCB rStrV (tCons (tDGet (tVar j) (tVar o)) tNil)))) te [o]) σ H Q := by
  refine ⟨d, _, hd, True.intro, fun od => ?_⟩
  refine ⟨.ref d, h8, d, od, rfl, .inl ⟨_, upd_same, fun D hD => ?_⟩⟩
  refine lc_it walk_keys (fun n H1 => Same (upd H d (.frz od (ND ns g))) H1 ∧ H1 D = some (.lst [])) ⟨same_new hD _, upd_same⟩ (fun n H1 _ h => h.1 _ _ upd_same) (fun n x H1 H1' hn h hy => ?_) (fun H1 h => ?_)
  · obtain ⟨rfl, k, v, hk, rfl⟩ := hy
    rw [List.getElem?_map] at hk
    obtain ⟨z, hz, ez⟩ := Option.map_eq_some_iff.mp hk
    cases ez
    have hz' : z ∈ ns := List.mem_of_getElem? hz
    have w9 : ((wipe σ [o]).set o (some (V.str z)))[o]? = some (some (V.str z)) := by
      show ((σ.set o none).set o (some (V.str z)))[o]? = _
      rw [List.set_set, List.getElem?_set_self ho]
    have wi : ((wipe σ [o]).set o (some (V.str z)))[i]? = some (some (V.ref d)) := by
      show ((σ.set o none).set o (some (V.str z)))[i]? = _
      rw [List.set_set, List.getElem?_set_ne (Ne.symm hio)]
      exact h8
    have wj : ((wipe σ [o]).set o (some (V.str z)))[j]? = some (some (V.ref d2)) := by
      show ((σ.set o none).set o (some (V.str z)))[j]? = _
      rw [List.set_set, List.getElem?_set_ne (Ne.symm hjo)]
      exact h9
    have ww : wipe ((wipe σ [o]).set o (some (V.str z))) [o] = wipe σ [o] := by
      show ((σ.set o none).set o (some (V.str z))).set o none = σ.set o none
      rw [List.set_set, List.set_set]
    have h2 : H1' d2 = some (ND ns g2) := h.1 _ _ (by rw [upd_ne nd]; exact hd2)
    refine ⟨ww, .ref d, wi, .str z, w9, d, g z, rfl, .inl ⟨_, .inr z, .inr ⟨od, h.1 _ _ upd_same⟩, rfl, (valV_nd hz').symm⟩, ?_⟩
    refine ⟨_, rfl, hv z hz', ?_⟩
    refine ⟨.ref d2, wj, .str z, w9, d2, g2 z, rfl, .inl ⟨_, .inr z, .inl h2, rfl, (valV_nd hz').symm⟩, ?_⟩
    refine ⟨_, rfl, he z hz' ▸ hv z hz', rfl, false, ?_, iteF h⟩
    rw [he z hz', decide_eq_true rfl]
    rfl
  · obtain ⟨e1, e2⟩ := same_unlock hd h.1
    refine ⟨e1, q _ D e2 ?_⟩
    have ne : D ≠ d := fun z => by
      rw [z, e1] at h
      cases h.2
    rw [upd_ne ne]
    exact h.2
end
/-! ### n answers in a list -/
def Ans (H0 : Hp) (D : Addr) (s : Str) (x : V) (i : Nat) (H : Hp) : Prop := Same H0 H ∧ ∃ ls : List Addr, ls.length = i ∧ H D = some (.lst (ls.map V.ref)) ∧ ∀ l ∈ ls, H l = some (.lst [.str s, x])
section
variable {K : PySem.W.Frag} {H0 H H2 : Hp} {D : Addr} {s : Str} {x : V} {d : PyData}
theorem Ans.start (hD : H0 D = none) : Ans H0 D s x 0 (upd H0 D (.lst [])) := ⟨same_new hD _, [], rfl, upd_same, fun _ z => nomatch z⟩
theorem Ans.step {i : Nat} {l : Addr} (h : Ans H0 D s x i H) (hD : H0 D = none) (hi : i < 1000) (e : Same H H2) (hl : H2 l = some (.lst [.str s, x])) : ∃ acc, H2 D = some (.lst acc) ∧ acc.length < sizeLine ∧ Ans H0 D s x (i + 1) (upd H2 D (.lst (acc ++ [.ref l]))) := by
  obtain ⟨sm, ls, h1, h2, h3⟩ := h
  have hD2 := e _ _ h2
  have ne : ∀ b, H2 b = some (.lst [.str s, x]) → b ≠ D := fun b hb z => by
    rw [z, hD2] at hb
    cases ls with
    | nil => cases hb
    | cons a t => cases hb
  refine ⟨_, hD2, small_line' (by rw [List.length_map]; omega), same_put (sm.trans e) hD, ls ++ [l], by rw [List.length_append, h1]; rfl, by rw [upd_same, List.map_append]; rfl, fun b hb => ?_⟩
  have hb2 : H2 b = some (.lst [.str s, x]) := by
    rcases List.mem_append.mp hb with z | z
    · exact e _ _ (h3 b z)
    · rw [List.mem_singleton.mp z]
      exact hl
  rw [upd_ne (ne b hb2)]
  exact hb2
theorem dp_rep {H : Hp} {d : PyData} : ∀ {ls : List Addr}, (∀ l ∈ ls, Dp K H (.ref l) d) → DpAll K H (ls.map V.ref) (List.replicate ls.length d)
  | [], _ => .nil
  | l :: ls, h => .cons (h l List.mem_cons_self) (dp_rep fun y hy => h y (List.mem_cons_of_mem _ hy))
theorem Ans.fin {n : Nat} (h : Ans H0 D s x n H) (hx : Dp K H x d) : Dp K H (.ref D) (.list (List.replicate n (pr2 s d))) := by
  obtain ⟨sm, ls, h1, h2, h3⟩ := h
  subst h1
  exact .lst (SqL.of h2) (dp_rep fun l hl => .lst (SqL.of (h3 l hl)) (.cons (.str s) (.cons hx .nil)))
theorem lay_rep {n : Nat} (hs : (PyData.str s).canLay0 = true) (h : d.canLay0 = true) (m : d.depth ≤ 10) : Lay (.list (List.replicate n (pr2 s d))) := Lay.list fun y hy => by
  have e := depth_pr2 s d
  rw [List.eq_of_mem_replicate hy]
  exact ⟨(lay_pr2 hs h (by omega)).lay, by omega⟩
theorem rep_flat (v : V) : ∀ n : Nat, (List.replicate n [v]).flatten = List.replicate n v
  | 0 => rfl
  | n + 1 => by
    rw [List.replicate_succ, List.flatten_cons, rep_flat v n, List.replicate_succ]
    rfl
theorem dp_repV {v : V} (h : Dp K H v d) : ∀ n : Nat, DpAll K H (List.replicate n v) (List.replicate n d)
  | 0 => .nil
  | n + 1 => .cons h (dp_repV h n)
/-- [[word, thing]] * n, and the comparison with the n answers -/
theorem ans_ne {Q : VK} {n : Nat} (h : Ans H0 D s x n H) (hx : Dp K H x d) (hs : (PyData.str s).canLay0 = true) (l1 : d.canLay0 = true) (l2 : d.depth ≤ 10) (hn : n ≤ 1000) (q : ∀ H3, Same H H3 → Q (.bl false) H3) :
    2 ≤ sizeLine ∧ ∀ a, H a = none → 1 ≤ sizeLine ∧ ∀ b, (upd H a (.lst [.str s, x])) b = none → rRep (.ref b) (.int n) (upd (upd H a (.lst [.str s, x])) b (.lst [.ref a])) fun y H3 => rNeD K (.ref D) y H3 Q := by
  refine ⟨by decide, fun a ha => ⟨by decide, fun b hb => ?_⟩⟩
  have s1 := same_new ha (.lst [.str s, x])
  have s2 := same_new hb (.lst [.ref a])
  refine ⟨b, n, [.ref a], rfl, rfl, upd_same, by omega, by omega, by show 1 * ((n : Int).toNat) ≤ sizeLine; exact small_line (by omega), fun c hc => ?_⟩
  have s3 := same_new hc (.lst (List.replicate (n : Int).toNat [V.ref a]).flatten)
  have s23 := s2.trans s3
  have s123 := s1.trans s23
  have one : Dp K (upd (upd (upd H a (.lst [.str s, x])) b (.lst [.ref a])) c (.lst (List.replicate (n : Int).toNat [V.ref a]).flatten)) (.ref a) (pr2 s d) := .lst (SqL.of (s23 _ _ upd_same)) (.cons (.str s) (.cons (dp_same s123 _ _ hx) .nil))
  refine ne_same (dp_same s123 _ _ (h.fin hx)) (.lst (SqL.of upd_same) ?_) (lay_rep hs l1 l2) (q _ s123)
  have ex : (List.replicate (n : Int).toNat [V.ref a]).flatten = List.replicate n (V.ref a) := by rw [rep_flat, Int.toNat_natCast]
  have dd := dp_repV one n
  rw [← ex] at dd
  exact dd
end
/-! ### the rules that are not basic -/
def badL (S : List Rl) : List Rl := S.filter fun r => !basicB r
theorem eqv_nilR (S : List Rl) : PyData.eqv (.list (S.map rd)) (.list []) = decide (S = []) := by
  cases S with
  | nil => decide +kernel
  | cons z zs => rfl
theorem bad_head {S : List Rl} {i : Nat} {r : Rl} (h : S[i]? = some r) (no : basicB r = false) (all : ∀ e ∈ S.take i, basicB e = true) : ∃ rest, badL S = r :: rest := by
  have e : S = S.take i ++ (r :: S.drop (i + 1)) := by
    have z := take_snoc h
    conv => lhs; rw [← List.take_append_drop (i + 1) S, z]
    rw [List.append_assoc]
    rfl
  refine ⟨badL (S.drop (i + 1)), ?_⟩
  conv => lhs; rw [e]
  unfold badL
  rw [List.filter_append, List.filter_eq_nil_iff.mpr (fun x hx => by rw [all x hx]; decide), List.nil_append, List.filter_cons, no]
  rfl
/-! ### what the law asks of dicts of values -/
/-- the values of S's names -/
def VF (S : List Rl) (ns : W) (g : Str → V) : Prop := ∀ z ∈ ns, (TT S (nmP S) z → g z = .bl true) ∧ (FF S (nmP S) z → g z = .bl false) ∧ (¬ TT S (nmP S) z → ¬ FF S (nmP S) z → g z = .non)
theorem VF.vl {S : List Rl} {ns : W} {g : Str → V} (h : VF S ns g) : ∀ z ∈ ns, Vl (g z) := fun z hz => by
  obtain ⟨a, b, c⟩ := h z hz
  by_cases t : TT S (nmP S) z
  · exact .inr ⟨true, a t⟩
  · by_cases f : FF S (nmP S) z
    · exact .inr ⟨false, b f⟩
    · exact .inl (c t f)
theorem VF.eq {S : List Rl} {ns : W} {g g2 : Str → V} (h : VF S ns g) (h2 : VF S ns g2) : ∀ z ∈ ns, g z = g2 z := fun z hz => by
  obtain ⟨a, b, c⟩ := h z hz
  obtain ⟨a2, b2, c2⟩ := h2 z hz
  by_cases t : TT S (nmP S) z
  · rw [a t, a2 t]
  · by_cases f : FF S (nmP S) z
    · rw [b f, b2 f]
    · rw [c t f, c2 t f]
theorem nd_keys {ns : W} {g : Str → V} {g2 : Str → V} (he : ∀ z ∈ ns, g z = g2 z) (hv : ∀ z ∈ ns, Vl (g z)) : ∀ p ∈ ns.map fun z => ((.inr z : Key), g z), valV (ns.map fun z => ((.inr z : Key), g2 z)) p.1 = some p.2 ∧ flatB p.2 = true := fun p hp => by
  obtain ⟨z, hz, rfl⟩ := List.mem_map.mp hp
  exact ⟨by rw [valV_nd hz, he z hz], (hv z hz).flat⟩
theorem ne_dicts {H : Hp} {Q : VK} {a b : Addr} {ns : W} {g g2 : Str → V} (ha : H a = some (ND ns g)) (hb : H b = some (ND ns g2)) (he : ∀ z ∈ ns, g z = g2 z) (hv : ∀ z ∈ ns, Vl (g z)) (q : Q (.bl false) H) : rNeDA (.ref a) (.ref b) H Q :=
  ⟨a, b, _, _, rfl, rfl, ha, hb, by rw [List.length_map, List.length_map], nd_keys he hv, q⟩
theorem names_one {ns zs : W} (a : UpX ns) (n : zs.Nodup) (r : RisingX zs) (h : ∀ z, z ∈ zs ↔ z ∈ ns) : zs = ns := upX_one (upX_of r n) a h
theorem PgAt.put {K : PySem.W.Frag} {C D : Addr} {H : Hp} {v : V} {S : List Rl} {o : HO} (h : PgAt K C H v S) (hD : Mut (H D)) (ne : ∀ a, v = .ref a → a ≠ D) : PgAt K C (upd H D o) v S := by
  obtain ⟨a, dx, t, ys, rfl, h1, h2, h3⟩ := h
  have st : Stay H (upd H D o) := Stay.put hD o
  exact ⟨a, dx, t, ys, rfl, by rw [upd_ne (ne a rfl)]; exact h1, st.seq h2, st.dpAll _ _ (okDs_rd S) h3⟩
theorem names_few {S : List Rl} {b : Nat} (h : ∀ r ∈ S, ∀ t ∈ parts r, t.length ≤ b) : (namesL S).length ≤ S.length * (4 * b) := by
  induction S with
  | nil => exact Nat.zero_le _
  | cons r S ih =>
    have e := ih fun r hr => h r (List.mem_cons_of_mem _ hr)
    have h1 := h r List.mem_cons_self
    unfold parts at h1
    have p1 := h1 r.1 (by simp)
    have p2 := h1 r.2.1 (by simp)
    have p3 := h1 r.2.2.1 (by simp)
    have p4 := h1 r.2.2.2 (by simp)
    have o : (ownN r).length ≤ 4 * b := by
      unfold ownN parts
      simp only [List.flatMap_cons, List.flatMap_nil, List.length_append, List.length_nil, id]
      omega
    unfold namesL at e ⊢
    rw [List.flatMap_cons, List.length_append, List.length_cons, Nat.succ_mul]
    omega
end Rw
namespace Rw
open PySem PySem.Spec PyProof.Rows L2
/-! ### == and != of instances by their class's own __eq__ -/
section
variable {X : Cx}
def rEqP (C : Addr) (sp : Sp) (E : XK) : R2 := fun x y H Q => ∃ a dx fs b dy gs, x = .ref a ∧ y = .ref b ∧ H a = some (.ins C dx fs) ∧ H b = some (.ins C dy gs) ∧ sp [x, y] H Q E
theorem op_eqP {CX : CXT} {C g : Addr} {n : Nat} {sp : Sp} {E : XK} (hs : PySem.W.findIn X.K (.ref C) "__eq__" = some (some (.ref g))) (hf : PySem.W.isFn X.K (.ref g) = true) (F : FnR X.prog X.w X.K X.mg X.base CX n g sp) (hr : Room n X.A) (hx : Passes CX X E) : OpR X (compareOp .Eq) (rEqP C sp E) := by
  intro pins s σ H x y v u Q I rx ry h
  obtain ⟨a, dx, fs, b, dy, gs, rfl, rfl, ha, hb, q⟩ := h
  obtain rfl : v = Value.ref a := rx
  obtain rfl : u = Value.ref b := ry
  obtain ⟨mA, J, _⟩ := ins_get I.hok ha
  obtain ⟨mB, J', _⟩ := ins_get I.hok hb
  obtain ⟨od, J, _⟩ := J.look
  obtain ⟨od', J', _⟩ := J'.look
  obtain ⟨m, hF⟩ := I.fr
  show wpAny _ _ (richCompare .Eq (.ref a) (.ref b)) _ _ _
  refine PySem.W.cmp_K hr.units0 hF I.ok.mod.kin J J'.type (by simp [PySem.W.notFirst]) hs hf ?_
  refine wpAny_mono (wpAny_call (run_fnR F hr hx I (vs := [.ref a, .ref b]) (.cons rfl (.cons rfl .nil)) q)) (fun r s' h => ?_) fun e s' h => h
  obtain ⟨z, H', I', r, q⟩ := h
  exact SlX.cmpback r ⟨z, H', I', r, q⟩
/-- what the class is, for != -/
structure NeC (K : PySem.W.Frag) (C g : Addr) : Prop where
  cls : ∃ nm q N bs hd sn sub ab col dd k0 k1 k2 k3 k5 nid oN es ep, K.lookup C = some (excClassObj nm q C N bs [.type "object"] hd sn sub ab col dd k0 k1 k2 k3 k5 nid) ∧ K.lookup N = some oN ∧ oN.data = .dict es ep ∧ StrKeys es ∧ nsFind es "__eq__" = some (.ref g) ∧ nsFind es "__ne__" = none
  fn : ∃ og, K.lookup g = some og ∧ og.cls = .type "function"
def rNeP (C : Addr) (sp : Sp) (E : XK) : R2 := fun x y H Q => ∃ a dx fs b dy gs, x = .ref a ∧ y = .ref b ∧ H a = some (.ins C dx fs) ∧ H b = some (.ins C dy gs) ∧ sp [x, y] H (fun v H' => ∃ t, v = .bl t ∧ Q (.bl (!t)) H') E
theorem op_neP {CX : CXT} {C g : Addr} {n : Nat} {sp : Sp} {E : XK} (N : NeC X.K C g) (F : FnR X.prog X.w X.K X.mg X.base CX n g sp) (hr : Room (n + 1) X.A) (hx : Passes CX X E) : OpR X (compareOp .NotEq) (rNeP C sp E) := by
  intro pins s σ H x y v u Q I rx ry h
  obtain ⟨a, dx, fs, b, dy, gs, rfl, rfl, ha, hb, q⟩ := h
  obtain rfl : v = Value.ref a := rx
  obtain rfl : u = Value.ref b := ry
  obtain ⟨mA, J, _⟩ := ins_get I.hok ha
  obtain ⟨mB, J', _⟩ := ins_get I.hok hb
  obtain ⟨od, J, _⟩ := J.look
  obtain ⟨od', J', _⟩ := J'.look
  obtain ⟨nm, q1, NN, bs, hd, sn, sub, ab, col, dd, k0, k1, k2, k3, k5, nid, oN, es, ep, c1, c2, c3, c4, c5, c6⟩ := N.cls
  obtain ⟨og, g1, g2⟩ := N.fn
  have kin := I.kIn
  have own : s.heap.OwnEqNoNe a C g "object" [.type "object"] := ⟨_, og, nm, q1, NN, bs, hd, sn, sub, ab, col, dd, k0, k1, k2, k3, k5, nid, _, _, J.at_, J.cls, kin _ _ c1, ⟨oN, es, ep, kin _ _ c2, c3, c4, fun _ => rfl⟩, c5, kin _ _ g1, g2, PySem.F.cmp_object.mro, PySem.F.cmp_object.eq.lookup, c6⟩
  have un := hr.un
  refine compareOp_ne_ownEq PySem.F.cmp_object own J'.at_ J'.cls (by omega) ?_
  have e0 := I.env0
  have e1 : Env0 X.prog X.w X.K X.mg X.base X.A.in1 X.stack s H := ⟨e0.frames, e0.mod, e0.bs, e0.bsz, e0.funs, e0.frf, e0.hok, e0.bare⟩
  refine wpAny_call (codeAny_mono (F X.A.in1 X.stack s H [.ref a, .ref b] [.ref a, .ref b] _ E hr.in1 e1 (.cons rfl (.cons rfl .nil)) q) fun r s' h => ?_)
  cases r with
  | error e => exact hx pins σ H s e s' I h
  | ok f =>
    cases f with
    | ret v =>
      obtain ⟨z, H', I', r, t, rfl, q⟩ := I.after h
      obtain rfl : v = Value.bool t := r
      exact ⟨t, rfl, .bl (!t), H', I', rfl, q⟩
    | _ => exact h.elim
end
end Rw
namespace Rw
open PySem PySem.Spec PyProof.Rows L2
/-! ### a def without defaults, called by names; C() of a class whose __init__ takes *args -/
theorem kbn_fun {K : PySem.W.Frag} {x qual : Str} {st : Stmt} {f : Addr} {fd : FuncData} {ps : List Str} (F : Fun K x qual st f fd) (n : Nat) (ks : List Str) (g : List Value → List Value → List Value) (gV : List V → List V → List V)
    (h : ∀ (kV doc pm : Value) (an : Option Addr) (cdv ct : Value) (us ws : List Value), us.length = n → ws.length = ks.length → bindArgs (PySem.W.fnOf x qual (defArgs st) (defBody st) (defScope st) .none kV doc pm an cdv ct) { pos := us, kw := ks.zip ws } = pure (ps.zip (g us ws)))
    (rel : ∀ {vs : List V} {us : List Value} {zs : List V} {ws : List Value}, Vals vs us → Vals zs ws → Vals (gV vs zs) (g us ws)) : KBn K fd ps n ks g gV := by
  obtain ⟨oc, od, kV, doc, pm, an, cdv, ct, osl, rfl, lk, hcd⟩ := F.ex
  refine ⟨fun s us ws X l1 l2 => ?_, fun a b => rel a b⟩
  intro M A E Q q
  rw [h kV doc pm an cdv ct us ws l1 l2]
  exact wpAny_pure q
theorem pe_makeR0 {X : Cx} {CX : CXT} {k : Nat} {f C : Addr} {sp : Sp} {E : XK} {x : Str} {p pos : Pos} (M : Mk X.K C f) (F : FnR X.prog X.w X.K X.mg X.base CX k f sp) (hr : Room (k + 1) X.A) (hg : Gl X x) (hm : X.mg x = some (.ref C)) (hx : Passes CX X E)
    (hd : (x == ("__debug__" : Str)) = false := by rfl) : PE X (.Call (.Name x p) [] [] pos) (StX.tMakeR C sp E tNil) :=
  ⟨fun pins s σ H Q I h => wpAny_Call_Name_kw (ld_glob I hg hm (PySem.W.callWith_K0 I.kIn M.kp (StX.run_makeR M F hr hx I Paired.nil h)) hd)⟩
theorem passNo {P : Program} {w : World} {X : Cx} : Passes (L2.CX P w) X (fun _ _ _ => False) := fun pins σ H s e s' _ h => by
  obtain ⟨_, _, _, _, _, _, _, _, _, _, _, _, z⟩ := h
  exact z.elim
end Rw
namespace Rw
open PySem PySem.Spec PyProof.Rows L2 ClX
/-! ### law -/
abbrev sLaw : Stmt := topS 51
abbrev nLaw : List Str := ["script", "pool", "at", "purse", "names", "turn", "rules", "sheet", "told", "due", "mixed", "bad", "way", "odd", "name", "row"]
theorem scLaw : FnScope ["script", "pool", "at", "purse", "names", "turn", "rules", "sheet", "told", "due", "mixed", "bad", "way", "odd", "name", "row"] ["script"] (defScope sLaw) := ⟨rfl, rfl, rfl, by decide +kernel, rfl, by decide +kernel, by decide +kernel⟩
def poolW : W := ["a", "ab", "b", "c", "d", "e", "f", "g", "momentum", "z"]
def rowA : Rl := (["a"], [], [], [])
def oddD : List PyData := [.none, wd [], .list [], .str "a :- b.", .int 7, rd rowA]
theorem oddD_ok : ∀ d ∈ oddD, d.canLay0 = true ∧ d.depth ≤ 10 := fun d hd => by
  unfold oddD at hd
  simp only [List.mem_cons, List.mem_nil_iff, or_false] at hd
  rcases hd with rfl | rfl | rfl | rfl | rfl | rfl <;> exact ⟨by decide +kernel, by decide +kernel⟩
theorem isW_pool : IsW poolW := ⟨by decide +kernel, by decide +kernel, by decide⟩
theorem cut_pool (m : Nat) : cutV (poolW.map V.str) none (some ((2 + m : Nat) : Int)) = (poolW.take (min (2 + m) 10)).map V.str := by
  unfold cutV
  rw [HT.sIx_nat]
  show ((poolW.map V.str).drop 0).take (_ - 0) = _
  rw [List.drop_zero, Nat.sub_zero, List.map_take]
  rfl
theorem srt_nil {S : List Rl} (h : Srt S []) : S = [] := List.eq_nil_iff_forall_not_mem.mpr fun p hp => nomatch (h.mem p).mp hp
section
variable {K : PySem.W.Frag} {C : Addr} {σ : L2.St} {H : Hp} {Q : VK} {E : XK}
theorem make0_ok (q : ∀ H' v S, Same H H' → Srt S [] → S.length < 64 → PgAt K C H' v S → Q v H') : StX.tMakeR C (spInit K C) E tNil σ H Q :=
  made_ok (C := C) (L := []) (Q := Q) .nil (fun _ z => nomatch z) (by decide) q
end
section
variable {P : Program} {w : World} {K : PySem.W.Frag} {mg : Str → Option Value} {base : Heap} {f : Addr} {fd : FuncData} {k : Nat}
def spLaw (K : PySem.W.Frag) : Sp := fun vs H Q _ => ∃ (a : Addr) (ns : List Int), vs = [.ref a] ∧ SqL K H a (ns.map V.int) ∧ ns.length ≤ 63 ∧ ∀ H', Q (.bl true) H'
theorem if_next {r : L2.R2} {t1 t2 : TE} {tb te u : TS} {D : Ends} {rt0 : VK} {bk0 ct0 : L2.St → Hp → Prop} {σ : L2.St} {H : Hp} (h : t1 σ H fun x H1 => t2 σ H1 fun y H2 => r x y H2 fun v H3 => ∃ b, v = .bl b ∧ if b = true then tb { D with nx := u D } σ H3 else te { D with nx := u D } σ H3) : tNext ⟨tSeq (tIfS (tTest (tOp r t1 t2)) tb te) u D, rt0, bk0, ct0⟩ σ H := h
def kwOnly {α : Type} (_ zs : List α) : List α := zs
theorem ok_law {C CE CB pO fO fI f1 f2 f3 f4 f5 f6 f7 : Addr} {mc : Value} {fd1 fd2 fd3 fd4 fd5 fd6 fd7 : FuncData} (F : Fun K "law" "law" sLaw f fd) (T : Bl mg) (Td : mg "dict" = none) (mC : mg "Program" = some (.ref C)) (cr : CRead K C mc) (cm : CMet K C mc "of" pO fO) (GO : FnR P w K mg base CX0 (k + 1) fO (spOf K C))
    (M : Mk K C fI) (GI : FnR P w K mg base CX0 k fI (spInit K C))
    (G1 : FnOk P w K mg base CX0 (k + 1) f1 fd1 ["script", "at"] (spLawPurse K)) (b1 : Binds K fd1 ["script", "at"] []) (k1 : PySem.W.keepIn K (.ref f1) = true) (m1 : mg "_law_purse" = some (.ref f1))
    (G2 : FnOk P w K mg base CX0 (k + 1) f2 fd2 ["purse", "out_of"] spLawDraw) (b2 : Binds K fd2 ["purse", "out_of"] []) (k2 : PySem.W.keepIn K (.ref f2) = true) (m2 : mg "_law_draw" = some (.ref f2))
    (G3 : FnOk P w K mg base CX0 (k + 1) f3 fd3 ["purse", "names", "sort", "most"] (spLawRules K)) (b3 : Binds K fd3 ["purse", "names", "sort", "most"] []) (k3 : PySem.W.keepIn K (.ref f3) = true) (m3 : mg "_law_rules" = some (.ref f3))
    (G4 : FnOk P w K mg base CX0 (k + 1) f4 fd4 ["rules"] (spLawNames K)) (b4 : Binds K fd4 ["rules"] []) (k4 : PySem.W.keepIn K (.ref f4) = true) (m4 : mg "_law_names_in" = some (.ref f4))
    (G5 : FnOk P w K mg base CX0 (k + 1) f5 fd5 ["rules", "names"] (spLawValues K)) (b5 : Binds K fd5 ["rules", "names"] []) (k5 : PySem.W.keepIn K (.ref f5) = true) (m5 : mg "_law_values" = some (.ref f5))
    (G6 : FnOk P w K mg base CX0 (k + 1) f6 fd6 ["way", "thing"] (spLawCaught K C CE CB)) (b6 : Binds K fd6 ["way", "thing"] []) (k6 : PySem.W.keepIn K (.ref f6) = true) (m6 : mg "_law_caught" = some (.ref f6))
    (G7 : FnOk P w K mg base (L2.CX P w) (k + 1) f7 fd7 ["program"] (spValues K C CE CB)) (b7 : Binds K fd7 ["program"] []) (kb7 : KBn K fd7 ["program"] 0 ["program"] kwOnly kwOnly) (k7 : PySem.W.keepIn K (.ref f7) = true) (m7 : mg "values" = some (.ref f7)) :
    FnOk P w K mg base CX0 (k + 2) f fd ["script"] (spLaw K) := by
  refine F.ok scLaw (fun vs H Q E h => ?_) (fun cdv A outer s H vs Q E hr h => ?_)
  · obtain ⟨a, ns, rfl, _⟩ := h
    rfl
  obtain ⟨a, ns, rfl, hS, hl, q⟩ := h
  refine ⟨_, pss_cons (ps_set (i := 1) scLaw.nd rfl (.inl rfl) (pe_lst (pa_cons pe_str (pa_cons pe_str (pa_cons pe_str (pa_cons pe_str (pa_cons pe_str (pa_cons pe_str (pa_cons pe_str (pa_cons pe_str (pa_cons pe_str (pa_cons pe_str pa_nil))))))))))))
    (pss_cons (ps_for PassesOwn.never rfl (pi_range1 rfl T.range (pa_cons (pe_op op_add pe_int (pe_callB (call_min2 rfl) (by rfl) T.min (by decide +kernel) (pa_cons pe_int (pa_cons (pe_callB call_len_seq (by rfl) T.len PySem.boot_len (pa_cons (pv 0) pa_nil)) pa_nil)))) pa_nil)) (pg_name (i := 2) scLaw.nd rfl (.inl rfl))
      (pss_cons (ps_set (i := 3) scLaw.nd rfl (.inl rfl) (pe_call G1 hr (by rfl) m1 k1 b1 .nil pass0 (pa_cons (pv 0) (pa_cons (pv 2) pa_nil))))
      (pss_cons (ps_set (i := 4) scLaw.nd rfl (.inl rfl) (pe_slice sl_list (pv 1) po_none (po_some (pe_op op_add pe_int (pe_call G2 hr (by rfl) m2 k2 b2 .nil pass0 (pa_cons (pv 3) (pa_cons pe_int pa_nil)))))))
      (pss_cons (ps_for PassesOwn.never rfl (pi_range1 rfl T.range (pa_cons pe_int pa_nil)) (pg_name (i := 5) scLaw.nd rfl (.inl rfl))
        (pss_cons (ps_set (i := 6) scLaw.nd rfl (.inl rfl) (pe_call G3 hr (by rfl) m3 k3 b3 .nil pass0 (pa_cons (pv 3) (pa_cons (pv 4) (pa_cons pe_int (pa_cons pe_int pa_nil))))))
        (pss_cons (ps_set (i := 7) scLaw.nd rfl (.inl rfl) (pe_cmeth (pe_glob (v := .ref C) (by rfl) mC rfl) cr cm GO hr pass0 (pa_cons (pv 6) pa_nil)))
        (pss_cons (ps_set (i := 8) scLaw.nd rfl (.inr rfl) (pe_call G7 hr (by rfl) m7 k7 b7 .nil passNo (pa_cons (pv 7) pa_nil)))
        (pss_cons (ps_set (i := 9) scLaw.nd rfl (.inr rfl) (pe_call G5 hr (by rfl) m5 k5 b5 .nil pass0 (pa_cons (pv 6) (pa_cons (pe_call G4 hr (by rfl) m4 k4 b4 .nil pass0 (pa_cons (pv 6) pa_nil)) pa_nil))))
        (pss_cons (ps_if (PW.pt (pw_or (pt_not (pt_val (pe_callB call_isi (by rfl) T.isi PyProof.Rows.boot_isinstance (pa_cons (pv 8) (pa_cons (pe_bltn (v := .ty "dict") (by rfl) Td (by decide +kernel) rfl) pa_nil)))))
            (pw_or (pt_cmpR (op_ne_dictA (Nat.lt_of_succ_lt (hu_of hr))) (pv 8) (pv 9) (nomark _)) (pw_or1 (pt_cmpR (op_neD hr.units) (pe_callTy (call_list_dK rfl) (by rfl) T.list (by decide +kernel) (pa_cons (pv 8) pa_nil)) (pe_callB (call_sortedD rfl) (by rfl) T.sorted (by decide +kernel) (pa_cons (pv 9) pa_nil)) (nomark _)))))) pss_never pss_nil)
        (pss_cons (ps_if (pt_cmpR (op_neD hr.units) (pe_lock (pe_lc (own := [("name", 14)]) (g := gName 14) (tt := tTest (tOp (rIn K true) (tDGet (tVar 8) (tVar 14)) (tTup (tCons (tC (.bl true)) (tCons (tC (.bl false)) (tCons (tC .non) tNil)))))) (te := tDGet (tVar 8) (tVar 14)) (by rfl) scLaw.nd (pi_keys (pv 8)) (blkOk_by (N := nLaw) (sc := defScope sLaw) (by decide +kernel))
            (fun _ _ _ _ _ => pg_name (i := 14) scLaw.nd rfl (Or.inl rfl)) (fun _ _ _ _ _ => pts_one (pt_cmpR (r := rIn K true) op_notIn_seq (pe_dget (hu_of hr) (pv 8) (pv 14) (fun _ _ => rfl)) (pe_tup (pa_cons pe_bl (pa_cons pe_bl (pa_cons pe_non pa_nil)))) (by rfl))) (fun _ _ _ _ _ => pe_dget (hu_of hr) (pv 8) (pv 14) (fun _ _ => rfl)))) (pe_lst pa_nil) (nomark _)) pss_never pss_nil)
        (pss_cons (ps_if (pt_cmpR (op_neD hr.units) (pe_lock (pe_lc (own := [("name", 14)]) (g := gName 14) (tt := tTest (tOp rNe (tCB rStrV (tCons (tDGet (tVar 8) (tVar 14)) tNil)) (tCB rStrV (tCons (tDGet (tVar 9) (tVar 14)) tNil)))) (te := tVar 14) (by rfl) scLaw.nd (pi_keys (pv 8)) (blkOk_by (N := nLaw) (sc := defScope sLaw) (by decide +kernel))
            (fun _ _ _ _ _ => pg_name (i := 14) scLaw.nd rfl (Or.inl rfl)) (fun _ _ _ _ _ => pts_one (pt_cmpR op_ne (pe_callTy (T := "str") (r := rStrV) call_strV (by rfl) T.str (by decide +kernel) (pa_cons (pe_dget (hu_of hr) (pv 8) (pv 14) (fun _ _ => rfl)) pa_nil)) (pe_callTy (T := "str") (r := rStrV) call_strV (by rfl) T.str (by decide +kernel) (pa_cons (pe_dget (hu_of hr) (pv 9) (pv 14) (fun _ _ => rfl)) pa_nil)) (nomark _))) (fun _ _ _ _ _ => pv 14))) (pe_lst pa_nil) (nomark _)) pss_never pss_nil)
        (pss_cons (ps_dput (hu_of hr) (pv 8) pe_str pe_bl rfl)
        (pss_cons (ps_if (PW.pt (pw_or (pt_cmpR (op_ne_dictA (Nat.lt_of_succ_lt (hu_of hr))) (pe_call G7 hr (by rfl) m7 k7 b7 .nil passNo (pa_cons (pv 7) pa_nil)) (pv 9) (nomark _))
            (pw_or1 (pt_cmpR (op_ne_dictA (Nat.lt_of_succ_lt (hu_of hr))) (pe_callK0 G7 hr (by rfl) m7 k7 kb7 passNo (pk_cons (pe_cmeth (pe_glob (v := .ref C) (by rfl) mC rfl) cr cm GO hr pass0 (pa_cons (pe_revL (pv 6)) pa_nil)) pk_nil) (by rfl) (by rfl) (by rfl) (by rfl) (by rfl)) (pv 9) (nomark _))))) pss_never pss_nil)
        (pss_cons (ps_set (i := 10) scLaw.nd rfl (.inl rfl) (pe_callB (cr_sortR rfl hr.units) (by rfl) T.sorted (by decide +kernel) (pa_cons (pe_callTy (cr_setR rfl hr.units) (by rfl) T.set (by decide +kernel) (pa_cons
            (pe_op op_cat (pv 6) (pe_call G3 hr (by rfl) m3 k3 b3 .nil pass0 (pa_cons (pv 3) (pa_cons (pv 4) (pa_cons pe_int (pa_cons pe_int pa_nil)))))) pa_nil)) pa_nil)))
        (pss_cons (ps_setLc (i := 11) (own := [("row", 15)]) (g := gName 15) (tt := tOr (tTest (tOp rNe (tCB (rLenK K) (tCons (tOp (rIxT K) (tVar 15) (tC (.int 0))) tNil)) (tC (.int 1)))) (tTest (tOp (rNeD K) (tOp (rIxT K) (tVar 15) (tC (.int 1))) (tTup tNil)))) (by rfl) scLaw.nd rfl rfl (sw_true rfl rfl rfl (by decide +kernel)) (pi_list (pv 10)) (blkOk_by (N := nLaw) (sc := defScope sLaw) (by decide +kernel))
            (fun _ _ _ _ _ => pg_name (i := 15) scLaw.nd rfl (Or.inl rfl)) (fun _ _ _ _ _ => pts_one (PW.pt (pw_or (pt_cmpR op_ne (pe_callB (r := rLenK K) call_len_seq (by rfl) T.len PySem.boot_len (pa_cons (pe_ix ix_tup (pv 15) pe_int (fun _ _ => rfl)) pa_nil)) pe_int (nomark _)) (pw_or1 (pt_cmpR (r := rNeD K) (op_neD hr.units) (pe_ix ix_tup (pv 15) pe_int (fun _ _ => rfl)) (pe_tup pa_nil) (nomark _)))))) (fun _ _ _ _ _ => pv 15))
        (pss_one (ps_for PassesOwn.never rfl (pi_range1 rfl T.range (pa_cons pe_int pa_nil)) (pg_name (i := 12) scLaw.nd rfl (.inl rfl))
          (pss_one (ps_if (PW.pt (pw_and (pt_cmpR (op_neD hr.units) (pv 11) (pe_lst pa_nil) (nomark _)) (pw_and1 (pt_cmpR (op_neD hr.units) (pe_call G6 hr (by rfl) m6 k6 b6 .nil pass0 (pa_cons (pv 12) (pa_cons (pe_cmeth (pe_glob (v := .ref C) (by rfl) mC rfl) cr cm GO hr pass0 (pa_cons (pv 10) pa_nil)) pa_nil))) (pe_lst (pa_cons pe_str (pa_cons (pe_ix ix_list (pv 11) pe_int (fun _ _ => rfl)) pa_nil))) (nomark _))))) pss_never pss_nil))))))))))))))))
      (pss_cons (ps_set (i := 13) scLaw.nd rfl (.inr rfl) (pe_ix ix_list (pe_lst (pa_cons pe_non (pa_cons (pe_tup pa_nil) (pa_cons (pe_lst pa_nil) (pa_cons pe_str (pa_cons pe_int (pa_cons (pe_tup (pa_cons (pe_tup (pa_cons pe_str pa_nil)) (pa_cons (pe_tup pa_nil) (pa_cons (pe_tup pa_nil) (pa_cons (pe_tup pa_nil) pa_nil))))) pa_nil)))))))
            (pe_call G2 hr (by rfl) m2 k2 b2 .nil pass0 (pa_cons (pv 3) (pa_cons pe_int pa_nil))) (fun _ _ => rfl)))
      (pss_one (ps_if (pt_cmpR (op_neD hr.units) (pe_lc (own := [("way", 12)]) (g := gName 12) (by rfl) scLaw.nd (pi_range1 rfl T.range (pa_cons pe_int pa_nil)) (blkOk_by (N := nLaw) (sc := defScope sLaw) (by decide +kernel))
              (fun _ _ _ _ _ => pg_name (i := 12) scLaw.nd rfl (Or.inl rfl)) (fun _ _ _ _ _ => pts_nil) (fun _ _ _ _ _ => pe_call G6 hr (by rfl) m6 k6 b6 .nil pass0 (pa_cons (pv 12) (pa_cons (pv 13) pa_nil))))
            (pe_op op_rep (pe_lst (pa_cons (pe_lst (pa_cons pe_str (pa_cons (pv 13) pa_nil))) pa_nil)) pe_int) (nomark _)) pss_never pss_nil)))))))
    (pss_one (ps_ret (pe_cmpR (op_eq_dictA (Nat.lt_of_succ_lt (hu_of hr))) (pe_call G7 hr (by rfl) m7 k7 b7 .nil passNo (pa_cons (pe_makeR0 M GI hr (by rfl) mC pass0) pa_nil)) pe_dnewK (nomark _))))), ?_⟩
  refine ⟨by show 10 ≤ sizeLine; decide, fun e1 he1 => ?_⟩
  have s1 := same_new he1 (.lst (poolW.map V.str))
  let HP0 : Hp := upd H e1 (.lst (poolW.map V.str))
  obtain ⟨n0, hn0, hn1⟩ : ∃ n0 : Nat, (1 + (if ((ns.map V.int).length : Int) < 6 then ((ns.map V.int).length : Int) else 6)) = (n0 : Int) ∧ n0 ≤ 7 := by
    rw [List.length_map]
    by_cases c : (ns.length : Int) < 6
    · rw [if_pos c]
      exact ⟨1 + ns.length, by omega, by omega⟩
    · rw [if_neg c]
      exact ⟨7, by omega, by omega⟩
  refine ⟨.ref a, rfl, a, _, rfl, .inl (s1.seq hS), 6, ((ns.map V.int).length : Int), rfl, _, _, rfl, rfl, _, rfl, ?_⟩
  rw [hn0]
  refine ⟨by omega, by omega, ?_⟩
  refine for_range (n := (n0 : Int).toNat) (fun i σ H1 => (∃ y2 y3 y4 y5 y6 y7 y8 y9 y10 y11 y12 y13, σ = [some (.ref a), some (.ref e1), y2, y3, y4, y5, y6, y7, y8, y9, y10, y11, y12, y13, none, none]) ∧ Same HP0 H1) ⟨⟨_, _, _, _, _, _, _, _, _, _, _, _, rfl⟩, fun _ _ e => e⟩ (fun i σ HA hi hI => ?_) (fun σ H1 hI => ?_)
  · obtain ⟨⟨y2, y3, y4, y5, y6, y7, y8, y9, y10, y11, y12, y13, rfl⟩, smA⟩ := hI
    have hi7 : i < 7 := by omega
    -- the purse
    refine ⟨.ref a, rfl, .int (0 + (i : Int)), rfl, a, ns, i, ?_, (s1.trans smA).seq hS, hl, by omega, fun HB p sAB hpn hP0 => ?_⟩
    · rw [Int.zero_add]
      rfl
    have up : ∀ H', Bar p HB H' → Same HP0 H' := fun H' b c u e => b c u (fun z => by
      have := smA _ _ e
      rw [z, hpn] at this
      cases this) (sAB _ _ (smA _ _ e))
    have hp1 : HB e1 = some (.lst (poolW.map V.str)) := (smA.trans sAB) _ _ upd_same
    have ne1 : e1 ≠ p := fun z => by
      have := smA _ _ (upd_same : HP0 e1 = _)
      rw [z, hpn] at this
      cases this
    -- the names
    refine ⟨.ref e1, rfl, .ref p, rfl, p, 9, _, rfl, hP0, by omega, by decide, by decide, fun r us r0 r1 hP1 => ?_⟩
    obtain ⟨m, rfl⟩ := Int.eq_ofNat_of_zero_le r0
    have bar1 : Bar p HB (upd HB p (.lst us)) := .draw
    refine ⟨2, (m : Int), rfl, rfl, _, rfl, e1, _, rfl, SqL.of (bar1 _ _ ne1 hp1), fun lL hlL => ?_⟩
    have ec : cutV (poolW.map V.str) none (some (2 + (m : Int))) = (poolW.take (min (2 + m) 10)).map V.str := by
      have z := cut_pool m
      rw [show ((2 + m : Nat) : Int) = 2 + (m : Int) by omega] at z
      exact z
    let lets : W := poolW.take (min (2 + m) 10)
    let HC : Hp := upd (upd HB p (.lst us)) lL (.lst (cutV (poolW.map V.str) none (some (2 + (m : Int)))))
    have hL : HC lL = some (.lst (lets.map V.str)) := by
      show upd _ _ _ lL = _
      rw [upd_same, ec]
    have sC : Same (upd HB p (.lst us)) HC := same_new hlL _
    have barC : Bar p HB HC := bar1.trans (.same sC)
    have puC : Pur HC p (100000 + 1) := hP1.same sC
    have nlp : lL ≠ p := hP1.some hlL
    have hlets : IsW lets := isW_sub isW_pool (List.take_sublist _ _)
    have l10 : lets.length ≤ 10 := by
      show (poolW.take (min (2 + m) 10)).length ≤ 10
      rw [List.length_take]
      show min (min (2 + m) 10) 10 ≤ 10
      omega
    have ln : 1 ≤ lets.length := by
      show 1 ≤ (poolW.take (min (2 + m) 10)).length
      rw [List.length_take]
      show 1 ≤ min (min (2 + m) 10) 10
      omega
    refine ⟨3, rfl, by decide, by decide, for_range (n := 3) (fun j σ H1 => (∃ y5 y6 y7 y8 y9 y10 y11 y12 y13, σ = [some (.ref a), some (.ref e1), some (.int (0 + (i : Int))), some (.ref p), some (.ref lL), y5, y6, y7, y8, y9, y10, y11, y12, y13, none, none]) ∧ Bar p HC H1 ∧ Pur H1 p (100010 + 31000 * j)) ⟨⟨_, _, _, _, _, _, _, _, _, rfl⟩, fun _ _ _ e => e, puC.le (by omega)⟩ (fun j σ H1 hj hI => ?_) (fun σ HD hI => ?_)⟩
    · obtain ⟨⟨y5, y6, y7, y8, y9, y10, y11, y12, y13, rfl⟩, bar, pu⟩ := hI
      refine ⟨.ref p, rfl, .ref lL, rfl, p, lL, _, 0, 14, lets, rfl, .inl rfl, by decide, by decide, pu, by omega, nlp, bar _ _ nlp hL, ln, hlets, fun H2 aR ys S L bar2 pu2 hnR hR hys hSrt few few14 hRIn hbas => ?_⟩
      have hB := hbas rfl
      have naR : aR ≠ p := pu.some hnR
      have hIs : ∀ r ∈ S, IsR r := fun r hr => (hRIn r hr).1
      have inl : ∀ z ∈ namesL S, z ∈ lets := fun z hz => by
        obtain ⟨r, hr, hz⟩ := List.mem_flatMap.mp hz
        obtain ⟨t, ht, hz⟩ := List.mem_flatMap.mp hz
        exact ((hRIn r hr).2 t ht).subset hz
      have srtS : Srt S S := ⟨hSrt.nd, hSrt.ris, fun _ => Iff.rfl⟩
      -- the program
      refine ⟨rfl, .ref aR, rfl, aR, ys, S, rfl, .inr (SqL.of hR), hys, hIs, few, fun H3 v S' s3 hS' few' hv => ?_⟩
      obtain rfl : S' = S := hS'.one srtS fun _ => Iff.rfl
      -- its values
      refine ⟨v, rfl, v, rfl, .inl ⟨_, hv, hIs, few, fun H3' s3' => ⟨fun _ => ⟨lets, inl, by omega, fun H4 D n1 g s4 hDn hD hn1 hm1 hg => ?_⟩, fun i r hi no _ _ _ _ _ => by rw [hB r (List.mem_of_getElem? hi)] at no; cases no⟩⟩⟩
      have s24 := s3.trans (s3'.trans s4)
      -- what is due
      have lt1000 : (namesL S').length < 1000 := by
        have e := names_few (S := S') (b := 10) fun r hr t ht => Nat.le_trans ((hRIn r hr).2 t ht).length_le l10
        have e2 : S'.length * (4 * 10) ≤ 14 * (4 * 10) := Nat.mul_le_mul_right _ (by omega)
        omega
      refine ⟨.ref aR, rfl, .ref aR, rfl, aR, S', rfl, ⟨ys, s24 _ _ hR, dpAll_same s24 _ _ hys⟩, lt1000, fun H5 pn zs s5 hnn hpn nz rz hz => ?_⟩
      obtain rfl : zs = n1 := names_one hn1.up nz rz fun z => (hz z).trans (hm1 z).symm
      have le40 : zs.length ≤ 40 := hn1.few
      have s25 := s24.trans s5
      refine ⟨aR, pn, S', zs, rfl, ⟨ys, s25 _ _ hR, dpAll_same s25 _ _ hys⟩, hIs, hB, few, hpn, nz, le40, hz, fun H6 Dd g2 s6 nDd hDd hg2 => ?_⟩
      have s46 := s5.trans s6
      have hD6 := s46 _ _ hD
      have ndD : Dd ≠ D := fun z => by
        rw [z, s5 _ _ hD] at nDd
        cases nDd
      have hg' : VF S' zs g := hg
      have hg2' : VF S' zs g2 := hg2
      have vl := hg'.vl
      have veq := hg'.eq hg2'
      refine ⟨.ref D, rfl, .ref D, .ty "dict", .type "dict", .type "dict", true, rfl, .ty "dict", .base (.dK hD6), kit_ty (by decide +kernel), true, rfl, iteF ?_⟩
      refine ⟨.ref D, rfl, .ref Dd, rfl, ne_dicts hD6 hDd veq vl ⟨false, rfl, iteF ?_⟩⟩
      refine ⟨.ref D, rfl, D, _, rfl, hD6, fun l1 hl1 => ?_⟩
      have t1 := same_new hl1 (.lst ((zs.map fun z => ((.inr z : Key), g z)).map fun kv => kV kv.1))
      refine ⟨.ref Dd, rfl, Dd, _, zs, rfl, .inl (t1 _ _ hDd), by rw [List.map_map]; rfl, by omega, fun ys2 l2 perm srt hl2 => ?_⟩
      obtain rfl : ys2 = zs := names_one hn1.up (perm.nodup_iff.mpr nz) (ris_sorted srt) fun z => perm.mem_iff
      have t2 := same_new hl2 (.lst (ys2.map V.str))
      have e1l : (upd H6 l1 (.lst ((ys2.map fun z => ((.inr z : Key), g z)).map fun kv => kV kv.1))) l1 = some (.lst (ys2.map V.str)) := by
        rw [upd_same, List.map_map]
        rfl
      refine ne_same (.lst (SqL.of (t2 _ _ e1l)) (dps_strs ys2)) (.lst (SqL.of upd_same) (dps_strs ys2)) (lay_nms hn1.names) ⟨_, rfl, iteF ?_⟩
      have t12 := t1.trans t2
      have nil0 : ∀ {HX : Hp} {DX : Addr}, HX DX = some (.lst []) → ∀ {QQ : VK}, (∀ HY, Same HX HY → QQ (.bl false) HY) → 0 ≤ sizeLine ∧ ∀ e0, HX e0 = none → rNeD K (.ref DX) (.ref e0) (upd HX e0 (.lst [])) QQ := fun {HX} {DX} hX {QQ} qq => ⟨by decide, fun e0 he0 => ne_same (d := .list []) (.lst (SqL.of (same_new he0 _ _ _ hX)) .nil) (.lst (SqL.of upd_same) .nil) ⟨by decide, by decide⟩ (qq _ (same_new he0 _))⟩
      refine if_next (told_a (i := 8) (o := 14) (d := D) (ns := ys2) (g := g) rfl (by decide) (by show 14 < 16; decide) (t12 _ _ hD6) vl fun H7 D7 s7 hD7 => nil0 hD7 fun H8 s8 => ⟨false, rfl, iteF ?_⟩)
      have s68 := t12.trans (s7.trans s8)
      refine if_next (told_b (i := 8) (j := 9) (o := 14) (d := D) (d2 := Dd) (ns := ys2) (g := g) (g2 := g2) rfl rfl (by decide) (by decide) (by show 14 < 16; decide) ndD (s68 _ _ hD6) (s68 _ _ hDd) vl veq fun H9 D9 s9 hD9 => nil0 hD9 fun H10 s10 => ⟨false, rfl, iteF ?_⟩)
      have s6x := s68.trans (s9.trans s10)
      have s4x := s46.trans s6x
      have hDx := s6x _ _ hD6
      have hDdx := s6x _ _ hDd
      have s2x := s24.trans s4x
      have s3x := (s3'.trans s4).trans s4x
      have pux := pu2.same s2x
      have nDp : D ≠ p := fun z => by
        obtain ⟨_, _, _, e, _⟩ := pux
        rw [← z, hDx] at e
        cases e
      have hCD : HC D = none := none_bar (bar.trans (bar2.trans (.same (s3.trans s3')))) (pu2.same (s3.trans s3')) hDn
      refine ⟨.ref D, rfl, D, _, rfl, .inl ⟨_, .inr "zz", hDx, rfl, small_line' (by rw [List.length_map]; omega), rfl⟩, ?_⟩
      let HZ : Hp := upd H10 D (.dK (putK (ys2.map fun z => ((.inr z : Key), g z)) (.inr "zz") (.bl true)))
      have mD : Mut (H10 D) := by
        rw [hDx]
        exact True.intro
      have old : ∀ {b u}, H3' b = some u → HZ b = some u := fun {b u} e => by
        have ne : b ≠ D := fun z => by
          rw [z, hDn] at e
          cases e
        show upd _ _ _ b = _
        rw [upd_ne ne]
        exact (s4.trans s4x) _ _ e
      have stZ : Stay H10 HZ := Stay.put mD _
      have hRZ : HZ aR = some (.lst ys) := old ((s3.trans s3') _ _ hR)
      have hysZ : DpAll K HZ ys (S'.map rd) := stZ.dpAll _ _ (okDs_rd S') (dpAll_same s2x _ _ hys)
      have hvZ : PgAt K C HZ v S' := (hv.same s3x).put mD fun b e z => by
        obtain ⟨b', dx, t, zs, e', h1, _⟩ := hv.same s3'
        rw [e] at e'
        cases e'
        rw [z, hDn] at h1
        cases h1
      have hDdZ : HZ Dd = some (ND ys2 g2) := by
        show upd _ _ _ Dd = _
        rw [upd_ne ndD]
        exact hDdx
      have puZ : Pur HZ p _ := pux.put nDp
      have barZ : Bar p HC HZ := (bar.trans (bar2.trans (.same s2x))).put hCD
      have again : ∀ {HW : Hp} {v2 : V} {QQ : VK} {EE : XK}, Same HZ HW → PgAt K C HW v2 S' → (∀ HY DY g3, Same HW HY → HY DY = some (ND ys2 g3) → (∀ z ∈ ys2, g3 z = g2 z) → (∀ z ∈ ys2, Vl (g3 z)) → QQ (.ref DY) HY) → BasP K C CE CB v2 HW EE fun S H1 => ValQ S QQ H1 := fun {HW} {v2} {QQ} {EE} sw hw qq => .inl ⟨S', hw, hIs, few, fun HW' sw' => ⟨fun _ => ⟨lets, inl, by omega, fun HY DY n2 g3 sy _ hDY hn2 hm2 hg3 => by
        obtain rfl : n2 = ys2 := upX_one hn2.up hn1.up fun z => (hm2 z).trans (hz z).symm
        exact qq HY DY g3 (sw'.trans sy) hDY (VF.eq (S := S') hg3 hg2') (VF.vl (S := S') hg3)⟩, fun i r hi no _ _ _ _ _ => by rw [hB r (List.mem_of_getElem? hi)] at no; cases no⟩⟩
      refine ⟨v, rfl, v, rfl, again (fun _ _ e => e) hvZ fun H11 D2 g3 s11 hD2 he3 hv3 => ?_⟩
      refine ⟨.ref Dd, rfl, ne_dicts hD2 (s11 _ _ hDdZ) he3 hv3 ⟨false, rfl, iteF ?_⟩⟩
      refine ⟨rfl, .ref aR, rfl, aR, ys, rfl, SqL.of (s11 _ _ hRZ), fun l3 hl3 => ?_⟩
      have s12 := same_new hl3 (.lst ys.reverse)
      have z12 := s11.trans s12
      refine ⟨l3, ys.reverse, S'.reverse, rfl, .inr (SqL.of upd_same), ?_, fun r hr => hIs r (List.mem_reverse.mp hr), by rw [List.length_reverse]; exact few, fun H13 v2 S2 s13 hS2 _ hv2 => ?_⟩
      · rw [List.map_reverse]
        exact dpAll_rev (dpAll_same z12 _ _ hysZ)
      obtain rfl : S' = S2 := (hS2.one srtS fun _ => List.mem_reverse).symm
      have z13 := z12.trans s13
      refine ⟨rfl, v2, rfl, again z13 hv2 fun H14 D3 g4 s14 hD3 he4 hv4 => ?_⟩
      have z14 := z13.trans s14
      refine ⟨.ref Dd, rfl, ne_dicts hD3 (z14 _ _ hDdZ) he4 hv4 ⟨false, rfl, iteF ?_⟩⟩
      -- what is mixed
      have hR14 := z14 _ _ hRZ
      have bar14 : Bar p HC H14 := barZ.trans (.same z14)
      have pu14 := puZ.same z14
      refine ⟨.ref aR, rfl, .ref p, rfl, .ref lL, rfl, p, lL, _, 2, 4, lets, rfl, .inr rfl, by decide, by decide, pu14, by omega, nlp, bar14 _ _ nlp hL, ln, hlets, fun H15 aB ysB SB LB bar15 pu15 _ hRB hysB _ _ fewB hRInB _ => ?_⟩
      have hR15 := bar15 _ _ naR hR14
      have hys15 : DpAll K H15 ys (S'.map rd) := (bar15.stay pu14.mut).dpAll _ _ (okDs_rd S') (dpAll_same z14 _ _ hysZ)
      have lys : ys.length = S'.length := by rw [dpAll_len hys, List.length_map]
      have lysB : ysB.length = SB.length := by rw [dpAll_len hysB, List.length_map]
      refine ⟨aR, aB, ys, ysB, rfl, rfl, hR15, hRB, small_line (by omega), fun l4 hl4 => ?_⟩
      have s16 := same_new hl4 (.lst (ys ++ ysB))
      have hall16 : DpAll K (upd H15 l4 (.lst (ys ++ ysB))) (ys ++ ysB) ((S' ++ SB).map rd) := by
        rw [List.map_append]
        exact dpAll_app (dpAll_same s16 _ _ hys15) (dpAll_same s16 _ _ hysB)
      have hIsM : ∀ r ∈ S' ++ SB, IsR r := fun r hr => by
        rcases List.mem_append.mp hr with h | h
        · exact hIs r h
        · exact (hRInB r h).1
      refine ⟨l4, ys ++ ysB, S' ++ SB, rfl, .inl (SqL.of upd_same), hall16, by rw [List.length_append]; omega, fun b M hb hM isP hall => ?_⟩
      have s17 := same_new hb (TSetO w b M)
      refine ⟨b, M, S' ++ SB, rfl, upd_same, (fun e he => ⟨(hM e he).1, (Stay.same s17).dp _ _ (hM e he).1.ok (hM e he).2⟩), isP, hall, fun ysM SM l5 hSM fewM hysM hl5 => ?_⟩
      have s18 := same_new hl5 (.lst ysM)
      have s1518 := s16.trans (s17.trans s18)
      let HM : Hp := upd (upd (upd H15 l4 (.lst (ys ++ ysB))) b (TSetO w b M)) l5 (.lst ysM)
      have hMl : HM l5 = some (.lst ysM) := upd_same
      have hysM' : DpAll K HM ysM (SM.map rd) := (Stay.same s18).dpAll _ _ (okDs_rd SM) hysM
      have hIM : ∀ r ∈ SM, IsR r := fun r hr => hIsM r ((hSM.mem r).mp hr)
      have srtM : Srt SM SM := ⟨hSM.nd, hSM.ris, fun _ => Iff.rfl⟩
      have lysM : ysM.length = SM.length := by rw [dpAll_len hysM, List.length_map]
      have barM : Bar p HC HM := (bar14.trans bar15).trans (.same s1518)
      have puM : Pur HM p _ := pu15.same s1518
      -- the bad ones
      refine ⟨.ref l5, rfl, l5, rfl, ⟨_, SqL.of hMl⟩, fun B hB0 => ?_⟩
      refine lc_list (xs := ysM) (fun n H1 => Same HM H1 ∧ ∃ zs, H1 B = some (.lst zs) ∧ DpAll K H1 zs ((badL (SM.take n)).map rd)) ⟨same_new hB0 _, [], upd_same, .nil⟩ (fun n H1 _ h => SqL.of (h.1 _ _ hMl)) (fun n x H1 hx h => ?_) (fun H16 h => ?_)
      · obtain ⟨sm, zs, hzB, hzs⟩ := h
        obtain ⟨dd, hdd, hxd⟩ := dpAll_at' hysM' hx
        obtain ⟨r, hr0, rfl⟩ := map_at hdd
        have hrM : r ∈ SM := List.mem_of_getElem? hr0
        have nl : n < SM.length := (List.getElem?_eq_some_iff.mp hr0).1
        have lz : zs.length ≤ n := by
          rw [dpAll_len hzs, List.length_map]
          refine Nat.le_trans (List.length_filter_le _ _) ?_
          rw [List.length_take]
          omega
        have hr := hIM r hrM
        have hxd1 := dp_same sm _ _ hxd
        obtain ⟨b0, v1, v2, v3, v4, rfl, hT, g1, g2, g3, g4⟩ := of_rd hxd1
        obtain ⟨c1, rfl, t1⟩ := of_wd g1
        obtain ⟨c2, rfl, t2⟩ := of_wd g2
        have bad_yes : basicB r = false → ∀ H2, Same H1 H2 → ∃ acc, H2 B = some (.lst acc) ∧ acc.length < sizeLine ∧ Same HM (upd H2 B (.lst (acc ++ [.ref b0]))) ∧ ∃ zs, (upd H2 B (.lst (acc ++ [.ref b0]))) B = some (.lst zs) ∧ DpAll K (upd H2 B (.lst (acc ++ [.ref b0]))) zs ((badL (SM.take (n + 1))).map rd) := fun e H2 s2 => by
          have hz2 := s2 _ _ hzB
          have st : Stay H2 (upd H2 B (.lst (zs ++ [.ref b0]))) := .put (mut_lst hz2) _
          refine ⟨zs, hz2, small_line' (by omega), same_put (sm.trans s2) hB0, zs ++ [.ref b0], upd_same, ?_⟩
          have e2 : badL (SM.take (n + 1)) = badL (SM.take n) ++ [r] := filt_t hr0 (by rw [e]; rfl)
          rw [e2, List.map_append]
          exact dpAll_app (((Stay.same s2).trans st).dpAll _ _ (okDs_rd _) hzs) (.cons (((Stay.same s2).trans st).dp _ _ (ok_rd r) hxd1) .nil)
        have bad_no : basicB r = true → ∀ H2, Same H1 H2 → Same HM H2 ∧ ∃ zs, H2 B = some (.lst zs) ∧ DpAll K H2 zs ((badL (SM.take (n + 1))).map rd) := fun e H2 s2 => by
          refine ⟨sm.trans s2, zs, s2 _ _ hzB, ?_⟩
          have e2 : badL (SM.take (n + 1)) = badL (SM.take n) := filt_f hr0 (by rw [e]; rfl)
          rw [e2]
          exact dpAll_same s2 _ _ hzs
        have l1 : (r.1.map V.str).length = r.1.length := List.length_map ..
        refine ⟨rfl, .ref b0, rfl, b0, _, 0, .ref c1, rfl, rfl, hT, rfl, c1, _, rfl, .inr t1, rfl, _, rfl, ?_⟩
        refine ite2 (fun e => ?_) (fun e => ?_)
        · have no : basicB r = false := by
            unfold basicB
            rw [decide_eq_false (fun z => ?_)]
            · rfl
            · rw [l1, z] at e
              exact absurd e (by decide)
          exact ⟨.ref b0, rfl, bad_yes no H1 fun _ _ e => e⟩
        · have one : r.1.length = 1 := by
            have e' : decide (V.int ((r.1.map V.str).length : Int) = V.int 1) = true := by simpa using e
            have := V.int.inj (of_decide_eq_true e')
            rw [l1] at this
            omega
          refine ⟨.ref b0, rfl, b0, _, 1, .ref c2, rfl, rfl, hT, rfl, by show 0 ≤ sizeLine; decide, fun t ht => ?_⟩
          have st := same_new ht (.tup [])
          refine ⟨wd r.2.1, wd [], dp_same st _ _ g2, to_wd (ns := []) (SqT.of upd_same), shaped_of (lay_wd hr.d.names) (by rw [depth_wd]; decide), by decide, _, rfl, ?_⟩
          rw [eqv_wd]
          refine ite2 (fun e2 => ?_) (fun e2 => ?_)
          · have no : basicB r = false := by
              unfold basicB
              have : r.2.1 ≠ [] := by simpa using e2
              rw [List.isEmpty_eq_false_iff.mpr this, Bool.and_false]
            exact ⟨.ref b0, rfl, bad_yes no _ st⟩
          · have yes : basicB r = true := by
              unfold basicB
              have : r.2.1 = [] := by simpa using e2
              rw [decide_eq_true one, this]
              rfl
            exact bad_no yes _ st
      obtain ⟨s16', zs, hBz, hzs⟩ := h
      rw [lysM, List.take_length] at hzs
      have hIb : ∀ r ∈ badL SM, IsR r := fun r hr => hIM r (List.mem_filter.mp hr).1
      refine ⟨6, rfl, by decide, by decide, for_range (n := 6) (fun n σ H17 => (∃ y12, σ = [some (.ref a), some (.ref e1), some (.int (0 + (i : Int))), some (.ref p), some (.ref lL), some (.int (0 + (j : Int))), some (.ref aR), some v, some (.ref D), some (.ref Dd), some (.ref l5), some (.ref B), y12, y13, none, none]) ∧ Same H16 H17) ⟨⟨_, rfl⟩, fun _ _ e => e⟩ (fun n σ H17 hn hI => ?_) (fun σ H17 hI => ?_)⟩
      · obtain ⟨⟨y12', rfl⟩, sm⟩ := hI
        refine ⟨.ref B, rfl, by show 0 ≤ sizeLine; decide, fun e0 he0 => ?_⟩
        have s0 := same_new he0 (.lst [])
        have sm0 := sm.trans s0
        refine ⟨.list ((badL SM).map rd), .list [], .lst (SqL.of (sm0 _ _ hBz)) (dpAll_same sm0 _ _ hzs), .lst (SqL.of upd_same) .nil, (lay_rules hIb).shaped, by decide, _, rfl, ?_⟩
        rw [eqv_nilR]
        refine ite2 (fun e => ?_) (fun e => ?_)
        · have ne : badL SM ≠ [] := by simpa using e
          have smM := s16'.trans sm0
          refine ⟨.int (0 + (n : Int)), rfl, rfl, .ref l5, rfl, l5, ysM, SM, rfl, .inr (SqL.of (smM _ _ hMl)), dpAll_same smM _ _ hysM', hIM, fewM, fun H18 v3 S3 s18 hS3 _ hv3 => ?_⟩
          obtain rfl : SM = S3 := (hS3.one srtM fun _ => Iff.rfl).symm
          refine ⟨0 + (n : Int), v3, rfl, by omega, by omega, fun H19 s19 => .inl ⟨SM, hv3.same s19, hIM, fewM, fun H20 s20 => ⟨fun all => absurd (List.filter_eq_nil_iff.mpr fun r hr => by rw [all r hr]; decide) ne, fun i' r hi' no allb x hx dx hdx => ⟨dx, CB, x, "culprit", rfl, rfl, upd_same, .inr ⟨rfl, rfl, fun H21 l6 s21 hl6 => ?_⟩⟩⟩⟩⟩
          obtain ⟨rest, er⟩ := bad_head hi' no allb
          rw [er, List.map_cons] at hzs
          have hr : IsR r := hIM r (List.mem_of_getElem? hi')
          have sx := same_new hdx (.xd [(("culprit" : Str), x)])
          have s0t := s18.trans (s19.trans (s20.trans (sx.trans s21)))
          cases hzs with
          | @cons z0 _ zt _ hz0 hzt =>
            refine ⟨.ref B, rfl, B, _, 0, z0, rfl, rfl, SqL.of (s0t _ _ (sm0 _ _ hBz)), atI_nat (j := 0) rfl, by show 2 ≤ sizeLine; decide, fun l7 hl7 => ?_⟩
            have s7 := same_new hl7 (.lst [.str "rule", z0])
            refine ne_same (d := pr2 "rule" (rd r)) (.lst (SqL.of (s7 _ _ hl6)) (.cons (.str _) (.cons (dp_same (sx.trans (s21.trans s7)) _ _ hx) .nil))) (.lst (SqL.of upd_same) (.cons (.str _) (.cons (dp_same (sm0.trans (s0t.trans s7)) _ _ hz0) .nil))) (lay_pr2 (by decide +kernel) (lay_rd hr) (Nat.le_trans (depth_rd r) (by decide))) ⟨_, rfl, iteF ?_⟩
            exact ⟨⟨_, rfl⟩, sm0.trans (s0t.trans s7)⟩
        · exact ⟨⟨_, rfl⟩, sm0⟩
      · obtain ⟨⟨y12', rfl⟩, sm⟩ := hI
        exact ⟨⟨_, _, _, _, _, _, _, _, _, rfl⟩, barM.trans (.same (s16'.trans sm)), (puM.same (s16'.trans sm)).le (by omega)⟩
    · obtain ⟨⟨y5, y6, y7, y8, y9, y10, y11, y12, y13, rfl⟩, barD, puD⟩ := hI
      refine ⟨by show 0 ≤ sizeLine; decide, fun u1 h1 => ?_⟩
      have v1 := same_new h1 (.tup [])
      refine ⟨by show 0 ≤ sizeLine; decide, fun u2 h2 => ?_⟩
      have v2 := same_new h2 (.lst [])
      refine ⟨by show 1 ≤ sizeLine; decide, fun u3 h3 => ?_⟩
      have v3 := same_new h3 (.tup [.str "a"])
      refine ⟨by show 0 ≤ sizeLine; decide, fun u4 h4 => ?_⟩
      have v4 := same_new h4 (.tup [])
      refine ⟨by show 0 ≤ sizeLine; decide, fun u5 h5 => ?_⟩
      have v5 := same_new h5 (.tup [])
      refine ⟨by show 0 ≤ sizeLine; decide, fun u6 h6 => ?_⟩
      have v6 := same_new h6 (.tup [])
      refine ⟨by show 4 ≤ sizeLine; decide, fun u7 h7 => ?_⟩
      have v7 := same_new h7 (.tup [.ref u3, .ref u4, .ref u5, .ref u6])
      refine ⟨by show 6 ≤ sizeLine; decide, fun u8 h8 => ?_⟩
      have v8 := same_new h8 (.lst [.non, .ref u1, .ref u2, .str "a :- b.", .int 7, .ref u7])
      have v78 := v7.trans v8
      have v68 := v6.trans v78
      have v58 := v5.trans v68
      have v48 := v4.trans v58
      have v38 := v3.trans v48
      have v28 := v2.trans v38
      have v18 := v1.trans v28
      have pu8 := puD.same v18
      refine ⟨.ref p, rfl, p, 6, _, rfl, pu8, by omega, by decide, by decide, fun r us2 r0 r1 pu9 => ?_⟩
      have n2 : u2 ≠ p := (puD.same v1).some h2
      have n8 : u8 ≠ p := (puD.same (v1.trans (v2.trans (v3.trans (v4.trans (v5.trans (v6.trans v7))))))).some h8
      have all8 : ∀ H', Bar p _ H' → DpAll K H' [.non, .ref u1, .ref u2, .str "a :- b.", .int 7, .ref u7] oddD := fun H' b =>
        have st : Stay _ H' := b.stay pu8.mut
        .cons .non (.cons (to_wd (ns := []) (st.seq (SqT.of (v28 _ _ upd_same)))) (.cons (.lst (SqL.of (b _ _ n2 (v38 _ _ upd_same))) .nil) (.cons (.str _) (.cons (.int _) (.cons (.tup (st.seq (SqT.of (v8 _ _ upd_same))) (.cons (to_wd (ns := ["a"]) (st.seq (SqT.of (v48 _ _ upd_same)))) (.cons (to_wd (ns := []) (st.seq (SqT.of (v58 _ _ upd_same)))) (.cons (to_wd (ns := []) (st.seq (SqT.of (v68 _ _ upd_same)))) (.cons (to_wd (ns := []) (st.seq (SqT.of (v78 _ _ upd_same)))) .nil))))) .nil)))))
      obtain ⟨n, rfl⟩ := Int.eq_ofNat_of_zero_le r0
      have lt : n < 6 := by omega
      have hx : ([V.non, .ref u1, .ref u2, .str "a :- b.", .int 7, .ref u7] : List V)[n]? = some ([V.non, .ref u1, .ref u2, .str "a :- b.", .int 7, .ref u7][n]'lt) := List.getElem?_eq_getElem lt
      have lt2 : n < oddD.length := lt
      have hd : oddD[n]? = some (oddD[n]'lt2) := List.getElem?_eq_getElem lt2
      obtain ⟨g1, g2⟩ := oddD_ok _ (List.mem_of_getElem? hd)
      generalize ([V.non, .ref u1, .ref u2, .str "a :- b.", .int 7, .ref u7][n]'lt) = x at hx
      generalize oddD[n]'lt2 = d at hd g1 g2
      refine ⟨u8, _, n, x, rfl, rfl, SqL.of (Bar.draw (p := p) (o := .lst us2) _ _ n8 upd_same), (atI_nat hx), ?_⟩
      obtain ⟨d', e', hxd⟩ := dpAll_at' (all8 _ (Bar.draw (p := p) (o := .lst us2))) hx
      rw [hd] at e'
      cases e'
      refine ⟨6, rfl, by decide, by decide, fun DA hDA => lc_range (Ans _ DA "thing" x) (Ans.start hDA) (fun n H6 n6 h6 => ?_) (fun H6 h6 => ?_)⟩
      · exact ⟨rfl, .int (0 + (n : Int)), rfl, x, rfl, 0 + (n : Int), x, rfl, by omega, by omega, fun H7 s7 => .inr ⟨d, dp_same (h6.1.trans s7) _ _ hxd, fun dx hdx => ⟨dx, CE, x, "thing", rfl, rfl, upd_same, .inl ⟨rfl, rfl, fun H8 l s8 hl => h6.step hDA (by omega) (s7.trans ((same_new hdx _).trans s8)) hl⟩⟩⟩⟩
      refine ⟨x, rfl, ans_ne h6 (dp_same h6.1 _ _ hxd) (by decide +kernel) g1 g2 (by decide) fun H7 s7 => ⟨false, rfl, iteF ?_⟩⟩
      exact ⟨⟨_, _, _, _, _, _, _, _, _, _, _, _, rfl⟩, up _ (barC.trans (barD.trans ((Bar.same v18).trans (Bar.draw.trans (.same (h6.1.trans s7))))))⟩
  · obtain ⟨⟨y2, y3, y4, y5, y6, y7, y8, y9, y10, y11, y12, y13, rfl⟩, sm⟩ := hI
    dsimp only [tRet, tOp, tCall, tCons]
    refine make0_ok fun H2 v S s2 hS _ hv => ?_
    obtain rfl := srt_nil hS
    refine ⟨v, rfl, .inl ⟨[], hv, (fun _ z => nomatch z), by decide, fun H3 s3 => ⟨fun _ => ⟨[], (fun _ z => nomatch z), by decide, fun H4 D ns2 g s4 _ hD hns hm hg => ?_⟩, fun i r h => by simp at h⟩⟩⟩
    obtain rfl : ns2 = [] := List.eq_nil_iff_forall_not_mem.mpr fun z h => nomatch (hm z).mp h
    exact fun d hd => ⟨D, d, _, [], rfl, rfl, same_new hd _ _ _ hD, upd_same, rfl, (fun _ z => nomatch z), q _⟩
end
end Rw
namespace Rw
open PySem PySem.Spec PyProof.Rows L2
/-! ### a head that tells of defs anywhere, and more -/
def hookY (n : Nat) (fa : List He.Fa) (fn : List He5.DefA) (ex : PySem.W.Frag → Bool) : PySem.W.Hook where
  α := He.AlD × Bool
  obs s := (He5.obsAG n fa fn s.heap.get?, ex (He.frG s.heap.get? (He5.asA s.heap.get? n)))
  val _ := (He5.valA fn, true)
  says _ h := ∃ K : PySem.W.Frag, K.In h ∧ He5.SaysA fa fn K ∧ ex K = true
  of _ s e := ⟨_, He.frG_in, (Prod.mk.inj e).1, (Prod.mk.inj e).2⟩
  keeps _ _ _ | ⟨K, X, a, b⟩, k => ⟨K, fun c o e => k _ _ (X c o e), a, b⟩
def obY (n : Nat) (fa : List He.Fa) (fn : List He5.DefA) (ex : PySem.W.Frag → Bool) (g : Addr → Option Obj) : He.AlD × Bool := (He5.obsAG n fa fn g, ex (He.frG g (He5.asA g n)))
theorem obY_eq {n : Nat} {fa : List He.Fa} {fn : List He5.DefA} {ex : PySem.W.Frag → Bool} {g : Addr → Option Obj} {s : Shared} (h : ∀ a, g a = s.heap.get? a) : obY n fa fn ex g = (hookY n fa fn ex).obs s := by
  have e : g = s.heap.get? := funext h
  subst e
  rfl
/-! ### what a class is, as a test -/
def clsB (K : PySem.W.Frag) (C : Addr) (f : List Value → Addr → Bool → Bool) (nid : String) : Bool :=
  match K.lookup C with
  | some ⟨.type t, _, .cls cd, sl⟩ => decide (t = "type" ∧ cd.hasDel = false) && (decide (cd.mro = .ref C :: cd.mro.tail) && (f cd.mro.tail cd.ns cd.hasDict && (match sl with | ⟨[_, _, _, _, some (.builtin i), _]⟩ => decide (i = nid) | _ => false)))
  | _ => false
theorem clsB_ok {K : PySem.W.Frag} {C : Addr} {f : List Value → Addr → Bool → Bool} {nid : String} (h : clsB K C f nid = true) : ∃ nm q N bs bm hd sn sub ab col dd k0 k1 k2 k3 k5, K.lookup C = some (excClassObj nm q C N bs bm hd sn sub ab col dd k0 k1 k2 k3 k5 nid) ∧ f bm N hd = true := by
  unfold clsB at h
  split at h
  · rename_i t dd cd sl e
    rw [Bool.and_eq_true, Bool.and_eq_true, Bool.and_eq_true] at h
    obtain ⟨h1, h2, h3, h4⟩ := h
    obtain ⟨h1, h0⟩ := of_decide_eq_true h1
    have h2 := of_decide_eq_true h2
    split at h4
    · rename_i k0 k1 k2 k3 i k5
      have h4 := of_decide_eq_true h4
      subst h1 h4
      obtain ⟨nm, bs, mro, ns, q, hd, sn, sub, ab, col, del⟩ := cd
      refine ⟨nm, q, ns, bs, mro.tail, hd, sn, sub, ab, col, dd, k0, k1, k2, k3, k5, ?_, h3⟩
      rw [e]
      have h2' : mro = .ref C :: mro.tail := h2
      have h0' : del = false := h0
      subst h0'
      unfold excClassObj
      rw [← h2']
    · exact nomatch h4
  · exact nomatch h
def strKeysB (es : Array DictEntry) : Bool := es.toList.all fun e => match e.key with | .str _ _ => true | _ => false
theorem strKeysB_ok {es : Array DictEntry} (h : strKeysB es = true) : StrKeys es := fun e he => by
  have z := List.all_eq_true.mp h e (Array.mem_toList_iff.mpr he)
  split at z
  · exact ⟨_, _, by assumption⟩
  · exact nomatch z
def nsB (K : PySem.W.Frag) (N g : Addr) : Bool :=
  match K.lookup N with
  | some ⟨_, _, .dict es _, _⟩ => strKeysB es && (decide (nsFind es "__eq__" = some (.ref g)) && decide (nsFind es "__ne__" = none))
  | _ => false
def fnB (K : PySem.W.Frag) (g : Addr) : Bool :=
  match K.lookup g with
  | some o => decide (o.cls = .type "function")
  | none => false
theorem neC_of {K : PySem.W.Frag} {C g : Addr} (h1 : clsB K C (fun bm N _ => decide (bm = [.type "object"]) && nsB K N g) "object.__new__" = true) (h2 : fnB K g = true) : NeC K C g := by
  obtain ⟨nm, q, N, bs, bm, hd, sn, sub, ab, col, dd, k0, k1, k2, k3, k5, e, hf⟩ := clsB_ok h1
  rw [Bool.and_eq_true] at hf
  obtain ⟨f1, f2⟩ := hf
  have f1 := of_decide_eq_true f1
  subst f1
  constructor
  · unfold nsB at f2
    split at f2
    · rename_i oc od es ep os eN
      rw [Bool.and_eq_true, Bool.and_eq_true] at f2
      obtain ⟨g1, g2, g3⟩ := f2
      exact ⟨nm, q, N, bs, hd, sn, sub, ab, col, dd, k0, k1, k2, k3, k5, "object.__new__", _, es, ep, e, eN, rfl, strKeysB_ok g1, of_decide_eq_true g2, of_decide_eq_true g3⟩
    · exact nomatch f2
  · unfold fnB at h2
    split at h2
    · exact ⟨_, by assumption, of_decide_eq_true h2⟩
    · exact nomatch h2
/-- an own error class, by tests -/
def oexB (K : PySem.W.Frag) (C : Addr) : Bool := clsB K C (fun bm _ hd => hd && HandSPX.refsVE bm) "ValueError.__new__" && (decide (PySem.W.findIn K (.ref C) "__setattr__" = some (some (.builtin "object.__setattr__"))) && (decide (PySem.W.subIn K (.ref C) (.type "BaseException") = some true) && (decide (PySem.W.typeIn K (.ref C) = some (.type "type")) && PySem.W.keepIn K (.ref C))))
theorem oexB_ok {K : PySem.W.Frag} {C : Addr} (h : oexB K C = true) : OexC K C := by
  unfold oexB at h
  rw [Bool.and_eq_true, Bool.and_eq_true, Bool.and_eq_true, Bool.and_eq_true] at h
  obtain ⟨h1, h2, h3, h4, h5⟩ := h
  obtain ⟨nm, q, N, bs, bm, hd, sn, sub, ab, col, dd, k0, k1, k2, k3, k5, e, hf⟩ := clsB_ok h1
  rw [Bool.and_eq_true] at hf
  obtain ⟨f1, f2⟩ := hf
  subst f1
  exact ⟨⟨nm, q, N, bs, bm, sn, sub, ab, col, dd, k0, k1, k2, k3, k5, e, f2⟩, of_decide_eq_true h2, of_decide_eq_true h3, of_decide_eq_true h4, h5⟩
def excP (K : PySem.W.Frag) (D : Addr) : Prop := PySem.W.findIn K (.ref D) "__getattribute__" = some (some (.builtin "BaseException.__getattribute__")) ∧ PySem.W.findIn K (.ref D) "__getattr__" = some none ∧ PySem.W.subIn K (.ref D) (.type "BaseException") = some true ∧ PySem.W.hasDictIn K D = true ∧
  PySem.W.findIn K (.ref D) "__class__" = some (some (.builtin "object.__class__")) ∧ PySem.W.specialIn K (.builtin "object.__class__") "__get__" = some (some (.builtin "getset_descriptor.__get__")) ∧ PySem.W.takesIn K (.builtin "object.__class__") = some true ∧ PySem.W.mroIn K D (.type "object") = some true
instance (K : PySem.W.Frag) (D : Addr) : Decidable (excP K D) := by unfold excP; infer_instance
theorem excP_ok {K : PySem.W.Frag} {D : Addr} (h : excP K D) : ExcC K D := by
  obtain ⟨h1, h2, h3, h4, h5, h6, h7, h8⟩ := h
  exact ⟨h1, h2, h3, h4, h5, h6, h7, h8⟩
def initP (K : PySem.W.Frag) (C : Addr) : Prop := PySem.W.findIn K (.ref C) "__init__" = some (some (.ref (He.ma K C "__init__"))) ∧ PySem.W.typeIn K (.ref (He.ma K C "__init__")) = some (.type "function")
instance (K : PySem.W.Frag) (D : Addr) : Decidable (initP K D) := by unfold initP; infer_instance
def propP (K : PySem.W.Frag) (C : Addr) (f : Str) : Prop := PySem.W.findIn K (.ref C) f = some (some (.ref (He.ma K C f))) ∧ PySem.W.specialIn K (.ref (He.ma K C f)) "__get__" = some (some (.builtin "property.__get__")) ∧ PySem.W.takesIn K (.ref (He.ma K C f)) = some true
instance (K : PySem.W.Frag) (D : Addr) (f : Str) : Decidable (propP K D f) := by unfold propP; infer_instance
def recB (K : PySem.W.Frag) (p : Addr) (T : String) : Bool := match PySem.W.recIn K p T with | some (.ref _ :: _) => true | _ => false
theorem propP_ok {K : PySem.W.Frag} {C : Addr} {f : Str} (h : propP K C f) (r : recB K (He.ma K C f) "property" = true) : PropOf K C f (He.ma K C f) (He5.wf K C "property" f) := by
  obtain ⟨h1, h2, h3⟩ := h
  refine ⟨h1, h2, h3, ?_⟩
  unfold recB at r
  unfold He5.wf
  split at r
  · rename_i a l e
    rw [e]
    exact ⟨_, rfl⟩
  · exact nomatch r
end Rw
namespace Rw
open PySem PySem.Spec PyProof.Rows L2 ClX
/-! ### what the top has written -/
def dOf (x : Str) (st : Stmt) : He5.DefA := ⟨fun K => He.ga K x, x, x, defArgs st, defBody st, defScope st, [], []⟩
def dMInit : He5.DefA := ⟨fun K => He.ma K (He.ga K "Program") "__init__", "__init__", "Program.__init__", defArgs sInit, defBody sInit, defScope sInit, [], []⟩
def dMOf : He5.DefA := ⟨fun K => He5.wf K (He.ga K "Program") "classmethod" "of", "of", "Program.of", defArgs sOf, defBody sOf, defScope sOf, [], []⟩
def dMRules : He5.DefA := ⟨fun K => He5.wf K (He.ga K "Program") "property" "rules", "rules", "Program.rules", defArgs sRules, defBody sRules, defScope sRules, [], []⟩
def dMNames : He5.DefA := ⟨fun K => He5.wf K (He.ga K "Program") "property" "names", "names", "Program.names", defArgs sNames, defBody sNames, defScope sNames, [], []⟩
def dMENotProg : He5.DefA := ⟨fun K => He.ma K (He.ga K "NotAProgram") "__init__", "__init__", "NotAProgram.__init__", defArgs sENotProg, defBody sENotProg, defScope sENotProg, [.non], []⟩
def dMENotBasic : He5.DefA := ⟨fun K => He.ma K (He.ga K "NotBasic") "__init__", "__init__", "NotBasic.__init__", defArgs sENotBasic, defBody sENotBasic, defScope sENotBasic, [.non], []⟩
def hfn : List He5.DefA := [dOf "is_name" sIsName, dOf "_are_names" sAreNames, dOf "_set_of" sSetOf, dOf "is_world" sIsWorld, dOf "is_rule" sIsRule, dOf "has_all" sHasAll, dOf "meet" sMeet, dOf "check_program" sCheckProgram, dOf "_check_basic" sCheckBasic, dOf "_heads" sHeads, dOf "_show" sShow, dOf "_reasons" sReasons, dOf "_steps_to_all" sSteps, dOf "_founded_values" sFounded, dOf "values" sValues, dOf "record" sRecord, dOf "check_record" sCheckRecord, dOf "_law_at" sLawAt, dOf "_law_mixed" sLawMixed, dOf "_law_purse" sLawPurse, dOf "_law_draw" sLawDraw, dOf "_law_some" sLawSome, dOf "_law_rule" sLawRule, dOf "_law_rules" sLawRules, dOf "_law_names_in" sLawNames, dOf "_law_closed" sLawClosed, dOf "_law_values" sLawValues, dOf "_law_caught" sLawCaught, dOf "law" sLaw, dMInit, dMOf, dMRules, dMNames, dMENotProg, dMENotBasic]
def hfa1 : List He.Fa := [.free "len", .free "isinstance", .free "all", .free "any", .free "tuple", .free "list", .free "sorted", .free "set", .free "str", .free "int", .free "max", .free "min", .free "range", .free "enumerate", .free "dict", .str "LETTERS" lettersS, .glo "Program", .glo "NotAProgram", .glo "NotBasic", .glo "RuleError", .glo "is_name", .glo "_are_names", .glo "_set_of", .glo "is_world", .glo "is_rule", .glo "has_all", .glo "meet", .glo "check_program", .glo "_check_basic", .glo "_heads"]
def hfa2 : List He.Fa := [.glo "_show", .glo "_reasons", .glo "_steps_to_all", .glo "_founded_values", .glo "values", .glo "record", .glo "check_record", .glo "_law_at", .glo "_law_mixed", .glo "_law_purse", .glo "_law_draw", .glo "_law_some", .glo "_law_rule", .glo "_law_rules", .glo "_law_names_in", .glo "_law_closed", .glo "_law_values", .glo "_law_caught", .glo "law", .cls "Program", .noat "Program" "_rules", .mkr "Program", .noat "NotAProgram" "thing", .noat "NotBasic" "culprit", .exm "NotAProgram" "RuleError" true, .exm "NotBasic" "RuleError" true]
def hfa : List He.Fa := hfa1 ++ hfa2
/-- more of the classes -/
def pgP (K : PySem.W.Frag) (C : Addr) : Prop := PySem.W.kitOne K (.ref C) (.ref C) = some true ∧ PySem.W.kitOne K (.type "NoneType") (.ref C) = some false ∧ PySem.W.kitOne K (.type "bool") (.ref C) = some false ∧ PySem.W.kitOne K (.type "int") (.ref C) = some false ∧ PySem.W.kitOne K (.type "str") (.ref C) = some false ∧
  PySem.W.kitOne K (.type "list") (.ref C) = some false ∧ PySem.W.kitOne K (.type "tuple") (.ref C) = some false ∧ PySem.W.kitOne K (.type "dict") (.ref C) = some false ∧ PySem.W.findIn K (.ref C) "__class__" = some (some (.builtin "object.__class__")) ∧
  PySem.W.specialIn K (.builtin "object.__class__") "__get__" = some (some (.builtin "getset_descriptor.__get__")) ∧ PySem.W.takesIn K (.builtin "object.__class__") = some true ∧ PySem.W.mroIn K C (.type "object") = some true
instance (K : PySem.W.Frag) (C : Addr) : Decidable (pgP K C) := by unfold pgP; infer_instance
def kitP (K : PySem.W.Frag) (E B : Addr) : Prop := PySem.W.kitOne K (.ref E) (.ref E) = some true ∧ PySem.W.kitOne K (.ref B) (.ref E) = some false ∧ PySem.W.kitOne K (.ref B) (.ref B) = some true
instance (K : PySem.W.Frag) (E B : Addr) : Decidable (kitP K E B) := by unfold kitP; infer_instance
def readP (K : PySem.W.Frag) (C : Addr) : Prop := PySem.W.readsIn K C (.type "type") = true ∧ PySem.W.specialIn K (.ref C) "__getattribute__" = some (some (.builtin "type.__getattribute__"))
instance (K : PySem.W.Frag) (C : Addr) : Decidable (readP K C) := by unfold readP; infer_instance
def exL (K : PySem.W.Frag) (C E B : Addr) : List Bool := [decide (pgP K C), decide (kitP K E B), decide (readP K C), oexB K E, oexB K B, decide (excP K E), decide (excP K B), decide (initP K E), decide (initP K B),
  decide (propP K C "rules"), recB K (He.ma K C "rules") "property", decide (propP K C "names"), recB K (He.ma K C "names") "property", He5.wrapB K C "classmethod" "classmethod.__get__" "of", PySem.W.fnIn K (He5.wf K C "classmethod" "of")]
def exB (K : PySem.W.Frag) : Bool := (exL K (He.ga K "Program") (He.ga K "NotAProgram") (He.ga K "NotBasic")).all id
theorem exL_at {K : PySem.W.Frag} {C E B : Addr} (h : (exL K C E B).all id = true) (i : Nat) {b : Bool} (e : (exL K C E B)[i]? = some b) : b = true := List.all_eq_true.mp h b (List.mem_of_getElem? e)
theorem pgC_of {K : PySem.W.Frag} {mg : Str → Option Value} {C : Addr} (h : pgP K C) (m : mg "Program" = some (.ref C)) (c : Cls K C) : PgC K mg C := by
  obtain ⟨h1, h2, h3, h4, h5, h6, h7, h8, h9, h10, h11, h12⟩ := h
  exact ⟨h1, h2, h3, h4, h5, h6, h7, h8, m, c, h9, h10, h11, h12⟩
abbrev hR : PySem.W.OpenRow := PySem.W.OpenLaw.row PySem.Challenge.rw_ruleworlds_k30_founded_values
abbrev hH : PySem.W.Hook := hookY 6 hfa hfn exB
def hob (s : PySem.W.SharedT) : He.AlD × Bool := obY 6 hfa hfn exB (HandSHeadRun.getT s)
theorem hob_eq (s : PySem.W.SharedT) : hob s = hH.obs s.abs := obY_eq (HandSHeadRun.getT_eq s)
def hloose1 : List Str := ["_wall", "RuleError", "InvalidRule", "NotAProgram", "Unreadable", "NotBasic", "LETTERS", "NOT", "is_name", "is_world", "is_rule", "Program", "_are_names", "_set_of", "_written_rule", "_with_not", "_read_rule", "_halves", "_without_not", "has_all", "meet", "check_program", "values", "record", "check_record", "_check_basic", "_founded_values", "_steps_to_all", "_reasons", "_heads"]
def hloose2 : List Str := ["_show", "_is_allowed", "_may_rise", "_may_fall", "_is_stopped", "_law_at", "_law_mixed", "_law_purse", "_law_draw", "_law_some", "_law_rule", "_law_rules", "_law_names_in", "_law_closed", "_law_values", "_law_caught"]
def hloose : List Str := hloose1 ++ hloose2
theorem hrun (w : World) : HandSHeadRun.RunEq hR (PySem.W.view hR.prog [51]) hH hob 9000 hloose w := by
  intro os
  kernel_rfl
theorem hfacts {P : Program} {w : World} {K : PySem.W.Frag} {h : Heap} {mg : Str → Option Value} {f : Addr} (X : K.In h) (G : h.Ns mainGlobals mg) (hfa_ : mg ("law" : Str) = some (.ref f)) (c : He5.SaysA hfa hfn K) (ce : exB K = true) :
    ∃ fd : FuncData, (∀ (s : Shared) (v : Value), BindsTo s fd ⟨[v], []⟩ [("script", v)]) ∧ ∀ base : Heap, K.In base → base.Ns mainGlobals mg → FnOk P w K mg base CX0 8 f fd ["script"] (spLaw K) := by
  obtain ⟨fd0, D0⟩ := c.def_ 0 (d := dOf "is_name" sIsName) rfl
  have F0 : Fun K "is_name" "is_name" sIsName _ fd0 := fun_of D0
  have B0 := D0.bindsN (ps := ["thing"]) fun _ _ _ _ _ _ us hl => match us, hl with | [_], _ => rfl
  have M0 : mg "is_name" = _ := He.glo_ok X G (c.fact 20 (f := .glo "is_name") rfl)
  obtain ⟨fd1, D1⟩ := c.def_ 1 (d := dOf "_are_names" sAreNames) rfl
  have F1 : Fun K "_are_names" "_are_names" sAreNames _ fd1 := fun_of D1
  have B1 := D1.bindsN (ps := ["thing"]) fun _ _ _ _ _ _ us hl => match us, hl with | [_], _ => rfl
  have M1 : mg "_are_names" = _ := He.glo_ok X G (c.fact 21 (f := .glo "_are_names") rfl)
  obtain ⟨fd2, D2⟩ := c.def_ 2 (d := dOf "_set_of" sSetOf) rfl
  have F2 : Fun K "_set_of" "_set_of" sSetOf _ fd2 := fun_of D2
  have B2 := D2.bindsN (ps := ["names"]) fun _ _ _ _ _ _ us hl => match us, hl with | [_], _ => rfl
  have M2 : mg "_set_of" = _ := He.glo_ok X G (c.fact 22 (f := .glo "_set_of") rfl)
  obtain ⟨fd3, D3⟩ := c.def_ 3 (d := dOf "is_world" sIsWorld) rfl
  have F3 : Fun K "is_world" "is_world" sIsWorld _ fd3 := fun_of D3
  have B3 := D3.bindsN (ps := ["thing"]) fun _ _ _ _ _ _ us hl => match us, hl with | [_], _ => rfl
  have M3 : mg "is_world" = _ := He.glo_ok X G (c.fact 23 (f := .glo "is_world") rfl)
  obtain ⟨fd4, D4⟩ := c.def_ 4 (d := dOf "is_rule" sIsRule) rfl
  have F4 : Fun K "is_rule" "is_rule" sIsRule _ fd4 := fun_of D4
  have B4 := D4.bindsN (ps := ["thing"]) fun _ _ _ _ _ _ us hl => match us, hl with | [_], _ => rfl
  have M4 : mg "is_rule" = _ := He.glo_ok X G (c.fact 24 (f := .glo "is_rule") rfl)
  obtain ⟨fd5, D5⟩ := c.def_ 5 (d := dOf "has_all" sHasAll) rfl
  have F5 : Fun K "has_all" "has_all" sHasAll _ fd5 := fun_of D5
  have B5 := D5.bindsN (ps := ["names", "wanted"]) fun _ _ _ _ _ _ us hl => match us, hl with | [_, _], _ => rfl
  have M5 : mg "has_all" = _ := He.glo_ok X G (c.fact 25 (f := .glo "has_all") rfl)
  obtain ⟨fd6, D6⟩ := c.def_ 6 (d := dOf "meet" sMeet) rfl
  have F6 : Fun K "meet" "meet" sMeet _ fd6 := fun_of D6
  have B6 := D6.bindsN (ps := ["one", "other"]) fun _ _ _ _ _ _ us hl => match us, hl with | [_, _], _ => rfl
  have M6 : mg "meet" = _ := He.glo_ok X G (c.fact 26 (f := .glo "meet") rfl)
  obtain ⟨fd7, D7⟩ := c.def_ 7 (d := dOf "check_program" sCheckProgram) rfl
  have F7 : Fun K "check_program" "check_program" sCheckProgram _ fd7 := fun_of D7
  have B7 := D7.bindsN (ps := ["thing"]) fun _ _ _ _ _ _ us hl => match us, hl with | [_], _ => rfl
  have M7 : mg "check_program" = _ := He.glo_ok X G (c.fact 27 (f := .glo "check_program") rfl)
  obtain ⟨fd8, D8⟩ := c.def_ 8 (d := dOf "_check_basic" sCheckBasic) rfl
  have F8 : Fun K "_check_basic" "_check_basic" sCheckBasic _ fd8 := fun_of D8
  have B8 := D8.bindsN (ps := ["program"]) fun _ _ _ _ _ _ us hl => match us, hl with | [_], _ => rfl
  have M8 : mg "_check_basic" = _ := He.glo_ok X G (c.fact 28 (f := .glo "_check_basic") rfl)
  obtain ⟨fd9, D9⟩ := c.def_ 9 (d := dOf "_heads" sHeads) rfl
  have F9 : Fun K "_heads" "_heads" sHeads _ fd9 := fun_of D9
  have B9 := D9.bindsN (ps := ["rows"]) fun _ _ _ _ _ _ us hl => match us, hl with | [_], _ => rfl
  have M9 : mg "_heads" = _ := He.glo_ok X G (c.fact 29 (f := .glo "_heads") rfl)
  obtain ⟨fd10, D10⟩ := c.def_ 10 (d := dOf "_show" sShow) rfl
  have F10 : Fun K "_show" "_show" sShow _ fd10 := fun_of D10
  have B10 := D10.bindsN (ps := ["shown", "step"]) fun _ _ _ _ _ _ us hl => match us, hl with | [_, _], _ => rfl
  have M10 : mg "_show" = _ := He.glo_ok X G (c.fact 30 (f := .glo "_show") rfl)
  obtain ⟨fd11, D11⟩ := c.def_ 11 (d := dOf "_reasons" sReasons) rfl
  have F11 : Fun K "_reasons" "_reasons" sReasons _ fd11 := fun_of D11
  have B11 := D11.bindsN (ps := ["program", "world"]) fun _ _ _ _ _ _ us hl => match us, hl with | [_, _], _ => rfl
  have M11 : mg "_reasons" = _ := He.glo_ok X G (c.fact 31 (f := .glo "_reasons") rfl)
  obtain ⟨fd12, D12⟩ := c.def_ 12 (d := dOf "_steps_to_all" sSteps) rfl
  have F12 : Fun K "_steps_to_all" "_steps_to_all" sSteps _ fd12 := fun_of D12
  have B12 := D12.bindsN (ps := ["program"]) fun _ _ _ _ _ _ us hl => match us, hl with | [_], _ => rfl
  have M12 : mg "_steps_to_all" = _ := He.glo_ok X G (c.fact 32 (f := .glo "_steps_to_all") rfl)
  obtain ⟨fd13, D13⟩ := c.def_ 13 (d := dOf "_founded_values" sFounded) rfl
  have F13 : Fun K "_founded_values" "_founded_values" sFounded _ fd13 := fun_of D13
  have B13 := D13.bindsN (ps := ["program"]) fun _ _ _ _ _ _ us hl => match us, hl with | [_], _ => rfl
  have M13 : mg "_founded_values" = _ := He.glo_ok X G (c.fact 33 (f := .glo "_founded_values") rfl)
  obtain ⟨fd14, D14⟩ := c.def_ 14 (d := dOf "values" sValues) rfl
  have F14 : Fun K "values" "values" sValues _ fd14 := fun_of D14
  have B14 := D14.bindsN (ps := ["program"]) fun _ _ _ _ _ _ us hl => match us, hl with | [_], _ => rfl
  have M14 : mg "values" = _ := He.glo_ok X G (c.fact 34 (f := .glo "values") rfl)
  obtain ⟨fd15, D15⟩ := c.def_ 15 (d := dOf "record" sRecord) rfl
  have F15 : Fun K "record" "record" sRecord _ fd15 := fun_of D15
  have B15 := D15.bindsN (ps := ["program"]) fun _ _ _ _ _ _ us hl => match us, hl with | [_], _ => rfl
  have M15 : mg "record" = _ := He.glo_ok X G (c.fact 35 (f := .glo "record") rfl)
  obtain ⟨fd16, D16⟩ := c.def_ 16 (d := dOf "check_record" sCheckRecord) rfl
  have F16 : Fun K "check_record" "check_record" sCheckRecord _ fd16 := fun_of D16
  have B16 := D16.bindsN (ps := ["program", "thing"]) fun _ _ _ _ _ _ us hl => match us, hl with | [_, _], _ => rfl
  have M16 : mg "check_record" = _ := He.glo_ok X G (c.fact 36 (f := .glo "check_record") rfl)
  obtain ⟨fd17, D17⟩ := c.def_ 17 (d := dOf "_law_at" sLawAt) rfl
  have F17 : Fun K "_law_at" "_law_at" sLawAt _ fd17 := fun_of D17
  have B17 := D17.bindsN (ps := ["script", "k"]) fun _ _ _ _ _ _ us hl => match us, hl with | [_, _], _ => rfl
  have M17 : mg "_law_at" = _ := He.glo_ok X G (c.fact 37 (f := .glo "_law_at") rfl)
  obtain ⟨fd18, D18⟩ := c.def_ 18 (d := dOf "_law_mixed" sLawMixed) rfl
  have F18 : Fun K "_law_mixed" "_law_mixed" sLawMixed _ fd18 := fun_of D18
  have B18 := D18.bindsN (ps := ["cell", "k"]) fun _ _ _ _ _ _ us hl => match us, hl with | [_, _], _ => rfl
  have M18 : mg "_law_mixed" = _ := He.glo_ok X G (c.fact 38 (f := .glo "_law_mixed") rfl)
  obtain ⟨fd19, D19⟩ := c.def_ 19 (d := dOf "_law_purse" sLawPurse) rfl
  have F19 : Fun K "_law_purse" "_law_purse" sLawPurse _ fd19 := fun_of D19
  have B19 := D19.bindsN (ps := ["script", "at"]) fun _ _ _ _ _ _ us hl => match us, hl with | [_, _], _ => rfl
  have M19 : mg "_law_purse" = _ := He.glo_ok X G (c.fact 39 (f := .glo "_law_purse") rfl)
  obtain ⟨fd20, D20⟩ := c.def_ 20 (d := dOf "_law_draw" sLawDraw) rfl
  have F20 : Fun K "_law_draw" "_law_draw" sLawDraw _ fd20 := fun_of D20
  have B20 := D20.bindsN (ps := ["purse", "out_of"]) fun _ _ _ _ _ _ us hl => match us, hl with | [_, _], _ => rfl
  have M20 : mg "_law_draw" = _ := He.glo_ok X G (c.fact 40 (f := .glo "_law_draw") rfl)
  obtain ⟨fd21, D21⟩ := c.def_ 21 (d := dOf "_law_some" sLawSome) rfl
  have F21 : Fun K "_law_some" "_law_some" sLawSome _ fd21 := fun_of D21
  have B21 := D21.bindsN (ps := ["purse", "names", "most"]) fun _ _ _ _ _ _ us hl => match us, hl with | [_, _, _], _ => rfl
  have M21 : mg "_law_some" = _ := He.glo_ok X G (c.fact 41 (f := .glo "_law_some") rfl)
  obtain ⟨fd22, D22⟩ := c.def_ 22 (d := dOf "_law_rule" sLawRule) rfl
  have F22 : Fun K "_law_rule" "_law_rule" sLawRule _ fd22 := fun_of D22
  have B22 := D22.bindsN (ps := ["purse", "names", "sort"]) fun _ _ _ _ _ _ us hl => match us, hl with | [_, _, _], _ => rfl
  have M22 : mg "_law_rule" = _ := He.glo_ok X G (c.fact 42 (f := .glo "_law_rule") rfl)
  obtain ⟨fd23, D23⟩ := c.def_ 23 (d := dOf "_law_rules" sLawRules) rfl
  have F23 : Fun K "_law_rules" "_law_rules" sLawRules _ fd23 := fun_of D23
  have B23 := D23.bindsN (ps := ["purse", "names", "sort", "most"]) fun _ _ _ _ _ _ us hl => match us, hl with | [_, _, _, _], _ => rfl
  have M23 : mg "_law_rules" = _ := He.glo_ok X G (c.fact 43 (f := .glo "_law_rules") rfl)
  obtain ⟨fd24, D24⟩ := c.def_ 24 (d := dOf "_law_names_in" sLawNames) rfl
  have F24 : Fun K "_law_names_in" "_law_names_in" sLawNames _ fd24 := fun_of D24
  have B24 := D24.bindsN (ps := ["rules"]) fun _ _ _ _ _ _ us hl => match us, hl with | [_], _ => rfl
  have M24 : mg "_law_names_in" = _ := He.glo_ok X G (c.fact 44 (f := .glo "_law_names_in") rfl)
  obtain ⟨fd25, D25⟩ := c.def_ 25 (d := dOf "_law_closed" sLawClosed) rfl
  have F25 : Fun K "_law_closed" "_law_closed" sLawClosed _ fd25 := fun_of D25
  have B25 := D25.bindsN (ps := ["rules", "barring"]) fun _ _ _ _ _ _ us hl => match us, hl with | [_, _], _ => rfl
  have M25 : mg "_law_closed" = _ := He.glo_ok X G (c.fact 45 (f := .glo "_law_closed") rfl)
  obtain ⟨fd26, D26⟩ := c.def_ 26 (d := dOf "_law_values" sLawValues) rfl
  have F26 : Fun K "_law_values" "_law_values" sLawValues _ fd26 := fun_of D26
  have B26 := D26.bindsN (ps := ["rules", "names"]) fun _ _ _ _ _ _ us hl => match us, hl with | [_, _], _ => rfl
  have M26 : mg "_law_values" = _ := He.glo_ok X G (c.fact 46 (f := .glo "_law_values") rfl)
  obtain ⟨fd27, D27⟩ := c.def_ 27 (d := dOf "_law_caught" sLawCaught) rfl
  have F27 : Fun K "_law_caught" "_law_caught" sLawCaught _ fd27 := fun_of D27
  have B27 := D27.bindsN (ps := ["way", "thing"]) fun _ _ _ _ _ _ us hl => match us, hl with | [_, _], _ => rfl
  have M27 : mg "_law_caught" = _ := He.glo_ok X G (c.fact 47 (f := .glo "_law_caught") rfl)
  obtain ⟨fd28, D28⟩ := c.def_ 28 (d := dOf "law" sLaw) rfl
  have F28 : Fun K "law" "law" sLaw _ fd28 := fun_of D28
  have B28 := D28.bindsN (ps := ["script"]) fun _ _ _ _ _ _ us hl => match us, hl with | [_], _ => rfl
  have M28 : mg "law" = _ := He.glo_ok X G (c.fact 48 (f := .glo "law") rfl)
  obtain ⟨fdInit, DInit⟩ := c.def_ 29 (d := dMInit) rfl
  have FInit : Fun K "__init__" "Program.__init__" sInit _ fdInit := fun_of DInit
  obtain ⟨fdOf, DOf⟩ := c.def_ 30 (d := dMOf) rfl
  have FOf : Fun K "of" "Program.of" sOf _ fdOf := fun_of DOf
  have BOf := DOf.bindsN (ps := ["cls", "rules"]) fun _ _ _ _ _ _ us hl => match us, hl with | [_, _], _ => rfl
  obtain ⟨fdRules, DRules⟩ := c.def_ 31 (d := dMRules) rfl
  have FRules : Fun K "rules" "Program.rules" sRules _ fdRules := fun_of DRules
  have BRules := DRules.bindsN (ps := ["self"]) fun _ _ _ _ _ _ us hl => match us, hl with | [_], _ => rfl
  obtain ⟨fdNames, DNames⟩ := c.def_ 32 (d := dMNames) rfl
  have FNames : Fun K "names" "Program.names" sNames _ fdNames := fun_of DNames
  have BNames := DNames.bindsN (ps := ["self"]) fun _ _ _ _ _ _ us hl => match us, hl with | [_], _ => rfl
  obtain ⟨fdENotProg, DENotProg⟩ := c.def_ 33 (d := dMENotProg) rfl
  have EENotProg : FunD K "__init__" "NotAProgram.__init__" (defArgs sENotProg) (defBody sENotProg) (defScope sENotProg) [.non] [] _ fdENotProg := DENotProg
  obtain ⟨dsENotProg, vENotProg, BENotProg⟩ := EENotProg.binds1 (ps := ["self", "thing"]) 2 1 (by simp) rfl fun T kV doc pm an cdv ct us its h1 h2 => match us, its, h1, h2 with | [_, _], [_], _, _ => ⟨_, rfl, rfl⟩
  cases vENotProg
  obtain ⟨fdENotBasic, DENotBasic⟩ := c.def_ 34 (d := dMENotBasic) rfl
  have EENotBasic : FunD K "__init__" "NotBasic.__init__" (defArgs sENotBasic) (defBody sENotBasic) (defScope sENotBasic) [.non] [] _ fdENotBasic := DENotBasic
  obtain ⟨dsENotBasic, vENotBasic, BENotBasic⟩ := EENotBasic.binds1 (ps := ["self", "culprit"]) 2 1 (by simp) rfl fun T kV doc pm an cdv ct us its h1 h2 => match us, its, h1, h2 with | [_, _], [_], _, _ => ⟨_, rfl, rfl⟩
  cases vENotBasic
  have mProgram : mg "Program" = _ := He.glo_ok X G (c.fact 16 (f := .glo "Program") rfl)
  have mNotAProgram : mg "NotAProgram" = _ := He.glo_ok X G (c.fact 17 (f := .glo "NotAProgram") rfl)
  have mNotBasic : mg "NotBasic" = _ := He.glo_ok X G (c.fact 18 (f := .glo "NotBasic") rfl)
  have mRuleError : mg "RuleError" = _ := He.glo_ok X G (c.fact 19 (f := .glo "RuleError") rfl)
  have T : Bl mg := ⟨He.free_ok X G (c.fact 0 (f := .free "len") rfl), He.free_ok X G (c.fact 1 (f := .free "isinstance") rfl), He.free_ok X G (c.fact 2 (f := .free "all") rfl), He.free_ok X G (c.fact 3 (f := .free "any") rfl), He.free_ok X G (c.fact 4 (f := .free "tuple") rfl), He.free_ok X G (c.fact 5 (f := .free "list") rfl), He.free_ok X G (c.fact 6 (f := .free "sorted") rfl), He.free_ok X G (c.fact 7 (f := .free "set") rfl), He.free_ok X G (c.fact 8 (f := .free "str") rfl), He.free_ok X G (c.fact 9 (f := .free "int") rfl), He.free_ok X G (c.fact 10 (f := .free "max") rfl), He.free_ok X G (c.fact 11 (f := .free "min") rfl), He.free_ok X G (c.fact 12 (f := .free "range") rfl), He.free_ok X G (c.fact 13 (f := .free "enumerate") rfl)⟩
  have mL := He.str_ok X G (c.fact 15 (f := .str "LETTERS" lettersS) rfl)
  have cP := He.cls_ok (c.fact 49 (f := .cls "Program") rfl)
  have nR := He.noat_ok (c.fact 50 (f := .noat "Program" "_rules") rfl)
  have MK := He.mkr_ok (c.fact 51 (f := .mkr "Program") rfl)
  have Td := He.free_ok X G (c.fact 14 (f := .free "dict") rfl)
  have noNotAProgram := He.noat_ok (c.fact 52 (f := .noat "NotAProgram" "thing") rfl)
  have exNotAProgram := He.exm_ok (c.fact 54 (f := .exm "NotAProgram" "RuleError" true) rfl)
  have noNotBasic := He.noat_ok (c.fact 53 (f := .noat "NotBasic" "culprit") rfl)
  have exNotBasic := He.exm_ok (c.fact 55 (f := .exm "NotBasic" "RuleError" true) rfl)
  have ce' : (exL K (He.ga K "Program") (He.ga K "NotAProgram") (He.ga K "NotBasic")).all id = true := ce
  have PG := pgC_of (of_decide_eq_true (exL_at ce' 0 rfl)) mProgram cP
  obtain ⟨kt1, kt2, kt3⟩ := of_decide_eq_true (exL_at ce' 1 rfl)
  obtain ⟨rd1, rd2⟩ := of_decide_eq_true (exL_at ce' 2 rfl)
  have CR : CRead K (He.ga K "Program") (.type "type") := ⟨rd1, rd2⟩
  have oE := oexB_ok (exL_at ce' 3 rfl)
  have oB := oexB_ok (exL_at ce' 4 rfl)
  have eE := excP_ok (of_decide_eq_true (exL_at ce' 5 rfl))
  have eB := excP_ok (of_decide_eq_true (exL_at ce' 6 rfl))
  obtain ⟨iE1, iE2⟩ := of_decide_eq_true (exL_at ce' 7 rfl)
  obtain ⟨iB1, iB2⟩ := of_decide_eq_true (exL_at ce' 8 rfl)
  have PR := propP_ok (of_decide_eq_true (exL_at ce' 9 rfl)) (exL_at ce' 10 rfl)
  have PN := propP_ok (of_decide_eq_true (exL_at ce' 11 rfl)) (exL_at ce' 12 rfl)
  have CM := He5.cmet_of (exL_at ce' 13 rfl) (exL_at ce' 14 rfl)
  have EK : ErrK K mg (He.ga K "NotAProgram") (He.ga K "NotBasic") (He.ga K "RuleError") := ⟨mNotAProgram, mNotBasic, mRuleError, exNotAProgram, exNotBasic, eE, eB, noNotAProgram, noNotBasic, kt1, kt2, kt3⟩
  have e := hfa_.symm.trans M28
  cases e
  refine ⟨fd28, fun s v => ?_, fun base _ _ => ?_⟩
  · exact FunD.bindsA (ps := ["script"]) D28 (fun _ _ _ _ _ _ us hl => match us, hl with | [_], _ => rfl) s [v] rfl
  have gIsName : ∀ k, FnOk P w K mg base CX0 (k + 1) _ fd0 ["thing"] (spIsName K) := fun k => ok_isName (k := k) F0 T mL
  have gAre : ∀ k, FnOk P w K mg base CX0 (k + 2) _ fd1 ["thing"] (spAreNames K) := fun k => ok_areNames (k := k + 1) F1 T (gIsName k) B0 F0.kp M0
  have gSet : ∀ k, FnOk P w K mg base CX0 (k + 1) _ fd2 ["names"] (spSetOf K) := fun k => ok_setOf (k := k) F2 T
  have gIsW : ∀ k, FnOk P w K mg base CX0 (k + 3) _ fd3 ["thing"] (spIsWorld K) := fun k => ok_isWorld (k := k + 2) F3 T (gAre k) B1 F1.kp M1 (gSet (k + 1)) B2 F2.kp M2
  have gIsR : ∀ k, FnOk P w K mg base CX0 (k + 4) _ fd4 ["thing"] (spIsRule K) := fun k => ok_isRule (k := k + 3) F4 T (gIsW k) B3 F3.kp M3
  have gHas : ∀ k, FnOk P w K mg base CX0 (k + 1) _ fd5 ["names", "wanted"] (spHasAll K) := fun k => ok_hasAll (k := k) F5 T
  have gMeet : ∀ k, FnOk P w K mg base CX0 (k + 1) _ fd6 ["one", "other"] (spMeet K) := fun k => ok_meet (k := k) F6 T
  have gInit : ∀ k, FnR P w K mg base CX0 (k + 5) _ (spInit K (He.ga K "Program")) := fun k => by
    obtain ⟨oc, od, kV, doc, pm, an, cdv, ct, osl, e, lk, hcd⟩ := FInit.ex
    subst e
    exact ok_init (k := k + 4) lk hcd T cP nR (gIsR k) B4 F4.kp M4
  have gOf : ∀ k, FnR P w K mg base CX0 (k + 7) _ (spOf K (He.ga K "Program")) := fun k => fnr_of (ok_of (k := k + 5) FOf MK (gInit k)) BOf
  have gRules : ∀ k, FnOk P w K mg base CX0 (k + 1) _ fdRules ["self"] (spRules K (He.ga K "Program")) := fun k => ok_rules (k := k) FRules cP nR
  have gNames : ∀ k, FnOk P w K mg base CX0 (k + 1) _ fdNames ["self"] (spNames K (He.ga K "Program")) := fun k => ok_names (k := k) FNames T cP nR
  have xE : ∀ k, ErrT P w K mg base (k + 1) "NotAProgram" "thing" (He.ga K "NotAProgram") := fun k => ⟨oE, ⟨_, _, iE1, iE2, ok_eNotProg (k := k) EENotProg oE noNotAProgram, BENotProg⟩, mNotAProgram⟩
  have xB : ∀ k, ErrT P w K mg base (k + 1) "NotBasic" "culprit" (He.ga K "NotBasic") := fun k => ⟨oB, ⟨_, _, iB1, iB2, ok_eNotBasic (k := k) EENotBasic oB noNotBasic, BENotBasic⟩, mNotBasic⟩
  have gHasD : ∀ k, FnOk P w K mg base CX0 (k + 1) _ fd5 ["names", "wanted"] (spHasAllD K) := fun k => ok_hasAllD (k := k) F5 T
  have gMeetD : ∀ k, FnOk P w K mg base CX0 (k + 1) _ fd6 ["one", "other"] (spMeetD K) := fun k => ok_meetD (k := k) F6 T
  have gHeads : ∀ k, FnOk P w K mg base CX0 (k + 1) _ fd9 ["rows"] (spHeads K) := fun k => ok_heads (k := k) F9
  have gShow : ∀ k, FnOk P w K mg base CX0 (k + 1) _ fd10 ["shown", "step"] (spShow K) := fun k => ok_show (k := k) F10
  have gRea : ∀ k, FnOk P w K mg base CX0 (k + 3) _ fd11 ["program", "world"] (spReasons K (He.ga K "Program")) := fun k => ok_reasons (k := k + 1) F11 T cP PR (gMeet (k + 1)) (gMeetD (k + 1)) B6 F6.kp M6 (gRules k) BRules (gHasD (k + 1)) B5 F5.kp M5
  have gSteps : ∀ k, FnOk P w K mg base CX0 (k + 4) _ fd12 ["program"] (spSteps K (He.ga K "Program")) := fun k => ok_steps (pR := He.ga K "Program") (k := k + 2) F12 T cP PN (gRea k) B11 F11.kp M11 (gNames (k + 1)) BNames (gHeads (k + 2)) B9 F9.kp M9 (gMeet (k + 2)) B6 F6.kp M6
  have gFou : ∀ k, FnOk P w K mg base CX0 (k + 5) _ fd13 ["program"] (spFounded K (He.ga K "Program")) := fun k => ok_founded (k := k + 3) F13 T cP PN (gSteps k) B12 F12.kp M12 (gNames (k + 2)) BNames (gShow (k + 3)) B10 F10.kp M10
  have gCP : ∀ k, FnOk P w K mg base (L2.CX P w) (k + 3) _ fd7 ["thing"] (spCheckProgram K (He.ga K "Program") (He.ga K "NotAProgram")) := fun k => ok_checkProgram (k := k + 1) F7 T PG (xE k)
  have gCB : ∀ k, FnOk P w K mg base (L2.CX P w) (k + 4) _ fd8 ["program"] (spCheckBasic K (He.ga K "Program") (He.ga K "NotAProgram") (He.ga K "NotBasic")) := fun k => ok_checkBasic (k := k + 1) F8 T cP PR (gCP k) B7 F7.kp M7 (gRules (k + 1)) BRules (xB (k + 1))
  have gVal : ∀ k, FnOk P w K mg base (L2.CX P w) (k + 6) _ fd14 ["program"] (spValues K (He.ga K "Program") (He.ga K "NotAProgram") (He.ga K "NotBasic")) := fun k => ok_values (k := k + 4) F14 (gCB (k + 1)) B8 F8.kp M8 (gFou k) B13 F13.kp M13
  have gRec : ∀ k, FnOk P w K mg base (L2.CX P w) (k + 5) _ fd15 ["program"] (spRecord K (He.ga K "Program") (He.ga K "NotAProgram") (He.ga K "NotBasic")) := fun k => ok_record (k := k + 3) F15 (gCB k) B8 F8.kp M8
  have gChk : ∀ k, FnOk P w K mg base (L2.CX P w) (k + 5) _ fd16 ["program", "thing"] (spCheckRecord K (He.ga K "Program") (He.ga K "NotAProgram") (He.ga K "NotBasic")) := fun k => ok_checkRecord (k := k + 3) F16 (gCB k) B8 F8.kp M8
  have gAt : ∀ k, FnOk P w K mg base CX0 (k + 1) _ fd17 ["script", "k"] (spLawAt K) := fun k => ok_lawAt (k := k) F17 T
  have gMix : ∀ k, FnOk P w K mg base CX0 (k + 1) _ fd18 ["cell", "k"] (spLawMixed) := fun k => ok_lawMixed (k := k) F18 T
  have gPur : ∀ k, FnOk P w K mg base CX0 (k + 2) _ fd19 ["script", "at"] (spLawPurse K) := fun k => ok_lawPurse (k := k + 1) F19 T (gAt k) B17 F17.kp M17
  have gDraw : ∀ k, FnOk P w K mg base CX0 (k + 2) _ fd20 ["purse", "out_of"] (spLawDraw) := fun k => ok_lawDraw (k := k + 1) F20 T (gMix k) B18 F18.kp M18
  have gSome : ∀ k, FnOk P w K mg base CX0 (k + 3) _ fd21 ["purse", "names", "most"] (spLawSome K) := fun k => ok_lawSome (k := k + 2) F21 T (gDraw k) B20 F20.kp M20
  have gRule : ∀ k, FnOk P w K mg base CX0 (k + 4) _ fd22 ["purse", "names", "sort"] (spLawRule K) := fun k => ok_lawRule (k := k + 3) F22 T (gDraw (k + 1)) B20 F20.kp M20 (gSome k) B21 F21.kp M21
  have gLRules : ∀ k, FnOk P w K mg base CX0 (k + 5) _ fd23 ["purse", "names", "sort", "most"] (spLawRules K) := fun k => ok_lawRules (k := k + 4) F23 T (gDraw (k + 2)) B20 F20.kp M20 (gRule k) B22 F22.kp M22
  have gLNam : ∀ k, FnOk P w K mg base CX0 (k + 1) _ fd24 ["rules"] (spLawNames K) := fun k => ok_lawNames (k := k) F24 T
  have gClo : ∀ k, FnOk P w K mg base CX0 (k + 1) _ fd25 ["rules", "barring"] (spLawClosed K) := fun k => ok_lawClosed (k := k) F25 T
  have gLVal : ∀ k, FnOk P w K mg base CX0 (k + 2) _ fd26 ["rules", "names"] (spLawValues K) := fun k => ok_lawValues (k := k + 1) F26 T Td (gClo k) B25 F25.kp M25
  have gCau : ∀ k, FnOk P w K mg base CX0 (k + 7) _ fd27 ["way", "thing"] (spLawCaught K (He.ga K "Program") (He.ga K "NotAProgram") (He.ga K "NotBasic")) := fun k => ok_lawCaught (k := k + 6) F27 T EK (gVal k) B14 F14.kp M14 (gRec (k + 1)) B15 F15.kp M15 (gChk (k + 1)) B16 F16.kp M16
  have kb7 := kbn_fun (ps := ["program"]) F14 0 ["program"] kwOnly kwOnly (fun _ _ _ _ _ _ us ws h1 h2 => match us, ws, h1, h2 with | [], [_], _, _ => rfl) fun _ b => b
  exact ok_law (k := 6) F28 T Td mProgram CR CM (gOf 0) MK (gInit 1) (gPur 5) B19 F19.kp M19 (gDraw 5) B20 F20.kp M20 (gLRules 2) B23 F23.kp M23 (gLNam 6) B24 F24.kp M24 (gLVal 5) B26 F26.kp M26 (gCau 0) B27 F27.kp M27 (gVal 1) B14 kb7 F14.kp M14
end Rw
open PySem PySem.W PySem.Calls PyProof.Rows
theorem PySem.Challenge.cw_ruleworlds_k30_founded_values_holds : PySem.Challenge.rw_ruleworlds_k30_founded_values.Holds := by
  w_on; o_law
  refine HandSHeadRun.head_any (r := OpenLaw.row PySem.Challenge.rw_ruleworlds_k30_founded_values) (q := view (OpenLaw.row PySem.Challenge.rw_ruleworlds_k30_founded_values).prog [51]) (H := Rw.hH) (ob := Rw.hob) (M := 9000) (loose := Rw.hloose) (d := HandSHeadRun.topDef (OpenLaw.row PySem.Challenge.rw_ruleworlds_k30_founded_values).prog 51) (kwd := []) Rw.hob_eq
    (by kernel_rfl) (fun s => by kernel_rfl) Rw.hrun (by kernel_rfl) (by kernel_rfl) (by kernel_rfl) (by rfl) (by first | assumption | decide +kernel) (by decide +kernel) ⟨rfl, rfl, rfl, rfl, rfl, by decide +kernel⟩ ?hw ?hc
  case hw => w_witness2
  case hc =>
    refine L2.walk_ofE (l := PySem.Challenge.rw_ruleworlds_k30_founded_values) (n := 63) (k := 8) (x := "script") (CX := L2.CX0) rfl (by decide) (by kernel_rfl) ⟨rfl, by decide, by decide⟩ ?F (fun _ _ _ _ z => z)
    intro w mg fa h Y G hmg0
    obtain ⟨K, KX, c, ce⟩ := Y
    have hmg : mg ("law" : PySem.Str) = some (.ref fa) := by
      have e : (HandSHeadRun.topDef (OpenLaw.row PySem.Challenge.rw_ruleworlds_k30_founded_values).prog 51).name = ("law" : PySem.Str) := by kernel_rfl
      rw [← e]
      exact hmg0
    obtain ⟨fd, hb, hF⟩ := Rw.hfacts (P := (PySem.Challenge.rw_ruleworlds_k30_founded_values).prog) (w := w) KX G hmg c ce
    exact ⟨K, fd, Rw.spLaw K, KX, hb, fun H a ns hl _ hS => ⟨a, ns, rfl, hS, hl, fun _ => rfl⟩, hF⟩
